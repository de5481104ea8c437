/-
  Texts of one chapter, merged.
-/
import Derived.Below
import Derived.Laws.OwnMore
import Derived.Deep.AppendLies
import Derived.Deep.Draws
import Derived.Lib.Hide
import Derived.Lib.Bytealg
import Derived.Lib.Strings
import GoSem.Core.Utf8
import Derived.Test.YtgfihdfncddpaaaGreatDoorProg
import Derived.Laws.CopyOwn
import Derived.Deep.WholeRow
import Derived.Deep.RegionLawGrows
import Derived.Stop.BytesEq
import Derived.Laws.BytesString
import Derived.Laws.IdiomStrings
import Derived.Laws.MakeOwn
import Derived.RegionTactic
import Derived.OwnWalk
import Derived.WalkKit
import Derived.ProofKit
import Derived.Test.YtgfihdfncddpaaaGreatDoorRows
import Derived.Laws.BitsAllLaws
import Derived.Laws.BitsLemmas
import Derived.Deep.OwnRows
import Derived.Deep.RegionHeld3
set_option linter.unusedVariables false
set_option linter.unusedSimpArgs false
/-! Words for rows of bytes in memory: a slice of bytes that reads as a list of numbers 0 to 255, nil let in. Plain lemmas, no program. -/
namespace Go.Proofs.YtgfihdfncddpaaaGreatDoor.Hd
open Go.RowKit

/-- Where 's[k:]' begins. -/
def cutA (A : Option Addr) (c k : Nat) : Option Addr := if c = k then A else A.map (·.add k)

/-- The slice '.slice A n c' reads as the bytes zs, in a block below B. -/
def Rd (w : World) (B : Nat) (A : Option Addr) (n : Nat) (zs : List Int) : Prop :=
  zs.length = n ∧ (∀ z ∈ zs, 0 ≤ z ∧ z ≤ 255) ∧
    (0 < n → ∃ b off, A = some ⟨b, off, none⟩ ∧ b < B ∧ ∀ j z, zs[j]? = some z → w.cell? ⟨b, off + j, none⟩ = some (.int .u8 z))

section
variable {w w' : World} {B B' n : Nat} {A : Option Addr} {zs : List Int}
theorem Rd.len (h : Rd w B A n zs) : zs.length = n := h.1
theorem Rd.bd (h : Rd w B A n zs) : ∀ z ∈ zs, 0 ≤ z ∧ z ≤ 255 := h.2.1
theorem Rd.none_ : Rd w B A 0 [] := ⟨rfl, by simp, fun h => absurd h (by omega)⟩
theorem Rd.at_ {k : Nat} (h : Rd w B A n zs) (hk : k < n) :
    ∃ b off z, A = some ⟨b, off, none⟩ ∧ b < B ∧ 0 ≤ z ∧ z ≤ 255 ∧ zs[k]? = some z ∧ w.cell? ⟨b, off + k, none⟩ = some (.int .u8 z) := by
  obtain ⟨b, off, e, hb, hc⟩ := h.2.2 (by omega)
  have hl : k < zs.length := by have := h.1; omega
  have hz := h.2.1 zs[k] (List.getElem_mem hl)
  exact ⟨b, off, zs[k], e, hb, hz.1, hz.2, List.getElem?_eq_getElem hl, hc k _ (List.getElem?_eq_getElem hl)⟩
theorem Rd.keep (h : Rd w B A n zs) (hk : ∀ p : Addr, p.block < B → w'.cell? p = w.cell? p) : Rd w' B A n zs :=
  ⟨h.1, h.2.1, fun hn => by
    obtain ⟨b, off, e, hb, hc⟩ := h.2.2 hn
    exact ⟨b, off, e, hb, fun j z hz => (hk _ hb).trans (hc j z hz)⟩⟩
theorem Rd.more (h : Rd w B A n zs) (hB : B ≤ B') : Rd w B' A n zs :=
  ⟨h.1, h.2.1, fun hn => by
    obtain ⟨b, off, e, hb, hc⟩ := h.2.2 hn
    exact ⟨b, off, e, by omega, hc⟩⟩
theorem Rd.below (h : Rd w B A n zs) (hb : Below B w w') : Rd w' B A n zs := h.keep fun _ hp => hb.cell hp
theorem Rd.drew (h : Rd w B A n zs) : Rd w.drew B A n zs := h
theorem Rd.alloc (h : Rd w B A n zs) (hB : B ≤ w.heap.size) (o : Obj) : Rd (w.alloc o) B A n zs := h.keep fun p hp => World.cell?_alloc_lt w o p (by omega)
theorem Rd.setCell (h : Rd w B A n zs) {p : Addr} (hB : B ≤ p.block) (u : Value) : Rd (w.setCell p u) B A n zs :=
  h.keep fun q hq => World.cell?_setCell_other w p q u (fun e => by subst e; omega)
theorem Rd.cut {c k : Nat} (h : Rd w B A n zs) (hk : k ≤ n) (hc : n ≤ c) : Rd w B (cutA A c k) (n - k) (zs.drop k) := by
  unfold cutA
  refine ⟨by rw [List.length_drop, h.1], fun z hz => h.2.1 z (List.mem_of_mem_drop hz), fun hn => ?_⟩
  obtain ⟨b, off, rfl, hb, hcell⟩ := h.2.2 (by omega)
  rw [if_neg (by omega)]
  refine ⟨b, off + k, ?_, hb, fun j z hz => ?_⟩
  · simp [Addr.add]
  · rw [Nat.add_assoc]
    exact hcell _ z (by rw [← hz, List.getElem?_drop])
end

theorem ret_bool {a b : Bool} (h : a = b) : Ending.returned (.bool a) = .returned (.bool b) := by rw [h]
end Go.Proofs.YtgfihdfncddpaaaGreatDoor.Hd

/-! Plain mathematics of texts and paths, over lists of bytes: nothing of the program is spoken of. -/
namespace Go.Proofs.YtgfihdfncddpaaaGreatDoor.Hd.S
namespace M

/-- What lies between slashes. -/
def parts : List UInt8 → List (List UInt8)
  | [] => [[]]
  | c :: l => if c = 47 then [] :: parts l else match parts l with
    | [] => [[c]]
    | p :: ps => (c :: p) :: ps

end M
end Go.Proofs.YtgfihdfncddpaaaGreatDoor.Hd.S

/-! Plain mathematics of UTF-8, over lists of bytes: the characters as the document tells them, and what the language's own decoder makes of them. -/
namespace Go.Proofs.YtgfihdfncddpaaaGreatDoor.Hd.S
namespace M

/-- The k-th byte as a number. -/
def at' (l : List UInt8) (k : Nat) : Nat := (l.getD k 0).toNat
/-- Is there a byte at k, from lo to hi? -/
def tail (l : List UInt8) (k lo hi : Nat) : Bool := decide (k < l.length) && decide (lo ≤ at' l k) && decide (at' l k ≤ hi)

def lo (c : Nat) : Nat := if c = 224 then 160 else if c = 240 then 144 else 128
def hi (c : Nat) : Nat := if c = 237 then 159 else if c = 244 then 143 else 191
def two (l : List UInt8) : Bool := tail l 1 (lo (at' l 0)) (hi (at' l 0)) && tail l 2 128 191

end M
end Go.Proofs.YtgfihdfncddpaaaGreatDoor.Hd.S

/-! Words for blocks of bytes: a block that is known whole, as a list of numbers 0 to 255; its loads, stores, copies. -/
namespace Go.Proofs.YtgfihdfncddpaaaGreatDoor.Hd
open Go.RowKit

/-- The cells of bytes. -/
def bcells (zs : List Int) : List Value := zs.map (Value.int .u8)
theorem bcells_at {zs : List Int} {j : Nat} {z : Int} (h : zs[j]? = some z) : (bcells zs)[j]? = some (.int .u8 z) := by simp [bcells, h]
theorem bcells_set (a : List Int) (k : Nat) (z : Int) : (bcells a).set k (.int .u8 z) = bcells (a.set k z) := by simp [bcells, List.map_set]

/-- Block b is known whole: the bytes zs, as cells of type t, none frozen. -/
def Arr (w : World) (b : Nat) (t : TypeId) (zs : List Int) : Prop := w.heap[b]? = some (.cells (bcells zs).toArray t (0, 0))
section
variable {w w' : World} {b : Nat} {t : TypeId} {zs : List Int}
theorem Arr.out (h : Arr w b t zs) : w.heap[b]? = some (.cells (bcells zs).toArray t (0, 0)) := h
theorem Arr.lt (h : Arr w b t zs) : b < w.heap.size := (Array.getElem?_eq_some_iff.1 h).1
theorem Arr.cell (h : Arr w b t zs) {i : Nat} {z : Int} (hz : zs[i]? = some z) : w.cell? ⟨b, i, none⟩ = some (.int .u8 z) := by
  rw [cell_of_row w b i _ t (0, 0) h]
  simpa using bcells_at hz
theorem Arr.frozen (h : Arr w b t zs) (i : Nat) : w.frozen? ⟨b, i, none⟩ = false := frozen_of_row w b i _ t h
theorem Arr.set (h : Arr w b t zs) (i : Nat) (v : Int) : Arr (w.setCell ⟨b, i, none⟩ (.int .u8 v)) b t (zs.set i v) := by
  unfold Arr
  rw [heap_setCell_same w b i _ t _ h]
  simp [← bcells_set]
theorem Arr.of_block (h : Arr w b t zs) (e : w'.heap[b]? = w.heap[b]?) : Arr w' b t zs := e.trans h
theorem Arr.alloc (h : Arr w b t zs) (o : Obj) : Arr (w.alloc o) b t zs := h.of_block (by show (w.heap.push o)[b]? = _; rw [Array.getElem?_push, if_neg (Nat.ne_of_lt h.lt)])
theorem Arr.drew (h : Arr w b t zs) : Arr w.drew b t zs := h
theorem Arr.below {B : Nat} (h : Arr w b t zs) (hb : Below B w w') (hB : b < B) : Arr w' b t zs := h.of_block (hb.block b hB)
theorem Arr.new (w : World) (t : TypeId) (zs : List Int) : Arr (w.alloc (.cells (bcells zs).toArray t)) w.heap.size t zs := heap_alloc_new w _
theorem Arr.rd (h : Arr w b t zs) (hz : ∀ z ∈ zs, 0 ≤ z ∧ z ≤ 255) {B : Nat} (hB : b < B) : Rd w B (some ⟨b, 0, none⟩) zs.length zs :=
  ⟨rfl, hz, fun _ => ⟨b, 0, rfl, hB, fun j z hj => by rw [Nat.zero_add]; exact h.cell hj⟩⟩
theorem Arr.row (h : Arr w b t zs) {cur : List Value} (e : bcells zs = cur) : w.heap[b]? = some (.cells cur.toArray t (0, 0)) := by rw [← e]; exact h
end

theorem below_drew' {B : Nat} {a w : World} (h : Below B a w) : Below B a w.drew := ⟨h.os, h.tape, h.output, h.size, h.block⟩
/-! The array's type. -/
/-- A block of noughts. -/
def nils (n : Nat) : List Int := List.replicate n 0
theorem nils_len (n : Nat) : (nils n).length = n := by simp [nils]
theorem nils_bd (n : Nat) : ∀ z ∈ nils n, 0 ≤ z ∧ z ≤ 255 := by
  intro z hz
  rw [(List.mem_replicate.1 hz).2]; decide
theorem Arr.setRow {w : World} {g : Nat} {t : TypeId} {old : List Int} (h : Arr w g t old) (zs : List Int) : Arr (w.setRow g (bcells zs).toArray) g t zs := setRow_heap w g _ _ t _ h
end Go.Proofs.YtgfihdfncddpaaaGreatDoor.Hd

/-! Plain arithmetic of layer 1: fields of digits and of bits, as lists of numbers 0 to 255. No program. -/
namespace Go.Proofs.YtgfihdfncddpaaaGreatDoor.Hd
namespace M

/-- An octal digit's byte. -/
def dig (c : Int) : Bool := decide (48 ≤ c) && decide (c ≤ 55)
/-- What may stand behind the digits. -/
def fil (c : Int) : Bool := c == 32 || c == 0
def val (ds : List Int) : Int := ds.foldl (fun n d => 8 * n + (d - 48)) 0
def most : Int := 4611686018427387904

def rest (zs : List Int) : List Int := zs.dropWhile (· == 32)
def digs (zs : List Int) : List Int := (rest zs).takeWhile dig
def tail (zs : List Int) : List Int := (rest zs).dropWhile dig
def octOk (zs : List Int) : Bool := (tail zs).all fil && decide (val (digs zs) ≤ most)
def octN (zs : List Int) : Int := if octOk zs then val (digs zs) else 0

/-! takeWhile by length -/
theorem take_snoc' {zs : List Int} {k : Nat} {z : Int} (h : zs[k]? = some z) : zs.take (k + 1) = zs.take k ++ [z] := by
  rw [List.take_add_one, h]; rfl
/-! ### Bits -/
/-- The first byte of bits, without the mark, with its sign. -/
def first (c : Int) : Int := if c < 192 then c - 128 else c - 256
def bits (z : Int) (l : List Int) : Int := l.foldl (fun n c => 256 * n + c) (first z)
def binV : List Int → Int
  | [] => 0
  | z :: l => bits z l
def marked : List Int → Bool
  | [] => false
  | z :: _ => decide (128 ≤ z)
def binOk (zs : List Int) : Bool := marked zs && (decide (-most ≤ binV zs) && decide (binV zs ≤ most))
def binN (zs : List Int) : Int := if binOk zs then binV zs else 0

theorem bits_snoc (z : Int) (l : List Int) (c : Int) : bits z (l ++ [c]) = 256 * bits z l + c := by simp [bits, List.foldl_append]
theorem foldb_over (l : List Int) : ∀ n : Int, most < n → (∀ c ∈ l, 0 ≤ c ∧ c ≤ 255) → most < l.foldl (fun n c => 256 * n + c) n := by
  induction l with
  | nil => intro n hn _; exact hn
  | cons a l ih =>
    intro n hn hd
    have ha := hd a (by simp)
    exact ih _ (by show most < 256 * n + a; unfold most at hn ⊢; omega) (fun d h => hd d (by simp [h]))
theorem foldb_under (l : List Int) : ∀ n : Int, n < -most → (∀ c ∈ l, 0 ≤ c ∧ c ≤ 255) → l.foldl (fun n c => 256 * n + c) n < -most := by
  induction l with
  | nil => intro n hn _; exact hn
  | cons a l ih =>
    intro n hn hd
    have ha := hd a (by simp)
    exact ih _ (by show 256 * n + a < -most; unfold most at hn ⊢; omega) (fun d h => hd d (by simp [h]))
theorem bits_split (z : Int) (l : List Int) (k : Nat) : bits z l = (l.drop k).foldl (fun n c => 256 * n + c) (bits z (l.take k)) := by
  unfold bits
  rw [← List.foldl_append, List.take_append_drop]
/-- A round that stops: the number before it is beyond a 256th of the most, and one more byte follows. -/
theorem bits_stop {z : Int} {l : List Int} {k : Nat} (hk : k < l.length) (hl : ∀ c ∈ l, 0 ≤ c ∧ c ≤ 255)
    (h : 18014398509481984 < bits z (l.take k) ∨ bits z (l.take k) < -18014398509481984) : most < bits z l ∨ bits z l < -most := by
  have hc := hl l[k] (List.getElem_mem hk)
  have e : bits z (l.take (k + 1)) = 256 * bits z (l.take k) + l[k] := by
    rw [take_snoc' (List.getElem?_eq_getElem hk), bits_snoc]
  rcases h with h | h
  · left
    rw [bits_split z l (k + 1)]
    exact foldb_over _ _ (by rw [e]; unfold most; omega) (fun c hc => hl c (List.mem_of_mem_drop hc))
  · right
    rw [bits_split z l (k + 1)]
    exact foldb_under _ _ (by rw [e]; unfold most; omega) (fun c hc => hl c (List.mem_of_mem_drop hc))

theorem binN_no {zs : List Int} (h : binOk zs = false) : binN zs = 0 := by simp [binN, h]
theorem binN_yes {zs : List Int} (h : binOk zs = true) : binN zs = binV zs := by simp [binN, h]
/-! ### What is put -/
/-- Cell j behind k rounds of PutOctal. -/
def octC (n : Int) (N k j : Nat) : Int := if N - 1 ≤ j + k ∧ j + 1 < N then 48 + (n / 8 ^ (N - 2 - j)) % 8 else 0
def octG (n : Int) (N j : Nat) : Int := if j + 1 < N then 48 + (n / 8 ^ (N - 2 - j)) % 8 else 0
theorem octC_zero (n : Int) (N j : Nat) : octC n N 0 j = 0 := by
  unfold octC
  rw [if_neg (by omega)]
theorem octC_end (n : Int) (N j : Nat) : octC n N (N - 1) j = octG n N j := by
  unfold octC octG
  by_cases h : j + 1 < N
  · rw [if_pos ⟨by omega, h⟩, if_pos h]
  · rw [if_neg (by omega), if_neg h]
theorem octC_succ (n : Int) (N k j : Nat) (hk : k < N - 1) : (if j = N - 2 - k then 48 + (n / 8 ^ k) % 8 else octC n N k j) = octC n N (k + 1) j := by
  by_cases h : j = N - 2 - k
  · rw [if_pos h]
    unfold octC
    rw [if_pos ⟨by omega, by omega⟩, show N - 2 - j = k by omega]
  · rw [if_neg h]
    unfold octC
    by_cases h2 : N - 1 ≤ j + k ∧ j + 1 < N
    · rw [if_pos h2, if_pos ⟨by omega, h2.2⟩]
    · rw [if_neg h2, if_neg (by omega)]
theorem octG_bd (n : Int) (N j : Nat) : 0 ≤ octG n N j ∧ octG n N j ≤ 255 := by
  unfold octG; split <;> omega
def listOf (g : Nat → Int) (N : Nat) : List Int := (List.range N).map g
theorem listOf_len (g : Nat → Int) (N : Nat) : (listOf g N).length = N := by simp [listOf]
theorem listOf_at {g : Nat → Int} {N j : Nat} {z : Int} (h : (listOf g N)[j]? = some z) : j < N ∧ g j = z := by
  unfold listOf at h
  rw [List.getElem?_map] at h
  by_cases hj : j < N
  · rw [List.getElem?_range hj] at h
    exact ⟨hj, by simpa using h⟩
  · rw [List.getElem?_eq_none (by simp; omega)] at h
    cases h
def oct (n : Int) (N : Nat) : List Int := listOf (octG n N) N
def octFits (n wide : Int) : Bool := decide (2 ≤ wide) && decide (wide ≤ 32) && decide (0 ≤ n) && decide (n ≤ most) && decide (n / 8 ^ (wide.toNat - 1) = 0)
def octR (n wide : Int) : List Int := if octFits n wide then oct n wide.toNat else []
theorem shr8_succ (n : Int) (k : Nat) : n / 8 ^ (k + 1) = n / 8 ^ k / 8 := by
  rw [Int.pow_succ, Int.ediv_ediv_of_nonneg (Int.pow_nonneg (by decide))]
theorem shr8_nonneg {n : Int} (h : 0 ≤ n) (k : Nat) : 0 ≤ n / 8 ^ k := Int.ediv_nonneg h (Int.pow_nonneg (by decide))
theorem shr8_le {n : Int} (h : 0 ≤ n) (k : Nat) : n / 8 ^ k ≤ n := Int.ediv_le_self _ h

/-- Cell j behind k rounds of PutBinary. -/
def binC (n : Int) (N k j : Nat) : Int := if N ≤ j + k ∧ j < N then (n / 256 ^ (N - 1 - j)) % 256 else 0
def binG (n : Int) (N j : Nat) : Int := if j = 0 then (n / 256 ^ (N - 1)) % 128 + 128 else (n / 256 ^ (N - 1 - j)) % 256
theorem binC_zero (n : Int) (N j : Nat) : binC n N 0 j = 0 := by
  unfold binC
  rw [if_neg (by omega)]
theorem binC_succ (n : Int) (N k j : Nat) (hk : k < N) : (if j = N - 1 - k then (n / 256 ^ k) % 256 else binC n N k j) = binC n N (k + 1) j := by
  by_cases h : j = N - 1 - k
  · rw [if_pos h]
    unfold binC
    rw [if_pos ⟨by omega, by omega⟩, show N - 1 - j = k by omega]
  · rw [if_neg h]
    unfold binC
    by_cases h2 : N ≤ j + k ∧ j < N
    · rw [if_pos h2, if_pos ⟨by omega, h2.2⟩]
    · rw [if_neg h2, if_neg (by omega)]
theorem binC_first (n : Int) (N : Nat) (h : 0 < N) : binC n N N 0 = (n / 256 ^ (N - 1)) % 256 := by
  unfold binC
  rw [if_pos ⟨by omega, h⟩, Nat.sub_zero]
theorem binC_end (n : Int) (N j : Nat) (h : j < N) : (if j = 0 then (n / 256 ^ (N - 1)) % 256 % 128 + 128 else binC n N N j) = binG n N j := by
  unfold binG
  by_cases h0 : j = 0
  · rw [if_pos h0, if_pos h0]
    omega
  · rw [if_neg h0, if_neg h0]
    unfold binC
    rw [if_pos ⟨by omega, h⟩]
theorem binG_bd (n : Int) (N j : Nat) : 0 ≤ binG n N j ∧ binG n N j ≤ 255 := by
  unfold binG; split <;> omega
def bin (n : Int) (N : Nat) : List Int := listOf (binG n N) N
def binFits (n wide : Int) : Bool := decide (2 ≤ wide) && decide (wide ≤ 32) && binOk (bin n wide.toNat) && (binN (bin n wide.toNat) == n)
def binR (n wide : Int) : List Int := if binFits n wide then bin n wide.toNat else []
theorem shr256_succ (n : Int) (k : Nat) : n / 256 ^ (k + 1) = n / 256 ^ k / 256 := by
  rw [Int.pow_succ, Int.ediv_ediv_of_nonneg (Int.pow_nonneg (by decide))]
theorem shr256_bd {n : Int} (h : -9223372036854775808 ≤ n ∧ n ≤ 9223372036854775807) (k : Nat) : -9223372036854775808 ≤ n / 256 ^ k ∧ n / 256 ^ k ≤ 9223372036854775807 := by
  induction k with
  | zero => simpa using h
  | succ k ih => rw [shr256_succ]; omega

def putFits (n wide : Int) : Bool := octFits n wide || binFits n wide
def putR (n wide : Int) : List Int := if octFits n wide then oct n wide.toNat else binR n wide
end M
end Go.Proofs.YtgfihdfncddpaaaGreatDoor.Hd

/-! Plain arithmetic of layer 5: what a block's bytes come to, its field, what is sealed. No program. -/
namespace Go.Proofs.YtgfihdfncddpaaaGreatDoor.Hd
namespace M
open Go

/-- What a byte at a place counts: unsigned, signed; whether it is above 127, elsewhere than in the field. -/
def cu (i : Nat) (z : Int) : Int := if 148 ≤ i ∧ i < 156 then 32 else z
def cs (i : Nat) (z : Int) : Int := if 148 ≤ i ∧ i < 156 then 32 else if 127 < z then z - 256 else z
def hi (i : Nat) (z : Int) : Int := if 148 ≤ i ∧ i < 156 then 0 else if 127 < z then 1 else 0
def tot (f : Nat → Int → Int) : Nat → List Int → Int
  | _, [] => 0
  | i, z :: l => f i z + tot f (i + 1) l
theorem tot_app (f : Nat → Int → Int) : ∀ (a b : List Int) (i : Nat), tot f i (a ++ b) = tot f i a + tot f (i + a.length) b
  | [], b, i => by simp [tot]
  | z :: a, b, i => by
    have ih := tot_app f a b (i + 1)
    rw [List.cons_append, tot, tot, ih, List.length_cons, show i + 1 + a.length = i + (a.length + 1) by omega]
    omega
theorem tot_take (f : Nat → Int → Int) {zs : List Int} {k : Nat} {z : Int} (h : zs[k]? = some z) : tot f 0 (zs.take (k + 1)) = tot f 0 (zs.take k) + f k z := by
  have hk : k < zs.length := (List.getElem?_eq_some_iff.1 h).1
  rw [take_snoc' h, tot_app, List.length_take, Nat.min_eq_left (by omega), tot, tot, Nat.zero_add, Int.add_zero]
theorem tot_bd (f : Nat → Int → Int) (lo up : Int) : ∀ (zs : List Int) (i : Nat), (∀ z ∈ zs, ∀ j, lo ≤ f j z ∧ f j z ≤ up) → lo * zs.length ≤ tot f i zs ∧ tot f i zs ≤ up * zs.length
  | [], i, _ => by simp [tot]
  | z :: l, i, h => by
    have ih := tot_bd f lo up l (i + 1) (fun x hx => h x (by simp [hx]))
    have h1 := h z (by simp) i
    rw [tot, List.length_cons, Int.natCast_add, Int.mul_add, Int.mul_add]
    simp only [Int.natCast_one, Int.mul_one]
    omega
theorem cu_bd {i : Nat} {z : Int} (h : 0 ≤ z ∧ z ≤ 255) : 0 ≤ cu i z ∧ cu i z ≤ 255 := by unfold cu; split <;> omega
theorem tot_cu_bd {zs : List Int} (i : Nat) (h : ∀ z ∈ zs, 0 ≤ z ∧ z ≤ 255) : 0 ≤ tot cu i zs ∧ tot cu i zs ≤ 255 * zs.length := by
  have := tot_bd cu 0 255 zs i (fun z hz j => cu_bd (h z hz))
  omega
theorem cu_out {i : Nat} {z : Int} (h : i < 148 ∨ 156 ≤ i) : cu i z = z := by unfold cu; rw [if_neg (by omega)]
theorem cu_in {i : Nat} {z : Int} (h : 148 ≤ i) (h' : i < 156) : cu i z = 32 := by unfold cu; rw [if_pos ⟨h, h'⟩]
def uns (zs : List Int) : Int := tot cu 0 zs
def sgn (zs : List Int) : Int := tot cs 0 zs
/-! ### The field -/
def fld (zs : List Int) : List Int := (zs.drop 148).take 8
def toldOk (zs : List Int) : Bool := decide (zs.length = 512) && octOk (fld zs)
def toldN (zs : List Int) : Int := if zs.length = 512 then octN (fld zs) else 0
def right (zs : List Int) : Bool := toldOk zs && (toldN zs == uns zs || toldN zs == sgn zs)
def zero (zs : List Int) : Bool := decide (zs.length = 512) && zs.all (· == 0)
def pad (zs : List Int) : List Int := (zs ++ List.replicate 512 0).take 512
def sld (zs : List Int) : List Int := splice (pad zs) 148 (oct (uns (pad zs)) 7 ++ [32])

theorem pad_len (zs : List Int) : (pad zs).length = 512 := by unfold pad; rw [List.length_take, List.length_append, List.length_replicate]; omega
theorem pad_bd {zs : List Int} (h : ∀ z ∈ zs, 0 ≤ z ∧ z ≤ 255) : ∀ z ∈ pad zs, 0 ≤ z ∧ z ≤ 255 := by
  intro z hz
  rcases List.mem_append.1 (List.mem_of_mem_take hz) with h1 | h1
  · exact h z h1
  · rw [(List.mem_replicate.1 h1).2]; decide
theorem pad_nil : pad [] = List.replicate 512 0 := by unfold pad; rw [List.nil_append]; exact List.take_of_length_le (by rw [List.length_replicate]; exact Nat.le_refl _)
/-- One byte more of what is copied. -/
theorem pad_step {zs : List Int} {k : Nat} {z : Int} (hk : k < 512) (h : zs[k]? = some z) : (pad (zs.take k)).set k z = pad (zs.take (k + 1)) := by
  have hl : k < zs.length := (List.getElem?_eq_some_iff.1 h).1
  have e : zs.take (k + 1) = zs.take k ++ [z] := take_snoc' h
  apply List.ext_getElem?
  intro j
  have hk1 : (zs.take k).length = k := by rw [List.length_take]; omega
  rw [List.getElem?_set]
  by_cases hj : k = j
  · subst hj
    rw [if_pos rfl, pad_len, if_pos hk]
    unfold pad
    rw [List.getElem?_take, if_pos hk, e, List.append_assoc, List.getElem?_append_right (by omega), hk1, Nat.sub_self]
    rfl
  · rw [if_neg hj]
    unfold pad
    rw [List.getElem?_take, List.getElem?_take]
    by_cases h5 : j < 512
    · rw [if_pos h5, if_pos h5, e, List.append_assoc]
      by_cases hjk : j < k
      · rw [List.getElem?_append_left (by omega), List.getElem?_append_left (by omega)]
      · rw [List.getElem?_append_right (by omega), List.getElem?_append_right (by omega), hk1, List.getElem?_append_right (by simp; omega)]
        rw [List.getElem?_replicate, List.getElem?_replicate, List.length_singleton, if_pos (by omega), if_pos (by omega)]
    · rw [if_neg h5, if_neg h5]
theorem pad_take (zs : List Int) : pad (zs.take 512) = pad zs := by
  unfold pad
  by_cases h : zs.length ≤ 512
  · rw [List.take_of_length_le h]
  · rw [List.take_append_of_le_length (by rw [List.length_take]; omega), List.take_append_of_le_length (by omega), List.take_take, Nat.min_self]
theorem pad_most {zs : List Int} {k : Nat} (h : k = zs.length ∨ k = 512) (hk : k ≤ zs.length) : pad (zs.take k) = pad zs := by
  rcases h with rfl | rfl
  · rw [List.take_length]
  · exact pad_take zs

/-- One byte more of what is laid in. -/
theorem splice_step {zs a : List Int} {o : Nat} {v : Int} (h : o + a.length < zs.length) : (splice zs o a).set (o + a.length) v = splice zs o (a ++ [v]) := by
  unfold splice
  have h1 : (zs.take o).length = o := by rw [List.length_take]; omega
  rw [List.set_append_right _ _ (by omega), h1, Nat.add_sub_cancel_left, List.set_append_right _ _ (Nat.le_refl _), Nat.sub_self, List.length_append, List.length_singleton]
  congr 1
  rw [List.append_assoc]
  congr 1
  obtain ⟨x, l, hx⟩ : ∃ x l, zs.drop (o + a.length) = x :: l := by
    cases hd : zs.drop (o + a.length) with
    | nil => rw [List.drop_eq_nil_iff] at hd; omega
    | cons x l => exact ⟨x, l, rfl⟩
  rw [hx, List.set_cons_zero, show o + (a.length + 1) = o + a.length + 1 by omega, ← List.drop_drop, hx]
  rfl
theorem splice_nil (zs : List Int) (o : Nat) : splice zs o [] = zs := by unfold splice; simp
theorem splice_len {zs a : List Int} {o : Nat} (h : o + a.length ≤ zs.length) : (splice zs o a).length = zs.length := length_splice zs o a h

theorem oct7_len (n : Int) : (oct n 7).length = 7 := listOf_len _ _
theorem oct8_len (n : Int) : (oct n 7 ++ [32]).length = 8 := by rw [List.length_append, oct7_len]; rfl
theorem oct_bd (n : Int) (N : Nat) : ∀ z ∈ oct n N, 0 ≤ z ∧ z ≤ 255 := by
  intro z hz
  obtain ⟨j, _, rfl⟩ := List.mem_map.1 hz
  exact octG_bd n N j
theorem oct8_bd (n : Int) : ∀ z ∈ oct n 7 ++ [32], 0 ≤ z ∧ z ≤ 255 := by
  intro z hz
  rcases List.mem_append.1 hz with h | h
  · exact oct_bd n 7 z h
  · rw [List.mem_singleton.1 h]; decide
theorem splice_bd {zs a : List Int} {o : Nat} (h : ∀ z ∈ zs, 0 ≤ z ∧ z ≤ 255) (ha : ∀ z ∈ a, 0 ≤ z ∧ z ≤ 255) : ∀ z ∈ splice zs o a, 0 ≤ z ∧ z ≤ 255 := by
  intro z hz
  unfold splice at hz
  rcases List.mem_append.1 hz with h1 | h1
  · exact h z (List.mem_of_mem_take h1)
  · rcases List.mem_append.1 h1 with h2 | h2
    · exact ha z h2
    · exact h z (List.mem_of_mem_drop h2)
theorem sld_len (zs : List Int) : (sld zs).length = 512 := by unfold sld; rw [splice_len (by rw [oct8_len, pad_len]; omega), pad_len]
theorem sld_bd {zs : List Int} (h : ∀ z ∈ zs, 0 ≤ z ∧ z ≤ 255) : ∀ z ∈ sld zs, 0 ≤ z ∧ z ≤ 255 := splice_bd (pad_bd h) (oct8_bd _)
theorem uns_pad_bd {zs : List Int} (h : ∀ z ∈ zs, 0 ≤ z ∧ z ≤ 255) : 0 ≤ uns (pad zs) ∧ uns (pad zs) ≤ 130560 := by
  have := tot_cu_bd 0 (pad_bd h)
  rw [pad_len] at this
  unfold uns
  omega
theorem fits7 {n : Int} (h : 0 ≤ n) (h' : n ≤ 262143) : octFits n 7 = true ∧ n / 8 ^ 6 = 0 ∧ octR n 7 = oct n 7 := by
  have hz : n / 8 ^ 6 = 0 := by
    rw [show (8 : Int) ^ 6 = 262144 from by decide]
    omega
  have hf : octFits n 7 = true := by
    unfold octFits most
    rw [show (7 : Int).toNat - 1 = 6 from rfl, hz]
    simp
    omega
  refine ⟨hf, hz, ?_⟩
  unfold octR
  rw [hf]
  rfl

end M
end Go.Proofs.YtgfihdfncddpaaaGreatDoor.Hd

/-! The contracts of Octal, the program's and the document's: of any bytes both answer the same number and the same bool. -/
namespace Go.Proofs.YtgfihdfncddpaaaGreatDoor.Hd
open Go.RowKit Go.Lib
theorem ret2_eq {a a' : Int} {b b' : Bool} (h : a = a') (h' : b = b') : Ending.returned (.tuple #[.int .i64 a, .bool b]) = .returned (.tuple #[.int .i64 a', .bool b']) := by rw [h, h']

end Go.Proofs.YtgfihdfncddpaaaGreatDoor.Hd

/-! The contracts of Binary and Parse, the program's and the document's: of any bytes both answer the same number and the same bool. -/
namespace Go.Proofs.YtgfihdfncddpaaaGreatDoor.Hd
open Go.RowKit Go.Lib
theorem first_lo (z : Int) (h : 128 ≤ z) (h' : z ≤ 255) : -64 ≤ M.first z := by unfold M.first; split <;> omega
theorem first_hi (z : Int) (h : 128 ≤ z) (h' : z ≤ 255) : M.first z ≤ 63 := by unfold M.first; split <;> omega

theorem firstRef_lo (z : Int) (h : 192 ≤ z) : z - 128 - 128 = M.first z := by unfold M.first; rw [if_neg (by omega)]; omega
theorem firstRef_hi (z : Int) (h : z < 192) : z - 128 = M.first z := by unfold M.first; rw [if_pos h]
theorem binOk_end (z : Int) (l : List Int) (hz : 128 ≤ z) : M.binOk (z :: l) = (decide (-4611686018427387904 ≤ M.bits z l) && decide (M.bits z l ≤ 4611686018427387904)) := by
  show (decide (128 ≤ z) && _) = _
  rw [show decide (128 ≤ z) = true by simpa using hz]
  rfl

set_option maxHeartbeats 800000 in
theorem binaryRef_any (A : Option Addr) (n c : Nat) (zs : List Int) (w : World) (B : Nat) (hr : Rd w B A n zs) (hn : n ≤ c) (hc : c ≤ maxLen) :
    Calls Tryz.prog 130 #[.slice A n c] w fun e w' => e = .returned (.tuple #[.int .i64 (M.binN zs), .bool (M.binOk zs)]) ∧ w = w' := by
  have hm : n ≤ maxLen := Nat.le_trans hn hc
  unfold maxLen at hm hc
  match zs with
  | [] =>
    obtain rfl : n = 0 := hr.len.symm
    clear hr
    go_enter Tryz.func130, Tryz.ntmps130
    go_wp2
    go_ret2
    exact ⟨ret2_eq rfl rfl, rfl⟩
  | z :: l =>
  have h0 : 0 < n := by have := hr.len; simp at this; omega
  have hlb := hr.bd
  have hll : l.length + 1 = n := by have := hr.len; simpa using this
  obtain ⟨b, off, z', hA, hbB, hz0, hz1, hzk, hcz⟩ := hr.at_ h0
  obtain rfl : z = z' := by simpa using hzk
  clear hzk
  rw [Nat.add_zero] at hcz
  subst hA
  have HLB : Hid (∀ c ∈ l, 0 ≤ c ∧ c ≤ 255) := hid fun c hc => hlb c (by simp [hc])
  have HLL := hid hll
  clear hlb hll
  have hn0 : ((n : Int) == 0) = false := by simp; omega
  by_cases hz : z < 128
  · have hno : M.binOk (z :: l) = false := by
      have : M.marked (z :: l) = false := by simp [M.marked]; omega
      simp [M.binOk, this]
    have HO := hid hno
    have HN := hid (M.binN_no hno)
    clear hno
    have hd : decide (z < 128) = true := by simpa using hz
    go_enter Tryz.func130, Tryz.ntmps130
    go_wp2
    go_ret2
    exact ⟨ret2_eq (by rw [HN.out]) (by rw [HO.out]), rfl⟩
  · have hd : decide (z < 128) = false := by simpa using hz
    have HOE := hid (binOk_end z l (by omega))
    have hf0 := first_lo z (by omega) hz1
    have hf1 := first_hi z (by omega) hz1
    by_cases h192 : z < 192
    case' pos =>
      have HF := hid (firstRef_hi z h192)
      have h64 : z - 128 < 64 := by omega
      clear h192
      go_enter Tryz.func130, Tryz.ntmps130
      go_wp2
      rw [HF.out]
    case' neg =>
      have HF := hid (firstRef_lo z (by omega))
      have h64 : 64 ≤ z - 128 := by omega
      clear h192
      go_enter Tryz.func130, Tryz.ntmps130
      go_wp2
      rw [HF.out]
    all_goals
      clear h64 hd
      go_loop [4, 5] (fun v i => ∃ k : Nat, k ≤ n - 1 ∧ i = .int .i64 ((k + 1 : Nat) : Int) ∧ v = .int .i64 (M.bits z (l.take k)) ∧ -M.most - 256 ≤ M.bits z (l.take k) ∧ M.bits z (l.take k) ≤ M.most + 255) (fun _ i => n - (intOf i).toNat)
      case atStart => exact ⟨0, Nat.zero_le _, rfl, rfl, by show _ ≤ M.first z; unfold M.most; omega, by show M.first z ≤ _; unfold M.most; omega⟩
      case round =>
        obtain ⟨k, hk, rfl, rfl, hv0, hv1⟩ := hrel
        by_cases hlt : k < n - 1
        · obtain ⟨b', off', y, hA', hbB', hy0, hy1, hyk, hcy⟩ := hr.at_ (k := k + 1) (by omega)
          injection hA' with hA'
          injection hA' with h1' h2'
          subst h1'
          subst h2'
          have hyk' : l[k]? = some y := by simpa using hyk
          have HZ : Hid (M.bits z (l.take (k + 1)) = 256 * M.bits z (l.take k) + y) := hid (by rw [M.take_snoc' hyk', M.bits_snoc])
          clear hyk hyk'
          have HST := hid (fun h => M.bits_stop (z := z) (l := l) (k := k) (by have := HLL.out; omega) HLB.out h)
          generalize hval : M.bits z (l.take k) = v at *
          have HV := hid hval
          clear hval
          unfold M.most at hv0 hv1
          by_cases hst : 18014398509481984 < v ∨ v < -18014398509481985
          · have hno : M.binOk (z :: l) = false := by
              rw [HOE.out]
              rcases HST.out (by omega) with h | h
              · unfold M.most at h
                rw [show decide (M.bits z l ≤ 4611686018427387904) = false by rw [decide_eq_false_iff_not]; omega]; simp
              · unfold M.most at h
                rw [show decide (-4611686018427387904 ≤ M.bits z l) = false by rw [decide_eq_false_iff_not]; omega]; simp
            have HO := hid hno
            have HN := hid (M.binN_no hno)
            clear hno
            rcases hst with hst | hst
            · go_wp2
              go_ret2
              exact ⟨ret2_eq (by rw [HN.out]) (by rw [HO.out]), rfl⟩
            · have hst' : ¬ 18014398509481984 < v := by omega
              have e1 : decide (v < -18014398509481985) = true := by simpa using hst
              go_wp2
              go_ret2
              exact ⟨ret2_eq (by rw [HN.out]) (by rw [HO.out]), rfl⟩
          · have hst' : ¬ 18014398509481984 < v := by omega
            have hst'' : -18014398509481985 ≤ v := by omega
            have e1 : decide (v < -18014398509481985) = false := by simpa using hst''
            clear hst
            go_wp2
            go_round
            case rel => exact ⟨k + 1, by omega, by go_num, by rw [HZ.out], by rw [HZ.out]; unfold M.most; omega, by rw [HZ.out]; unfold M.most; omega⟩
            case measure => simp [intOf]; omega
        · have hall : l.take k = l := List.take_of_length_le (by have := HLL.out; omega)
          rw [hall] at hv0 hv1 ⊢
          clear hall
          have hbv : M.binV (z :: l) = M.bits z l := rfl
          have HBV := hid hbv
          clear hbv
          generalize M.bits z l = v at *
          unfold M.most at hv0 hv1
          by_cases hend : 4611686018427387904 < v
          · have hno : M.binOk (z :: l) = false := by
              rw [HOE.out, show decide (v ≤ 4611686018427387904) = false by rw [decide_eq_false_iff_not]; omega]
              simp
            have HO := hid hno
            have HN := hid (M.binN_no hno)
            clear hno
            go_wp2
            go_ret2
            exact ⟨ret2_eq (by rw [HN.out]) (by rw [HO.out]), rfl⟩
          · by_cases hend' : v < -4611686018427387904
            · have hno : M.binOk (z :: l) = false := by
                rw [HOE.out, show decide (-4611686018427387904 ≤ v) = false by rw [decide_eq_false_iff_not]; omega]
                simp
              have HO := hid hno
              have HN := hid (M.binN_no hno)
              clear hno
              have e1 : decide (v < -4611686018427387904) = true := by simpa using hend'
              go_wp2
              go_ret2
              exact ⟨ret2_eq (by rw [HN.out]) (by rw [HO.out]), rfl⟩
            · have hyes : M.binOk (z :: l) = true := by
                rw [HOE.out, show decide (v ≤ 4611686018427387904) = true by rw [decide_eq_true_eq]; omega, show decide (-4611686018427387904 ≤ v) = true by rw [decide_eq_true_eq]; omega]
                rfl
              have HO := hid hyes
              have HN := hid (M.binN_yes hyes)
              rw [HBV.out] at HN
              clear hyes
              have e1 : decide (v < -4611686018427387904) = false := by simpa using hend'
              go_wp2
              go_ret2
              exact ⟨ret2_eq (by rw [HN.out]) (by rw [HO.out]), rfl⟩

/-! ### Parse -/
def parN (zs : List Int) : Int := if M.marked zs then M.binN zs else M.octN zs
def parOk (zs : List Int) : Bool := if M.marked zs then M.binOk zs else M.octOk zs

end Go.Proofs.YtgfihdfncddpaaaGreatDoor.Hd

/-! The contracts of PutOctal, PutBinary and Put, the program's and the document's: both answer the same bytes, or none, and the same bool. -/
namespace Go.Proofs.YtgfihdfncddpaaaGreatDoor.Hd
open Go.RowKit Go.Lib
theorem u8_info : (Tryz.prog.info? 5).map (fun i => (i.zero, i.size, i.bytes)) = some (some (.int .u8 0), 1, 1) := by kernel_rfl

/-- Block b is a row of N bytes, cell j holding g j. -/
def RowB (w : World) (b N : Nat) (g : Nat → Int) : Prop := w.rowIs b 5 N (fun j => .int .u8 (g j))
section
variable {w w' : World} {b N : Nat} {g h : Nat → Int}
theorem RowB.cell (r : RowB w b N g) {i : Nat} (hi : i < N) : w.cell? ⟨b, i, none⟩ = some (.int .u8 (g i)) := World.rowIs.cell r hi
theorem RowB.frozen (r : RowB w b N g) (i : Nat) : w.frozen? ⟨b, i, none⟩ = false := World.rowIs.frozen r i
theorem RowB.lt (r : RowB w b N g) : b < w.heap.size := World.rowIs.lt r
theorem RowB.to (r : RowB w b N g) (e : ∀ i, i < N → g i = h i) : RowB w b N h := World.rowIs.congr r fun i hi => by rw [e i hi]
theorem RowB.set (r : RowB w b N g) (i : Nat) (v : Int) : RowB (w.setCell ⟨b, i, none⟩ (.int .u8 v)) b N (fun j => if j = i then v else g j) :=
  (World.rowIs.set r i (.int .u8 v)).congr fun j _ => by
    show (if j = i then _ else _) = Value.int .u8 (if j = i then v else g j)
    split <;> rfl
theorem RowB.made (w : World) (N : Nat) : RowB (w.alloc (.cells (madeCells #[.int .u8 0] N) 5)) w.heap.size N (fun _ => 0) := World.rowIs_made w _ N _
theorem RowB.rd (r : RowB w b N g) (hb : ∀ j, 0 ≤ g j ∧ g j ≤ 255) : Rd w w.heap.size (some ⟨b, 0, none⟩) N (M.listOf g N) := by
  refine ⟨M.listOf_len g N, ?_, fun _ => ⟨b, 0, rfl, r.lt, fun j z hz => ?_⟩⟩
  · intro z hz
    obtain ⟨j, hj, rfl⟩ := List.getElem_of_mem hz
    obtain ⟨_, e⟩ := M.listOf_at (List.getElem?_eq_getElem hj)
    rw [← e]
    exact hb j
  · obtain ⟨hj, rfl⟩ := M.listOf_at hz
    rw [Nat.zero_add]
    exact r.cell hj
end

/-- A put's answer: bytes zs in memory of its own, or nil, and whether there are some. -/
def PutPost (w : World) (ok : Bool) (zs : List Int) (e : Ending) (w' : World) : Prop :=
  ∃ A N, e = .returned (.tuple #[.slice A N N, .bool ok]) ∧ Rd w' w'.heap.size A N zs ∧ Below w.heap.size w w'
theorem PutPost.none_ {w w' : World} (h : Below w.heap.size w w') : PutPost w false [] (.returned (.tuple #[.slice none 0 0, .bool false])) w' :=
  ⟨none, 0, rfl, Rd.none_, h⟩

theorem octFits_no {n wide : Int} (h : ¬ (2 ≤ wide ∧ wide ≤ 32 ∧ 0 ≤ n ∧ n ≤ 4611686018427387904)) : M.octFits n wide = false := by
  unfold M.octFits M.most
  by_cases h1 : 2 ≤ wide
  · by_cases h2 : wide ≤ 32
    · by_cases h3 : 0 ≤ n
      · have h4 : ¬ n ≤ 4611686018427387904 := fun h4 => h ⟨h1, h2, h3, h4⟩
        simp [h4]
      · simp [h3]
    · simp [h2]
  · simp [h1]
theorem octR_no {n wide : Int} (h : M.octFits n wide = false) : M.octR n wide = [] := by unfold M.octR; rw [h]; rfl
theorem binFits_no {n wide : Int} (h : ¬ (2 ≤ wide ∧ wide ≤ 32)) : M.binFits n wide = false := by
  unfold M.binFits
  by_cases h1 : 2 ≤ wide
  · have h2 : ¬ wide ≤ 32 := fun h2 => h ⟨h1, h2⟩
    simp [h2]
  · simp [h1]
theorem binR_no {n wide : Int} (h : M.binFits n wide = false) : M.binR n wide = [] := by unfold M.binR; rw [h]; rfl

end Go.Proofs.YtgfihdfncddpaaaGreatDoor.Hd

/-! 'make([]byte, 512)': a block of noughts; what the document puts lies in a block of its own. -/
namespace Go.Proofs.YtgfihdfncddpaaaGreatDoor.Hd
open Go.RowKit Go.Lib

theorem madeBlk : (madeCells #[Value.int .u8 0] 512) = (bcells (nils 512)).toArray := by kernel_rfl
theorem run_make512 (w : World) : (Instr.makeSlice 22 (.int .i64 512) (.int .i64 512)).run Tryz.prog w = .ok (.slice (some ⟨w.heap.size, 0, none⟩) 512 512) (w.alloc (.cells (bcells (nils 512)).toArray 5)) := by
  have h := run_make_row' (P := Tryz.prog) 22 5 (.int .u8 0) 1 Tryz.underlying22 u8_info rfl .i64 .i64 512 (by omega) (by omega) w
  rw [madeBlk, show ((512 : Nat) : Int) = 512 from rfl] at h
  exact h
/-- What is put, in the block that is made first. -/
def PutNew (w : World) (N : Nat) (zs : List Int) (e : Ending) (w' : World) : Prop :=
  e = .returned (.tuple #[.slice (some ⟨w.heap.size, 0, none⟩) N N, .bool true]) ∧ Rd w' w'.heap.size (some ⟨w.heap.size, 0, none⟩) N zs ∧ Below w.heap.size w w'
set_option maxHeartbeats 800000 in
theorem putOctalRef_new (n : Int) (N : Nat) (w : World) (h1 : 2 ≤ N) (h2 : N ≤ 32) (h3 : 0 ≤ n) (h4 : n ≤ 4611686018427387904) (hzz : n / 8 ^ (N - 1) = 0) :
    Calls Tryz.prog 80 #[.int .i64 n, .int .i64 N] w (PutNew w N (M.oct n N)) := by
  have HZZ := hid hzz
  clear hzz
  have e1 : decide (n < 0) = false := by simpa using h3
  have e2 : decide (4611686018427387904 < n) = false := by simpa using h4
  have e3 : decide ((N : Int) < 2) = false := by rw [decide_eq_false_iff_not]; omega
  have e4 : decide (32 < (N : Int)) = false := by rw [decide_eq_false_iff_not]; omega
  have hmk := run_make_row' (P := Tryz.prog) 22 5 (.int .u8 0) 1 Tryz.underlying22 u8_info rfl .i64 .i64 N (by omega) (by omega)
  go_enter Tryz.func80, Tryz.ntmps80
  go_wp2
  clear hmk e1 e2 e3 e4
  go_loopw [0, 7] (fun v i wr => ∃ k : Nat, k ≤ N - 1 ∧ i = .int .i64 ((N : Int) - 2 - k) ∧ v = .int .i64 (n / 8 ^ k) ∧ RowB wr w.heap.size N (M.octC n N k) ∧ Below w.heap.size w wr) (fun _ i _ => (intOf i + 1).toNat)
  case atStart => exact ⟨0, Nat.zero_le _, by go_num, by simp, (RowB.made w N).to fun i _ => (M.octC_zero n N i).symm, (Below.refl _ _).alloc (Nat.le_refl _) _⟩
  case round =>
    obtain ⟨k, hk, rfl, rfl, hrow, hbel⟩ := hrel
    have hv0 := M.shr8_nonneg h3 k
    have hv1 := M.shr8_le h3 k
    by_cases hlt : k < N - 1
    · have hc := hrow.cell (i := N - 2 - k) (by omega)
      have hf := hrow.frozen (N - 2 - k)
      have HS := hid (M.shr8_succ n k)
      generalize hval : n / 8 ^ k = v at *
      have HV := hid hval
      clear hval
      have hge : (0 : Int) ≤ (N : Int) - 2 - k := by omega
      have hto : ((N : Int) - 2 - k).toNat = N - 2 - k := by omega
      go_wp2
      have he : (48 + v % 8) % 256 = 48 + v % 8 := by omega
      go_roundw
      case rel =>
        refine ⟨k + 1, by omega, by go_num, by rw [HS.out], (hrow.set _ _).to fun j _ => ?_, hbel.setCell (Nat.le_refl _) _⟩
        rw [← HV.out]
        exact M.octC_succ n N k j hlt
      case measure => simp [intOf]; omega
    · obtain rfl : k = N - 1 := by omega
      have hrow' : RowB wr w.heap.size N (M.octG n N) := hrow.to fun j _ => M.octC_end n N j
      clear hrow hlt hk
      have hneg : (N : Int) - 2 - ((N - 1 : Nat) : Int) < 0 := by omega
      rw [HZZ.out]
      clear hv0 hv1
      go_wp2
      go_ret2
      exact ⟨rfl, hrow'.rd (M.octG_bd n N), hbel⟩

end Go.Proofs.YtgfihdfncddpaaaGreatDoor.Hd

/-! The contracts of the document's Unsigned, Signed, Told, Right and Zero. -/
namespace Go.Proofs.YtgfihdfncddpaaaGreatDoor.Hd
open Go.RowKit Go.Lib

theorem ge_yes {k : Nat} {m : Int} (h : m ≤ k) : decide (m ≤ (k : Int)) = true := by rw [decide_eq_true_eq]; exact h
theorem ge_no {k : Nat} {m : Int} (h : (k : Int) < m) : decide (m ≤ (k : Int)) = false := by rw [decide_eq_false_iff_not]; omega
theorem lt_yes {k : Nat} {m : Int} (h : (k : Int) < m) : decide ((k : Int) < m) = true := by rw [decide_eq_true_eq]; exact h
theorem lt_no {k : Nat} {m : Int} (h : m ≤ k) : decide ((k : Int) < m) = false := by rw [decide_eq_false_iff_not]; omega

set_option maxHeartbeats 800000 in
theorem refUnsigned_any (A : Option Addr) (n c : Nat) (zs : List Int) (w : World) (B : Nat) (hr : Rd w B A n zs) (hs : n ≤ 65536) :
    Calls Tryz.prog 81 #[.slice A n c] w fun e w' => e = .returned (.int .i64 (M.uns zs)) ∧ w = w' := by
  have HL := hid hr.len
  have HB := hid hr.bd
  go_enter Tryz.func81, Tryz.ntmps81
  go_wp2
  go_loop [3, 4] (fun v i => ∃ k : Nat, k ≤ n ∧ i = .int .i64 k ∧ v = .int .i64 (M.tot M.cu 0 (zs.take k))) (fun _ i => n - (intOf i).toNat)
  case atStart => exact ⟨0, Nat.zero_le _, rfl, by rw [List.take_zero]; rfl⟩
  case round =>
    obtain ⟨k, hk, rfl, rfl⟩ := hrel
    by_cases hlt : k < n
    · obtain ⟨b, off, z, hA, hb, hz0, hz1, hzk, hc⟩ := hr.at_ hlt
      have HT := hid (M.tot_take M.cu hzk)
      have hbd := M.tot_cu_bd (zs := zs.take k) 0 (fun x hx => HB.out x (List.mem_of_mem_take hx))
      have hl : (zs.take k).length ≤ k := List.length_take_le _ _
      obtain ⟨hb0, hb1⟩ := hbd
      have hv1 : M.tot M.cu 0 (zs.take k) ≤ 16711680 := by omega
      clear hzk hb1 hl
      generalize M.tot M.cu 0 (zs.take k) = v at *
      by_cases h1 : k < 148
      · have e1 := ge_no (k := k) (m := 148) (by omega)
        have HC := hid (M.cu_out (i := k) (z := z) (.inl h1))
        rw [hA]
        go_wp2
        go_round
        case rel => exact ⟨k + 1, by omega, by go_num, by rw [HT.out, HC.out]⟩
        case measure => simp [intOf]; omega
      · have e1 := ge_yes (k := k) (m := 148) (by omega)
        by_cases h2 : k < 156
        · have e2 := lt_yes (k := k) (m := 156) (by omega)
          have HC := hid (M.cu_in (i := k) (z := z) (by omega) h2)
          rw [hA]
          go_wp2
          go_round
          case rel => exact ⟨k + 1, by omega, by go_num, by rw [HT.out, HC.out]⟩
          case measure => simp [intOf]; omega
        · have e2 := lt_no (k := k) (m := 156) (by omega)
          have HC := hid (M.cu_out (i := k) (z := z) (.inr (by omega)))
          rw [hA]
          go_wp2
          go_round
          case rel => exact ⟨k + 1, by omega, by go_num, by rw [HT.out, HC.out]⟩
          case measure => simp [intOf]; omega
    · obtain rfl : k = n := by omega
      have hall : zs.take k = zs := List.take_of_length_le (by rw [HL.out]; exact Nat.le_refl _)
      rw [hall]
      clear hall
      go_wp2
      go_ret
      exact ⟨rfl, rfl⟩

end Go.Proofs.YtgfihdfncddpaaaGreatDoor.Hd

/-! The contract of Seal of the program. -/
namespace Go.Proofs.YtgfihdfncddpaaaGreatDoor.Hd
open Go.RowKit Go.Lib


/-- A block of 512 bytes of its own. -/
def SealPost (t : TypeId) (zs : List Int) (w : World) (e : Ending) (w' : World) : Prop :=
  ∃ g, e = .returned (.slice (some ⟨g, 0, none⟩) 512 512) ∧ w.heap.size ≤ g ∧ Arr w' g t zs ∧ Below w.heap.size w w'

end Go.Proofs.YtgfihdfncddpaaaGreatDoor.Hd

/-! The contracts of the document's Told, Right and Seal. -/
namespace Go.Proofs.YtgfihdfncddpaaaGreatDoor.Hd
open Go.RowKit Go.Lib

/-- 's[148:156]' of 512 bytes. -/
theorem Rd.field {w : World} {B c : Nat} {A : Option Addr} {zs : List Int} (h : Rd w B A 512 zs) (hc : 512 ≤ c) : ∃ b off, A = some ⟨b, off, none⟩ ∧ Rd w B (some ⟨b, off + 148, none⟩) 8 (M.fld zs) := by
  obtain ⟨b, off, rfl, hb, hcell⟩ := h.2.2 (by decide)
  refine ⟨b, off, rfl, by unfold M.fld; rw [List.length_take, List.length_drop, h.len]; decide, fun z hz => h.bd z (List.mem_of_mem_drop (List.mem_of_mem_take hz)), fun _ => ⟨b, off + 148, rfl, hb, fun j z hj => ?_⟩⟩
  unfold M.fld at hj
  rw [List.getElem?_take] at hj
  split at hj
  · rw [List.getElem?_drop] at hj
    rw [Nat.add_assoc]
    exact hcell _ z hj
  · cases hj

end Go.Proofs.YtgfihdfncddpaaaGreatDoor.Hd

/-! The contract of the document's Seal. -/
namespace Go.Proofs.YtgfihdfncddpaaaGreatDoor.Hd
open Go.RowKit Go.Lib

attribute [local go_sem ↓] run_make512
theorem splice_take {zs fs : List Int} {k : Nat} {z : Int} (hz : zs.length = 512) (hk : fs[k]? = some z) (hl : fs.length ≤ 8) : (splice zs 148 (fs.take k)).set (148 + k) z = splice zs 148 (fs.take (k + 1)) := by
  have h1 : k < fs.length := (List.getElem?_eq_some_iff.1 hk).1
  have h2 : (fs.take k).length = k := by rw [List.length_take]; omega
  have h := M.splice_step (zs := zs) (a := fs.take k) (o := 148) (v := z) (by rw [h2, hz]; omega)
  rw [h2] at h
  rw [h, M.take_snoc' hk]
/-- A block of 512 that is under way. -/
def Half (w : World) (t : TypeId) (zs : List Int) (wr : World) : Prop := Arr wr w.heap.size t zs ∧ Below w.heap.size w wr

set_option maxRecDepth 100000 in
set_option maxHeartbeats 2000000 in
theorem refSeal_any (A : Option Addr) (n c : Nat) (zs : List Int) (w : World) (B : Nat) (hr : Rd w B A n zs) (hB : B ≤ w.heap.size) (hn : n ≤ maxLen) :
    Calls Tryz.prog 38 #[.slice A n c] w (SealPost 5 (M.sld zs) w) := by
  have HL := hid hr.len
  have HZ := hid hr.bd
  have HP := hid (M.pad_bd hr.bd)
  have HPL := hid (M.pad_len zs)
  have HUB := M.uns_pad_bd hr.bd
  have HFIT := hid (M.fits7 HUB.1 (by omega))
  obtain ⟨hu0, hu1⟩ := HUB
  have HAT := hid (fun (k : Nat) (hk : k < n) => hr.at_ hk)
  unfold maxLen at hn
  clear hr
  go_enter Tryz.func38, Tryz.ntmps38
  go_wp2_with fail
  go_loopw [4] (fun i wr => ∃ k : Nat, k ≤ n ∧ k ≤ 512 ∧ i = .int .i64 k ∧ Half w 5 (M.pad (zs.take k)) wr) (fun i _ => n - (intOf i).toNat)
  case atStart => exact ⟨0, Nat.zero_le _, Nat.zero_le _, rfl, by rw [List.take_zero, M.pad_nil]; exact Arr.new w _ _, (Below.refl _ _).alloc (Nat.le_refl _) _⟩
  case round =>
    obtain ⟨k, hk, hk5, rfl, hA, hbel⟩ := hrel
    by_cases hlt : k < n ∧ k < 512
    · obtain ⟨h1, h2⟩ := hlt
      obtain ⟨b, off, z, hAd, hb, hz0, hz1, hzk, hc⟩ := HAT.out k h1
      have hbB : b < w.heap.size := Nat.lt_of_lt_of_le hb hB
      have hc' : wr.cell? ⟨b, off + k, none⟩ = some (.int .u8 z) := (hbel.cell (p := ⟨b, off + k, none⟩) hbB).trans hc
      obtain ⟨y, hy⟩ : ∃ y, (M.pad (zs.take k))[k]? = some y := ⟨_, List.getElem?_eq_getElem (by rw [M.pad_len]; exact h2)⟩
      have hcs := hA.cell hy
      have hfs := hA.frozen k
      have HST := hid (M.pad_step h2 hzk)
      have HA := hid hA
      have e1 : decide ((k : Int) < n) = true := by rw [decide_eq_true_eq]; omega
      have e1' : decide (k < n) = true := by rw [decide_eq_true_eq]; omega
      have e2 := lt_yes (k := k) (m := 512) (by omega)
      clear hA hy hzk hc
      rw [hAd]
      go_wp2
      go_roundw
      case rel => exact ⟨k + 1, by omega, by omega, by go_num, by rw [← HST.out]; exact HA.out.set _ _, hbel.setCell (Nat.le_refl _) _⟩
      case measure => simp [intOf]; omega
    · have hpt : M.pad (zs.take k) = M.pad zs := M.pad_most (by rw [HL.out]; omega) (by rw [HL.out]; omega)
      rw [hpt] at hA
      have HA := hid hA
      have hlg := hA.lt
      clear hA hpt
      by_cases h1 : k < n
      case' pos =>
        have e1' : decide (k < n) = true := by rw [decide_eq_true_eq]; omega
        have e2 := lt_no (k := k) (m := 512) (by omega)
        go_wp2_with fail
      case' neg =>
        have e1' : decide (k < n) = false := by rw [decide_eq_false_iff_not]; omega
        go_wp2_with fail
      all_goals
        have hrd : Rd wr wr.heap.size (some ⟨w.heap.size, 0, none⟩) 512 (M.pad zs) := by
          have h := HA.out.rd HP.out hlg
          rw [HPL.out] at h
          exact h
        have HR := hid (refUnsigned_any (some ⟨w.heap.size, 0, none⟩) 512 512 (M.pad zs) wr wr.heap.size hrd (by decide))
        clear hrd
        (with_reducible refine HR.out.mono ?_)
        rintro e w' ⟨rfl, rfl⟩
        have HQ : Hid (Calls Tryz.prog 80 #[.int .i64 (M.uns (M.pad zs)), .int .i64 7] wr (PutNew wr 7 (M.oct (M.uns (M.pad zs)) 7))) := hid (putOctalRef_new (M.uns (M.pad zs)) 7 wr (by decide) (by decide) hu0 (by omega) HFIT.out.2.1)
        clear HR
        go_wp2_with fail
        (with_reducible refine HQ.out.mono ?_)
        rintro e w4 ⟨rfl, hf, b4⟩
        have HA4 := hid (HA.out.below b4 hlg)
        have hb4 := hbel.trans (b4.mono (Nat.le_of_lt hlg))
        have HF : Hid (∀ j z, (M.oct (M.uns (M.pad zs)) 7)[j]? = some z → w4.cell? ⟨wr.heap.size, j, none⟩ = some (.int .u8 z)) := hid (by
          obtain ⟨b, off, he, _, hc⟩ := hf.2.2 (by decide)
          injection he with he
          injection he with he1 he2
          subst he1
          subst he2
          intro j z hj
          have := hc j z hj
          rwa [Nat.zero_add] at this)
        have HO := hid (M.oct7_len (M.uns (M.pad zs)))
        have HOB := hid (M.oct_bd (M.uns (M.pad zs)) 7)
        have HSL : Hid (splice (M.pad zs) 148 (M.oct (M.uns (M.pad zs)) 7 ++ [32]) = M.sld zs) := hid rfl
        generalize wr.heap.size = F at *
        generalize M.oct (M.uns (M.pad zs)) 7 = fs at *
        clear HQ HA hf b4 hbel HAT HFIT
        go_wp2_with fail
        go_loopw [7] (fun i wr => ∃ k : Nat, k ≤ 7 ∧ i = .int .i64 k ∧ Half w 5 (splice (M.pad zs) 148 (fs.take k)) wr ∧ Hid (∀ j z, fs[j]? = some z → wr.cell? ⟨F, j, none⟩ = some (.int .u8 z))) (fun i _ => 7 - (intOf i).toNat)
        case atStart => exact ⟨0, Nat.zero_le _, rfl, ⟨by rw [List.take_zero, M.splice_nil]; exact HA4.out, hb4⟩, HF⟩
        case round =>
          rename_i wr2
          obtain ⟨k2, hk2, rfl, ⟨hA2, hbel2⟩, HF2⟩ := hrel
          by_cases hlt2 : k2 < 7
          · obtain ⟨z, hz⟩ : ∃ z, fs[k2]? = some z := ⟨_, List.getElem?_eq_getElem (by rw [HO.out]; exact hlt2)⟩
            have hzb := HOB.out z (List.mem_of_getElem? hz)
            obtain ⟨hz0, hz1⟩ := hzb
            have hcf := HF2.out k2 z hz
            have hl8 : (splice (M.pad zs) 148 (fs.take k2)).length = 512 := by rw [M.splice_len (by rw [HPL.out, List.length_take, HO.out]; omega)]; exact HPL.out
            obtain ⟨y, hy⟩ : ∃ y, (splice (M.pad zs) 148 (fs.take k2))[148 + k2]? = some y := ⟨_, List.getElem?_eq_getElem (by rw [hl8]; omega)⟩
            have hcs := hA2.cell hy
            have hfs := hA2.frozen (148 + k2)
            have HST := hid (splice_take HPL.out hz (by rw [HO.out]; decide))
            have HA2 := hid hA2
            clear hA2 hy hz hl8
            go_wp2
            go_roundw
            case rel =>
              refine ⟨k2 + 1, by omega, by go_num, ⟨by rw [← HST.out]; exact HA2.out.set _ _, hbel2.setCell (Nat.le_refl _) _⟩, hid (fun j q hq => ?_)⟩
              rw [World.cell?_setCell_other _ _ _ _ (by intro e; injection e with e1 e2; omega)]
              exact HF2.out j q hq
            case measure => simp [intOf]; omega
          · obtain rfl : k2 = 7 := by omega
            rw [List.take_of_length_le (by rw [HO.out]; exact Nat.le_refl _)] at hA2
            have hl8 : (splice (M.pad zs) 148 fs).length = 512 := by rw [M.splice_len (by rw [HPL.out, HO.out]; decide)]; exact HPL.out
            obtain ⟨y, hy⟩ : ∃ y, (splice (M.pad zs) 148 fs)[155]? = some y := ⟨_, List.getElem?_eq_getElem (by rw [hl8]; decide)⟩
            have hcs := hA2.cell hy
            have hfs := hA2.frozen 155
            have HST : Hid ((splice (M.pad zs) 148 fs).set 155 32 = M.sld zs) := hid (by
              have h := M.splice_step (zs := M.pad zs) (a := fs) (o := 148) (v := 32) (by rw [HO.out, HPL.out]; decide)
              rw [HO.out] at h
              rw [← HSL.out, ← h])
            have HA2 := hid hA2
            clear hA2 hy hl8 HF2
            go_wp2
            go_ret
            exact ⟨_, rfl, Nat.le_refl _, by rw [← HST.out]; exact HA2.out.set _ _, hbel2.setCell (Nat.le_refl _) _⟩
end Go.Proofs.YtgfihdfncddpaaaGreatDoor.Hd

/-! Plain arithmetic of layer 1, second part: what is put is parsed; when bits have room. No program. -/
namespace Go.Proofs.YtgfihdfncddpaaaGreatDoor.Hd
namespace M

def parN (zs : List Int) : Int := if marked zs then binN zs else octN zs
def parOk (zs : List Int) : Bool := if marked zs then binOk zs else octOk zs

/-! ### Digits -/
/-! ### Bits -/
/-- The bytes behind the first. -/
def low (x : Int) (m k : Nat) : List Int := (List.range k).map (fun j => (x / 256 ^ (m - 1 - j)) % 256)
theorem binR_yes {x w : Int} (h : binFits x w = true) : binR x w = bin x w.toNat := by unfold binR; rw [h]; rfl
/-! ### Bits with more ahead -/
end M
end Go.Proofs.YtgfihdfncddpaaaGreatDoor.Hd

/-! Regions that draw their order, step by step: an operation that yields in every world of a class is taken first; a call comes up alone; the class may be narrowed on the way. -/
namespace Go.Proofs.YtgfihdfncddpaaaGreatDoor.Hd
open Go.RowKit

section
variable {P : Program} {md : Region.Mode} {ops : Array Oper} {Q : Exit → Act → World → Prop} {S S' : World → Prop}
theorem takeH {i : Nat} (d : Nat) {oi : Oper} {v : Value} {fuel : Nat} {listed : Array Bool} {a : Act} {w : World} (hi : ops[i]? = some oi) (hd : oi.dst = some d)
    (hs : Region.noSelect ops = true) (hf : Region.free md ops listed i = true) (hr : (Region.ready md ops listed).contains i = true)
    (hQ : ∀ c a w, Q (.panic c) (a.put oi.dst v) w → Q (.panic c) a w) (hw : Region.wanted oi (yielded ops a.tmps) = true)
    (hy : ∀ w, S w → (execOp a.eval oi).run P w = .ok (.value v) w) (hS : S w)
    (h : wpAnyH P md ops Q S fuel (listed.setIfInBounds i true) (a.put (some d) v) w) : wpAnyH P md ops Q S (fuel + 1) listed a w :=
  wpAnyH_take hi hs hf hr hQ (.inl ⟨hw, hy⟩) hS (by rw [hd]; exact h)
/-- The one that may come up. -/
theorem loneH {i : Nat} (d : Nat) {o : Oper} {fuel : Nat} {listed : Array Bool} {a : Act} {w : World} (ho : ops[i]? = some o) (hd : o.dst = some d) (hr : Region.ready md ops listed = [i]) (hw : Region.wanted o (yielded ops a.tmps) = true)
    (h : ∀ K' : Act → World → Prop, Shut (∀ v w', S w' → (S w' → wpAnyH P md ops Q S fuel (listed.setIfInBounds i true) (a.put (some d) v) w') → K' (a.put o.dst v) w') → Oper.wp P o a w K' Q) : wpAnyH P md ops Q S (fuel + 1) listed a w :=
  wpAnyH_ready hr (by simp) (AllReadyH.cons ho (fun K' hK => by
    rw [if_pos hw]
    exact h K' (fun v w' hS hW => hK _ _ hS (by rw [hd]; exact hW))) AllReadyH.nil)
end
end Go.Proofs.YtgfihdfncddpaaaGreatDoor.Hd

/-! The contracts of PutBinary and Put, the program's and the document's: both answer the same bytes, or none, and the same bool. -/
namespace Go.Proofs.YtgfihdfncddpaaaGreatDoor.Hd
open Go.RowKit Go.Lib
theorem binFits_eq (n : Int) (N : Nat) (h1 : 2 ≤ N) (h2 : N ≤ 32) : M.binFits n N = (M.binOk (M.bin n N) && (M.binN (M.bin n N) == n)) := by
  unfold M.binFits
  rw [show decide ((2 : Int) ≤ N) = true by simp; omega, show decide ((N : Int) ≤ 32) = true by simp; omega, Int.toNat_natCast]
  rfl

theorem tmod_neg (v : Int) (h : v.tmod 256 < 0) : v.tmod 256 + 256 = v % 256 := by
  rw [Int.tmod_eq_emod] at h ⊢
  split at h <;> rename_i h' <;> simp only [h', if_true, if_false] at h ⊢ <;> omega
theorem tmod_pos (v : Int) (h : ¬ v.tmod 256 < 0) : v.tmod 256 = v % 256 := by
  rw [Int.tmod_eq_emod] at h ⊢
  split at h <;> rename_i h' <;> simp only [h', if_true, if_false] at h ⊢ <;> omega
theorem tdiv_whole (v : Int) : (v - v % 256).tdiv 256 = v / 256 := by
  have e : v - v % 256 = 256 * (v / 256) := by omega
  rw [e, Int.mul_tdiv_cancel_left _ (by decide)]

/-! ### Put -/
theorem PutPost.past {w w1 w2 : World} {ok : Bool} {zs : List Int} {e : Ending} (h1 : Below w.heap.size w w1) (h : PutPost w1 ok zs e w2) : PutPost w ok zs e w2 := by
  obtain ⟨A, N, he, hr, hb⟩ := h
  exact ⟨A, N, he, hr, h1.trans (hb.mono h1.size)⟩

end Go.Proofs.YtgfihdfncddpaaaGreatDoor.Hd

/-! The document's Put of a number: in a block of its own. -/
namespace Go.Proofs.YtgfihdfncddpaaaGreatDoor.Hd
open Go.RowKit Go.Lib
/-- As PutPost; the bytes lie in a block that is new. -/
def PutOwn (w : World) (ok : Bool) (zs : List Int) (e : Ending) (w' : World) : Prop :=
  ∃ A N, e = .returned (.tuple #[.slice A N N, .bool ok]) ∧ Rd w' w'.heap.size A N zs ∧ Below w.heap.size w w' ∧ (∀ b off, A = some ⟨b, off, none⟩ → w.heap.size ≤ b)
theorem PutOwn.none_ {w w' : World} (h : Below w.heap.size w w') : PutOwn w false [] (.returned (.tuple #[.slice none 0 0, .bool false])) w' :=
  ⟨none, 0, rfl, Rd.none_, h, fun _ _ h => nomatch h⟩
theorem PutOwn.past {w w1 w2 : World} {ok : Bool} {zs : List Int} {e : Ending} (h1 : Below w.heap.size w w1) (h : PutOwn w1 ok zs e w2) : PutOwn w ok zs e w2 := by
  obtain ⟨A, N, he, hr, hb, hf⟩ := h
  exact ⟨A, N, he, hr, h1.trans (hb.mono h1.size), fun b off e => Nat.le_trans h1.size (hf b off e)⟩

set_option maxHeartbeats 800000 in
theorem putOctalRef_goO (n : Int) (N : Nat) (w : World) (h1 : 2 ≤ N) (h2 : N ≤ 32) (h3 : 0 ≤ n) (h4 : n ≤ 4611686018427387904) :
    Calls Tryz.prog 80 #[.int .i64 n, .int .i64 N] w (PutOwn w (M.octFits n N) (M.octR n N)) := by
  have e1 : decide (n < 0) = false := by simpa using h3
  have e2 : decide (4611686018427387904 < n) = false := by simpa using h4
  have e3 : decide ((N : Int) < 2) = false := by rw [decide_eq_false_iff_not]; omega
  have e4 : decide (32 < (N : Int)) = false := by rw [decide_eq_false_iff_not]; omega
  have hmk := run_make_row' (P := Tryz.prog) 22 5 (.int .u8 0) 1 Tryz.underlying22 u8_info rfl .i64 .i64 N (by omega) (by omega)
  go_enter Tryz.func80, Tryz.ntmps80
  go_wp2
  clear hmk e1 e2 e3 e4
  go_loopw [0, 7] (fun v i wr => ∃ k : Nat, k ≤ N - 1 ∧ i = .int .i64 ((N : Int) - 2 - k) ∧ v = .int .i64 (n / 8 ^ k) ∧ RowB wr w.heap.size N (M.octC n N k) ∧ Below w.heap.size w wr) (fun _ i _ => (RowKit.intOf i + 1).toNat)
  case atStart => exact ⟨0, Nat.zero_le _, by go_num, by simp, (RowB.made w N).to fun i _ => (M.octC_zero n N i).symm, (Below.refl _ _).alloc (Nat.le_refl _) _⟩
  case round =>
    obtain ⟨k, hk, rfl, rfl, hrow, hbel⟩ := hrel
    have hv0 := M.shr8_nonneg h3 k
    have hv1 := M.shr8_le h3 k
    by_cases hlt : k < N - 1
    · have hc := hrow.cell (i := N - 2 - k) (by omega)
      have hf := hrow.frozen (N - 2 - k)
      have HS := hid (M.shr8_succ n k)
      generalize hval : n / 8 ^ k = v at *
      have HV := hid hval
      clear hval
      have hge : (0 : Int) ≤ (N : Int) - 2 - k := by omega
      have hto : ((N : Int) - 2 - k).toNat = N - 2 - k := by omega
      go_wp2
      have he : (48 + v % 8) % 256 = 48 + v % 8 := by omega
      go_roundw
      case rel =>
        refine ⟨k + 1, by omega, by go_num, by rw [HS.out], (hrow.set _ _).to fun j _ => ?_, hbel.setCell (Nat.le_refl _) _⟩
        rw [← HV.out]
        exact M.octC_succ n N k j hlt
      case measure => simp [RowKit.intOf]; omega
    · obtain rfl : k = N - 1 := by omega
      have hrow' : RowB wr w.heap.size N (M.octG n N) := hrow.to fun j _ => M.octC_end n N j
      clear hrow hlt hk
      have hfits : M.octFits n N = decide (n / 8 ^ (N - 1) = 0) := by
        unfold M.octFits M.most
        rw [show decide ((2 : Int) ≤ N) = true by simp; omega, show decide ((N : Int) ≤ 32) = true by simp; omega, show decide (0 ≤ n) = true by simpa using h3,
          show decide (n ≤ 4611686018427387904) = true by simpa using h4, Int.toNat_natCast]
        rfl
      have hneg : (N : Int) - 2 - ((N - 1 : Nat) : Int) < 0 := by omega
      by_cases hz : n / 8 ^ (N - 1) = 0
      · have hf : M.octFits n N = true := by rw [hfits, hz]; rfl
        have hR : M.octR n N = M.oct n N := by unfold M.octR; rw [hf, Int.toNat_natCast]; rfl
        have HF := hid hf
        have HR := hid hR
        clear hf hR hfits
        rw [hz]
        clear hz hv0 hv1
        go_wp2
        go_ret2
        rw [HF.out, HR.out]
        exact ⟨_, N, rfl, hrow'.rd (M.octG_bd n N), hbel, fun b off h => by injection h with h; injection h with h; exact Nat.le_of_eq h⟩
      · have hf : M.octFits n N = false := by rw [hfits]; simpa using hz
        have hR : M.octR n N = [] := by unfold M.octR; rw [hf]; rfl
        have HF := hid hf
        have HR := hid hR
        clear hf hR hfits
        generalize n / 8 ^ (N - 1) = v at *
        have hz' : 0 < v := by omega
        go_wp2
        go_ret2
        rw [HF.out, HR.out]
        exact PutOwn.none_ hbel

set_option maxHeartbeats 400000 in
theorem putOctalRef_own (n wide : Int) (w : World) :
    Calls Tryz.prog 80 #[.int .i64 n, .int .i64 wide] w (PutOwn w (M.octFits n wide) (M.octR n wide)) := by
  by_cases h : 2 ≤ wide ∧ wide ≤ 32 ∧ 0 ≤ n ∧ n ≤ 4611686018427387904
  · obtain ⟨h1, h2, h3, h4⟩ := h
    obtain ⟨N, rfl⟩ := Int.eq_ofNat_of_zero_le (by omega : 0 ≤ wide)
    exact putOctalRef_goO n N w (by omega) (by omega) h3 h4
  · rw [octR_no (octFits_no h), octFits_no h]
    by_cases h1 : wide < 2
    · have e1 : decide (wide < 2) = true := by simpa using h1
      clear h h1
      go_enter Tryz.func80, Tryz.ntmps80
      go_wp2
      go_ret2
      exact PutOwn.none_ (Below.refl _ _)
    · have e1 : decide (wide < 2) = false := by simpa using h1
      by_cases h2 : 32 < wide
      · have e2 : decide (32 < wide) = true := by simpa using h2
        clear h h1 h2
        go_enter Tryz.func80, Tryz.ntmps80
        go_wp2
        go_ret2
        exact PutOwn.none_ (Below.refl _ _)
      · have e2 : decide (32 < wide) = false := by simpa using h2
        by_cases h3 : n < 0
        · have e3 : decide (n < 0) = true := by simpa using h3
          clear h h1 h2 h3
          go_enter Tryz.func80, Tryz.ntmps80
          go_wp2
          go_ret2
          exact PutOwn.none_ (Below.refl _ _)
        · have e3 : decide (n < 0) = false := by simpa using h3
          have e4 : decide (4611686018427387904 < n) = true := by rw [decide_eq_true_eq]; omega
          clear h h1 h2 h3
          go_enter Tryz.func80, Tryz.ntmps80
          go_wp2
          go_ret2
          exact PutOwn.none_ (Below.refl _ _)

set_option maxHeartbeats 400000 in
theorem putBinaryRef_goO (n : Int) (N : Nat) (w : World) (h1 : 2 ≤ N) (h2 : N ≤ 32) (hn : -9223372036854775808 ≤ n ∧ n ≤ 9223372036854775807) :
    Calls Tryz.prog 110 #[.int .i64 n, .int .i64 N] w (PutOwn w (M.binFits n N) (M.binR n N)) := by
  have e3 : decide ((N : Int) < 2) = false := by rw [decide_eq_false_iff_not]; omega
  have e4 : decide (32 < (N : Int)) = false := by rw [decide_eq_false_iff_not]; omega
  have hmk := run_make_row' (P := Tryz.prog) 22 5 (.int .u8 0) 1 Tryz.underlying22 u8_info rfl .i64 .i64 N (by omega) (by omega)
  go_enter Tryz.func110, Tryz.ntmps110
  go_wp2
  clear hmk e3 e4
  go_loopw [7, 8] (fun v i wr => ∃ k : Nat, k ≤ N ∧ i = .int .i64 ((N : Int) - 1 - k) ∧ v = .int .i64 (n / 256 ^ k) ∧ RowB wr w.heap.size N (M.binC n N k) ∧ Below w.heap.size w wr) (fun _ i _ => (RowKit.intOf i + 1).toNat)
  case atStart => exact ⟨0, Nat.zero_le _, by go_num, by simp, (RowB.made w N).to fun i _ => (M.binC_zero n N i).symm, (Below.refl _ _).alloc (Nat.le_refl _) _⟩
  case round =>
    obtain ⟨k, hk, rfl, rfl, hrow, hbel⟩ := hrel
    obtain ⟨hv0, hv1⟩ := M.shr256_bd hn k
    by_cases hlt : k < N
    · have hc := hrow.cell (i := N - 1 - k) (by omega)
      have hf := hrow.frozen (N - 1 - k)
      have HS := hid (M.shr256_succ n k)
      generalize hval : n / 256 ^ k = v at *
      have HV := hid hval
      clear hval
      have hge : (0 : Int) ≤ (N : Int) - 1 - k := by omega
      have hto : ((N : Int) - 1 - k).toNat = N - 1 - k := by omega
      have HT := hid (tdiv_whole v)
      have hm0 : 0 ≤ v % 256 := by omega
      have hm1 : v % 256 ≤ 255 := by omega
      have hs0 : -9223372036854775808 ≤ v - v % 256 := by omega
      have hs1 : v - v % 256 ≤ 9223372036854775807 := by omega
      have hw1 : wrap64 (v % 256) = v % 256 := IntWalk.wrap64_in _ ⟨by omega, by omega⟩
      have hw2 : wrap64 (v - v % 256) = v - v % 256 := IntWalk.wrap64_in _ ⟨by omega, by omega⟩
      have hw3 : wrap64 (v / 256) = v / 256 := IntWalk.wrap64_in _ ⟨by omega, by omega⟩
      have HW1 := hid hw1
      have HW2 := hid hw2
      have HW3 := hid hw3
      clear hw1 hw2 hw3
      by_cases hneg : v.tmod 256 < 0
      case' pos =>
        have HM := hid (tmod_neg v hneg)
        go_wp2
        rw [HM.out, HW1.out, HW2.out, HT.out, HW3.out]
      case' neg =>
        have HM := hid (tmod_pos v hneg)
        go_wp2
        rw [HM.out, HW2.out, HT.out, HW3.out]
      all_goals
        have he : v % 256 % 256 = v % 256 := by omega
        rw [he]
        go_roundw
        case rel =>
          refine ⟨k + 1, by omega, by go_num, by rw [HS.out], (hrow.set _ _).to fun j _ => ?_, hbel.setCell (Nat.le_refl _) _⟩
          rw [← HV.out]
          exact M.binC_succ n N k j hlt
        case measure => simp [RowKit.intOf]; omega
    · obtain rfl : k = N := by omega
      clear hlt hk
      have hc := hrow.cell (i := 0) (by omega)
      have hf := hrow.frozen 0
      rw [M.binC_first n k (by omega)] at hc
      have hx0 : 0 ≤ n / 256 ^ (k - 1) % 256 := by omega
      have hx1 : n / 256 ^ (k - 1) % 256 ≤ 255 := by omega
      have HE := hid (M.binC_end n k)
      have HFE := hid (binFits_eq n k h1 h2)
      have HRE : Hid (M.binR n k = if M.binFits n k then M.bin n k else []) := hid (by unfold M.binR; rw [Int.toNat_natCast])
      generalize n / 256 ^ (k - 1) % 256 = x at *
      generalize n / 256 ^ k = v at *
      have hk0 : (0 : Int) < k := by omega
      have hneg : (k : Int) - 1 - k < 0 := by omega
      go_wp2_with fail
      have hx2 : (x % 128 + 128) % 256 = x % 128 + 128 := by omega
      try rw [hx2]
      have hrow2 : RowB (wr.setCell ⟨w.heap.size, 0, none⟩ (.int .u8 (x % 128 + 128))) w.heap.size k (M.binG n k) := (hrow.set 0 _).to fun j hj => HE.out j hj
      have hbel2 : Below w.heap.size w (wr.setCell ⟨w.heap.size, 0, none⟩ (.int .u8 (x % 128 + 128))) := hbel.setCell (Nat.le_refl _) _
      generalize wr.setCell ⟨w.heap.size, 0, none⟩ (.int .u8 (x % 128 + 128)) = w2 at *
      have HB := binaryRef_any _ k k _ w2 _ (hrow2.rd (M.binG_bd n k)) (Nat.le_refl _) (by unfold maxLen; omega)
      rw [show M.listOf (M.binG n k) k = M.bin n k from rfl] at HB
      refine HB.mono ?_
      rintro e w' ⟨rfl, rfl⟩
      clear HB hrow hbel hc hf HE hx0 hx1 hx2
      cases hok : M.binOk (M.bin n k) with
      | false =>
        have hf : M.binFits n k = false := by rw [HFE.out, hok]; rfl
        have hr : M.binR n k = [] := by rw [HRE.out, hf]; rfl
        have HF := hid hf
        have HR := hid hr
        clear hok hf hr
        go_wp2
        go_ret2
        rw [HF.out, HR.out]
        exact PutOwn.none_ hbel2
      | true =>
        by_cases heq : M.binN (M.bin n k) = n
        · have hf : M.binFits n k = true := by rw [HFE.out, hok, heq]; simp
          have hr : M.binR n k = M.bin n k := by rw [HRE.out, hf]; rfl
          have HF := hid hf
          have HR := hid hr
          clear hok hf hr
          rw [heq]
          clear heq
          have hne : (n != n) = false := by simp
          go_wp2
          go_ret2
          rw [HF.out, HR.out]
          exact ⟨_, k, rfl, hrow2.rd (M.binG_bd n k), hbel2, fun b off h => by injection h with h; injection h with h; exact Nat.le_of_eq h⟩
        · have hf : M.binFits n k = false := by rw [HFE.out, hok]; simpa using heq
          have hr : M.binR n k = [] := by rw [HRE.out, hf]; rfl
          have HF := hid hf
          have HR := hid hr
          clear hok hf hr
          have hne : (M.binN (M.bin n k) != n) = true := by simpa using heq
          generalize M.binN (M.bin n k) = y at *
          go_wp2
          go_ret2
          rw [HF.out, HR.out]
          exact PutOwn.none_ hbel2

theorem putBinaryRef_own (n wide : Int) (w : World) (hn : -9223372036854775808 ≤ n ∧ n ≤ 9223372036854775807) :
    Calls Tryz.prog 110 #[.int .i64 n, .int .i64 wide] w (PutOwn w (M.binFits n wide) (M.binR n wide)) := by
  by_cases h : 2 ≤ wide ∧ wide ≤ 32
  · obtain ⟨h1, h2⟩ := h
    obtain ⟨N, rfl⟩ := Int.eq_ofNat_of_zero_le (by omega : 0 ≤ wide)
    exact putBinaryRef_goO n N w (by omega) (by omega) hn
  · rw [binR_no (binFits_no h), binFits_no h]
    by_cases h1 : wide < 2
    · have e1 : decide (wide < 2) = true := by simpa using h1
      clear h h1
      go_enter Tryz.func110, Tryz.ntmps110
      go_wp2
      go_ret2
      exact PutOwn.none_ (Below.refl _ _)
    · have e1 : decide (wide < 2) = false := by simpa using h1
      have e2 : decide (32 < wide) = true := by rw [decide_eq_true_eq]; omega
      clear h h1
      go_enter Tryz.func110, Tryz.ntmps110
      go_wp2
      go_ret2
      exact PutOwn.none_ (Below.refl _ _)

set_option maxHeartbeats 400000 in
theorem putRef_own (n wide : Int) (w : World) (hn : -9223372036854775808 ≤ n ∧ n ≤ 9223372036854775807) :
    Calls Tryz.prog 79 #[.int .i64 n, .int .i64 wide] w (PutOwn w (M.putFits n wide) (M.putR n wide)) := by
  have HO := hid (putOctalRef_own n wide w)
  have HB := hid (fun W => putBinaryRef_own n wide W hn)
  cases hf : M.octFits n wide with
  | true =>
    have hF : M.putFits n wide = true := by unfold M.putFits; rw [hf]; rfl
    have hR : M.putR n wide = M.octR n wide := by simp [M.putR, M.octR, hf]
    rw [hF, hR]
    rw [hf] at HO
    clear hf hF hR
    go_enter Tryz.func79, Tryz.ntmps79
    go_wp2_with fail
    (with_reducible refine HO.out.mono ?_)
    rintro e w' ⟨A, N, rfl, hr, hb, hf⟩
    go_wp2
    go_ret2
    exact ⟨A, N, rfl, hr, hb, hf⟩
  | false =>
    have hF : M.putFits n wide = M.binFits n wide := by unfold M.putFits; rw [hf]; rfl
    have hR : M.putR n wide = M.binR n wide := by unfold M.putR; rw [hf]; rfl
    rw [hF, hR]
    rw [hf] at HO
    clear hf hF hR
    go_enter Tryz.func79, Tryz.ntmps79
    go_wp2_with fail
    (with_reducible refine HO.out.mono ?_)
    rintro e w' ⟨A, N, rfl, hr, hb, hf⟩
    go_wp2_with fail
    (with_reducible refine (HB.out _).mono ?_)
    rintro e w2 ⟨A2, N2, rfl, hr2, hb2, hf2⟩
    go_wp2
    go_ret2
    exact PutOwn.past hb ⟨A2, N2, rfl, hr2, hb2, hf2⟩
end Go.Proofs.YtgfihdfncddpaaaGreatDoor.Hd
