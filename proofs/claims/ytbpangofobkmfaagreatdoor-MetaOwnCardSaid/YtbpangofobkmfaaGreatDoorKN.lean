/-
  Texts of an earlier chapter, in a namespace of their own.
-/
import Derived.Below
import Derived.Laws.OwnMore
import Derived.Deep.AppendLies
import Derived.Deep.Draws
import Derived.Lib.Hide
import Derived.Test.YtbpangofobkmfaaGreatDoorRows
import Derived.WalkKit
import Derived.Laws.BitsAllLaws
import Derived.Laws.BitsLemmas
import Derived.Laws.MakeOwn
import Derived.Deep.OwnRows
set_option linter.unusedVariables false
set_option linter.unusedSimpArgs false
/-! Plain arithmetic of layer 1: fields of digits and of bits, as lists of numbers 0 to 255. No program. -/
namespace Go.Proofs.YtbpangofobkmfaaGreatDoor.Nm
namespace M

/-- An octal digit's byte. -/
def dig (c : Int) : Bool := decide (48 ≤ c) && decide (c ≤ 55)
/-- What may stand behind the digits. -/
def fil (c : Int) : Bool := c == 32 || c == 0
def val (ds : List Int) : Int := ds.foldl (fun n d => 8 * n + (d - 48)) 0
def most : Int := 4611686018427387904

def rest (zs : List Int) : List Int := zs.dropWhile (· == 32)
def digs (zs : List Int) : List Int := (rest zs).takeWhile dig
def tail (zs : List Int) : List Int := (rest zs).dropWhile dig
def octOk (zs : List Int) : Bool := (tail zs).all fil && decide (val (digs zs) ≤ most)
def octN (zs : List Int) : Int := if octOk zs then val (digs zs) else 0

/-! takeWhile by length -/
def lead (p : Int → Bool) (zs : List Int) : Nat := (zs.takeWhile p).length
theorem lead_le (p : Int → Bool) (zs : List Int) : lead p zs ≤ zs.length := by
  unfold lead
  exact (List.takeWhile_sublist p).length_le
theorem drop_lead (p : Int → Bool) (zs : List Int) : zs.drop (lead p zs) = zs.dropWhile p := by
  unfold lead
  induction zs with
  | nil => simp
  | cons a l ih => by_cases h : p a <;> simp [h, ih]
theorem take_lead (p : Int → Bool) (zs : List Int) : zs.take (lead p zs) = zs.takeWhile p := by
  unfold lead
  induction zs with
  | nil => simp
  | cons a l ih => by_cases h : p a <;> simp [h, ih]
theorem lead_lt {p : Int → Bool} : ∀ {zs : List Int} {k : Nat} {z : Int}, k < lead p zs → zs[k]? = some z → p z = true
  | [], k, z, _, h => by simp at h
  | a :: l, 0, z, hk, h => by
    simp at h; subst h
    by_cases ha : p a
    · exact ha
    · simp [lead, ha] at hk
  | a :: l, k + 1, z, hk, h => by
    by_cases ha : p a
    · have : k < lead p l := by unfold lead at hk ⊢; simp [ha] at hk; omega
      exact lead_lt this (by simpa using h)
    · simp [lead, ha] at hk
theorem lead_end {p : Int → Bool} : ∀ {zs : List Int} {z : Int}, zs[lead p zs]? = some z → p z = false
  | [], z, h => by simp at h
  | a :: l, z, h => by
    by_cases ha : p a
    · have e : lead p (a :: l) = lead p l + 1 := by simp [lead, ha]
      rw [e] at h
      exact lead_end (by simpa using h)
    · have e : lead p (a :: l) = 0 := by simp [lead, ha]
      rw [e] at h
      simp at h
      subst h
      simpa using ha
/-- All before place k pass, that at k does not: k is how many lead. -/
theorem lead_at {p : Int → Bool} : ∀ {zs : List Int} {k : Nat} {z : Int}, (∀ j x, j < k → zs[j]? = some x → p x = true) → zs[k]? = some z → p z = false → lead p zs = k
  | [], k, z, _, h, _ => by simp at h
  | a :: l, 0, z, _, h, hz => by simp at h; subst h; simp [lead, hz]
  | a :: l, k + 1, z, hp, h, hz => by
    have ha := hp 0 a (by omega) rfl
    have ih := lead_at (p := p) (zs := l) (k := k) (z := z) (fun j x hj hx => hp (j + 1) x (by omega) (by simpa using hx)) (by simpa using h) hz
    unfold lead at ih ⊢
    simp [ha, ih]
theorem lead_all {p : Int → Bool} : ∀ {zs : List Int}, (∀ j x, j < zs.length → zs[j]? = some x → p x = true) → lead p zs = zs.length
  | [], _ => rfl
  | a :: l, hp => by
    have ha := hp 0 a (by simp) rfl
    have ih := lead_all (p := p) (zs := l) (fun j x hj hx => hp (j + 1) x (by simp; omega) (by simpa using hx))
    unfold lead at ih ⊢
    simp [ha, ih]
theorem all_no {p : Int → Bool} {zs : List Int} {k : Nat} {z : Int} (h : zs[k]? = some z) (hz : p z = false) : zs.all p = false := by
  rw [List.all_eq_false]
  exact ⟨z, List.mem_of_getElem? h, by simp [hz]⟩
theorem all_yes {p : Int → Bool} {zs : List Int} (hp : ∀ j x, j < zs.length → zs[j]? = some x → p x = true) : zs.all p = true := by
  rw [List.all_eq_true]
  intro x hx
  obtain ⟨j, hj, rfl⟩ := List.getElem_of_mem hx
  exact hp j _ hj (List.getElem?_eq_getElem hj)
/-- What holds before k + 1. -/
theorem upto_succ {p : Int → Bool} {zs : List Int} {k : Nat} {z : Int} (h : ∀ j x, j < k → zs[j]? = some x → p x = true) (hk : zs[k]? = some z) (hz : p z = true) :
    ∀ j x, j < k + 1 → zs[j]? = some x → p x = true := by
  intro j x hj hx
  rcases Nat.lt_or_ge j k with hlt | hge
  · exact h j x hlt hx
  · have : j = k := by omega
    subst this
    rw [hk] at hx
    injection hx with hx
    subst hx
    exact hz

theorem take_snoc' {zs : List Int} {k : Nat} {z : Int} (h : zs[k]? = some z) : zs.take (k + 1) = zs.take k ++ [z] := by
  rw [List.take_add_one, h]; rfl
theorem val_snoc (ds : List Int) (d : Int) : val (ds ++ [d]) = 8 * val ds + (d - 48) := by simp [val, List.foldl_append]
theorem val_nil : val [] = 0 := rfl
theorem val_nonneg : ∀ (ds : List Int), (∀ d ∈ ds, dig d = true) → 0 ≤ val ds := by
  intro ds
  suffices h : ∀ (ds : List Int) (n : Int), 0 ≤ n → (∀ d ∈ ds, dig d = true) → 0 ≤ ds.foldl (fun n d => 8 * n + (d - 48)) n from fun hd => h ds 0 (Int.le_refl _) hd
  intro ds
  induction ds with
  | nil => intro n hn _; exact hn
  | cons a l ih =>
    intro n hn hd
    have ha := hd a (by simp)
    simp only [dig, Bool.and_eq_true, decide_eq_true_eq] at ha
    exact ih _ (by show 0 ≤ 8 * n + (a - 48); omega) (fun d h => hd d (by simp [h]))
/-- Once above the most, ever above the most. -/
theorem fold_over (ds : List Int) : ∀ n : Int, most < n → (∀ d ∈ ds, dig d = true) → most < ds.foldl (fun n d => 8 * n + (d - 48)) n := by
  induction ds with
  | nil => intro n hn _; exact hn
  | cons a l ih =>
    intro n hn hd
    have ha := hd a (by simp)
    simp only [dig, Bool.and_eq_true, decide_eq_true_eq] at ha
    exact ih _ (by show most < 8 * n + (a - 48); unfold most at hn ⊢; omega) (fun d h => hd d (by simp [h]))
theorem val_over {ds : List Int} {k : Nat} (hd : ∀ d ∈ ds, dig d = true) (h : most < val (ds.take k)) : most < val ds := by
  have e : val ds = (ds.drop k).foldl (fun n d => 8 * n + (d - 48)) (val (ds.take k)) := by
    unfold val
    rw [← List.foldl_append, List.take_append_drop]
  rw [e]
  exact fold_over _ _ h (fun d hd' => hd d (List.mem_of_mem_drop hd'))
theorem mem_lead {p : Int → Bool} : ∀ {zs : List Int} {d : Int}, d ∈ zs.takeWhile p → p d = true ∧ d ∈ zs
  | [], _, h => by simp at h
  | a :: l, d, h => by
    by_cases ha : p a
    · simp only [List.takeWhile_cons, ha, if_true, List.mem_cons] at h
      rcases h with rfl | h
      · exact ⟨ha, by simp⟩
      · exact ⟨(mem_lead h).1, by simp [(mem_lead h).2]⟩
    · simp [ha] at h
theorem digs_dig (zs : List Int) : ∀ d ∈ digs zs, dig d = true := fun _ h => (mem_lead h).1

/-! ### Bits -/
/-- The first byte of bits, without the mark, with its sign. -/
def first (c : Int) : Int := if c < 192 then c - 128 else c - 256
def bits (z : Int) (l : List Int) : Int := l.foldl (fun n c => 256 * n + c) (first z)
def binV : List Int → Int
  | [] => 0
  | z :: l => bits z l
def marked : List Int → Bool
  | [] => false
  | z :: _ => decide (128 ≤ z)
def binOk (zs : List Int) : Bool := marked zs && (decide (-most ≤ binV zs) && decide (binV zs ≤ most))
def binN (zs : List Int) : Int := if binOk zs then binV zs else 0

theorem bits_snoc (z : Int) (l : List Int) (c : Int) : bits z (l ++ [c]) = 256 * bits z l + c := by simp [bits, List.foldl_append]
theorem foldb_over (l : List Int) : ∀ n : Int, most < n → (∀ c ∈ l, 0 ≤ c ∧ c ≤ 255) → most < l.foldl (fun n c => 256 * n + c) n := by
  induction l with
  | nil => intro n hn _; exact hn
  | cons a l ih =>
    intro n hn hd
    have ha := hd a (by simp)
    exact ih _ (by show most < 256 * n + a; unfold most at hn ⊢; omega) (fun d h => hd d (by simp [h]))
theorem foldb_under (l : List Int) : ∀ n : Int, n < -most → (∀ c ∈ l, 0 ≤ c ∧ c ≤ 255) → l.foldl (fun n c => 256 * n + c) n < -most := by
  induction l with
  | nil => intro n hn _; exact hn
  | cons a l ih =>
    intro n hn hd
    have ha := hd a (by simp)
    exact ih _ (by show 256 * n + a < -most; unfold most at hn ⊢; omega) (fun d h => hd d (by simp [h]))
theorem bits_split (z : Int) (l : List Int) (k : Nat) : bits z l = (l.drop k).foldl (fun n c => 256 * n + c) (bits z (l.take k)) := by
  unfold bits
  rw [← List.foldl_append, List.take_append_drop]
/-- A round that stops: the number before it is beyond a 256th of the most, and one more byte follows. -/
theorem bits_stop {z : Int} {l : List Int} {k : Nat} (hk : k < l.length) (hl : ∀ c ∈ l, 0 ≤ c ∧ c ≤ 255)
    (h : 18014398509481984 < bits z (l.take k) ∨ bits z (l.take k) < -18014398509481984) : most < bits z l ∨ bits z l < -most := by
  have hc := hl l[k] (List.getElem_mem hk)
  have e : bits z (l.take (k + 1)) = 256 * bits z (l.take k) + l[k] := by
    rw [take_snoc' (List.getElem?_eq_getElem hk), bits_snoc]
  rcases h with h | h
  · left
    rw [bits_split z l (k + 1)]
    exact foldb_over _ _ (by rw [e]; unfold most; omega) (fun c hc => hl c (List.mem_of_mem_drop hc))
  · right
    rw [bits_split z l (k + 1)]
    exact foldb_under _ _ (by rw [e]; unfold most; omega) (fun c hc => hl c (List.mem_of_mem_drop hc))

theorem binN_no {zs : List Int} (h : binOk zs = false) : binN zs = 0 := by simp [binN, h]
theorem binN_yes {zs : List Int} (h : binOk zs = true) : binN zs = binV zs := by simp [binN, h]
theorem octOk_false_of_tail {zs : List Int} (h : (tail zs).all fil = false) : octOk zs = false := by simp [octOk, h]
theorem octOk_over {zs : List Int} (h : most < val (digs zs)) : octOk zs = false := by
  unfold octOk
  rw [show decide (val (digs zs) ≤ most) = false by simp; omega, Bool.and_false]
theorem octOk_yes {zs : List Int} (h : (tail zs).all fil = true) (h' : val (digs zs) ≤ most) : octOk zs = true := by simp [octOk, h, h']
theorem octN_no {zs : List Int} (h : octOk zs = false) : octN zs = 0 := by simp [octN, h]
theorem octN_yes {zs : List Int} (h : octOk zs = true) : octN zs = val (digs zs) := by simp [octN, h]
theorem rest_len (zs : List Int) : (rest zs).length = zs.length - lead (· == 32) zs := by
  unfold rest; rw [← drop_lead, List.length_drop]
theorem rest_eq (zs : List Int) : zs.drop (lead (· == 32) zs) = rest zs := drop_lead _ _
theorem digs_eq (zs : List Int) : (rest zs).take (lead dig (rest zs)) = digs zs := take_lead _ _
theorem tail_eq (zs : List Int) : (rest zs).drop (lead dig (rest zs)) = tail zs := drop_lead _ _
theorem digs_len (zs : List Int) : (digs zs).length = lead dig (rest zs) := rfl
theorem digs_at {zs : List Int} {k : Nat} {z : Int} (hk : k < lead dig (rest zs)) (h : (rest zs)[k]? = some z) : (digs zs)[k]? = some z := by
  rw [← digs_eq, List.getElem?_take, if_pos hk]; exact h
theorem dig_bd {zs : List Int} {k : Nat} {z : Int} (h : (digs zs)[k]? = some z) : 48 ≤ z ∧ z ≤ 55 := by
  have := digs_dig zs z (List.mem_of_getElem? h)
  simp only [dig, Bool.and_eq_true, decide_eq_true_eq] at this
  exact this
theorem val_succ {ds : List Int} {k : Nat} {z : Int} (h : ds[k]? = some z) : val (ds.take (k + 1)) = 8 * val (ds.take k) + (z - 48) := by
  rw [take_snoc' h, val_snoc]
theorem val_take_nonneg (zs : List Int) (k : Nat) : 0 ≤ val ((digs zs).take k) :=
  val_nonneg _ fun d hd => digs_dig zs d (List.mem_of_mem_take hd)

/-! ### What is put -/
/-- Cell j behind k rounds of PutOctal. -/
def octC (n : Int) (N k j : Nat) : Int := if N - 1 ≤ j + k ∧ j + 1 < N then 48 + (n / 8 ^ (N - 2 - j)) % 8 else 0
def octG (n : Int) (N j : Nat) : Int := if j + 1 < N then 48 + (n / 8 ^ (N - 2 - j)) % 8 else 0
theorem octC_zero (n : Int) (N j : Nat) : octC n N 0 j = 0 := by
  unfold octC
  rw [if_neg (by omega)]
theorem octC_end (n : Int) (N j : Nat) : octC n N (N - 1) j = octG n N j := by
  unfold octC octG
  by_cases h : j + 1 < N
  · rw [if_pos ⟨by omega, h⟩, if_pos h]
  · rw [if_neg (by omega), if_neg h]
theorem octC_succ (n : Int) (N k j : Nat) (hk : k < N - 1) : (if j = N - 2 - k then 48 + (n / 8 ^ k) % 8 else octC n N k j) = octC n N (k + 1) j := by
  by_cases h : j = N - 2 - k
  · rw [if_pos h]
    unfold octC
    rw [if_pos ⟨by omega, by omega⟩, show N - 2 - j = k by omega]
  · rw [if_neg h]
    unfold octC
    by_cases h2 : N - 1 ≤ j + k ∧ j + 1 < N
    · rw [if_pos h2, if_pos ⟨by omega, h2.2⟩]
    · rw [if_neg h2, if_neg (by omega)]
theorem octG_bd (n : Int) (N j : Nat) : 0 ≤ octG n N j ∧ octG n N j ≤ 255 := by
  unfold octG; split <;> omega
def listOf (g : Nat → Int) (N : Nat) : List Int := (List.range N).map g
theorem listOf_len (g : Nat → Int) (N : Nat) : (listOf g N).length = N := by simp [listOf]
theorem listOf_at {g : Nat → Int} {N j : Nat} {z : Int} (h : (listOf g N)[j]? = some z) : j < N ∧ g j = z := by
  unfold listOf at h
  rw [List.getElem?_map] at h
  by_cases hj : j < N
  · rw [List.getElem?_range hj] at h
    exact ⟨hj, by simpa using h⟩
  · rw [List.getElem?_eq_none (by simp; omega)] at h
    cases h
theorem listOf_get (g : Nat → Int) {N j : Nat} (h : j < N) : (listOf g N)[j]? = some (g j) := by
  unfold listOf
  rw [List.getElem?_map, List.getElem?_range h]
  rfl
def oct (n : Int) (N : Nat) : List Int := listOf (octG n N) N
def octFits (n wide : Int) : Bool := decide (2 ≤ wide) && decide (wide ≤ 32) && decide (0 ≤ n) && decide (n ≤ most) && decide (n / 8 ^ (wide.toNat - 1) = 0)
def octR (n wide : Int) : List Int := if octFits n wide then oct n wide.toNat else []
theorem shr8_succ (n : Int) (k : Nat) : n / 8 ^ (k + 1) = n / 8 ^ k / 8 := by
  rw [Int.pow_succ, Int.ediv_ediv_of_nonneg (Int.pow_nonneg (by decide))]
theorem shr8_nonneg {n : Int} (h : 0 ≤ n) (k : Nat) : 0 ≤ n / 8 ^ k := Int.ediv_nonneg h (Int.pow_nonneg (by decide))
theorem shr8_le {n : Int} (h : 0 ≤ n) (k : Nat) : n / 8 ^ k ≤ n := Int.ediv_le_self _ h

/-- Cell j behind k rounds of PutBinary. -/
def binC (n : Int) (N k j : Nat) : Int := if N ≤ j + k ∧ j < N then (n / 256 ^ (N - 1 - j)) % 256 else 0
def binG (n : Int) (N j : Nat) : Int := if j = 0 then (n / 256 ^ (N - 1)) % 128 + 128 else (n / 256 ^ (N - 1 - j)) % 256
theorem binC_zero (n : Int) (N j : Nat) : binC n N 0 j = 0 := by
  unfold binC
  rw [if_neg (by omega)]
theorem binC_succ (n : Int) (N k j : Nat) (hk : k < N) : (if j = N - 1 - k then (n / 256 ^ k) % 256 else binC n N k j) = binC n N (k + 1) j := by
  by_cases h : j = N - 1 - k
  · rw [if_pos h]
    unfold binC
    rw [if_pos ⟨by omega, by omega⟩, show N - 1 - j = k by omega]
  · rw [if_neg h]
    unfold binC
    by_cases h2 : N ≤ j + k ∧ j < N
    · rw [if_pos h2, if_pos ⟨by omega, h2.2⟩]
    · rw [if_neg h2, if_neg (by omega)]
theorem binC_first (n : Int) (N : Nat) (h : 0 < N) : binC n N N 0 = (n / 256 ^ (N - 1)) % 256 := by
  unfold binC
  rw [if_pos ⟨by omega, h⟩, Nat.sub_zero]
theorem binC_end (n : Int) (N j : Nat) (h : j < N) : (if j = 0 then (n / 256 ^ (N - 1)) % 256 % 128 + 128 else binC n N N j) = binG n N j := by
  unfold binG
  by_cases h0 : j = 0
  · rw [if_pos h0, if_pos h0]
    omega
  · rw [if_neg h0, if_neg h0]
    unfold binC
    rw [if_pos ⟨by omega, h⟩]
theorem binG_bd (n : Int) (N j : Nat) : 0 ≤ binG n N j ∧ binG n N j ≤ 255 := by
  unfold binG; split <;> omega
def bin (n : Int) (N : Nat) : List Int := listOf (binG n N) N
def binFits (n wide : Int) : Bool := decide (2 ≤ wide) && decide (wide ≤ 32) && binOk (bin n wide.toNat) && (binN (bin n wide.toNat) == n)
def binR (n wide : Int) : List Int := if binFits n wide then bin n wide.toNat else []
theorem shr256_succ (n : Int) (k : Nat) : n / 256 ^ (k + 1) = n / 256 ^ k / 256 := by
  rw [Int.pow_succ, Int.ediv_ediv_of_nonneg (Int.pow_nonneg (by decide))]
theorem shr256_bd {n : Int} (h : -9223372036854775808 ≤ n ∧ n ≤ 9223372036854775807) (k : Nat) : -9223372036854775808 ≤ n / 256 ^ k ∧ n / 256 ^ k ≤ 9223372036854775807 := by
  induction k with
  | zero => simpa using h
  | succ k ih => rw [shr256_succ]; omega

def putFits (n wide : Int) : Bool := octFits n wide || binFits n wide
def putR (n wide : Int) : List Int := if octFits n wide then oct n wide.toNat else binR n wide
end M
end Go.Proofs.YtbpangofobkmfaaGreatDoor.Nm

/-! Words for rows of bytes in memory: a slice of bytes that reads as a list of numbers 0 to 255, nil let in. Plain lemmas, no program. -/
set_option linter.unusedVariables false
set_option linter.unusedSimpArgs false
namespace Go.Proofs.YtbpangofobkmfaaGreatDoor.Nm
open Go.RowKit

/-- Where 's[k:]' begins. -/
def cutA (A : Option Addr) (c k : Nat) : Option Addr := if c = k then A else A.map (·.add k)

/-- The slice '.slice A n c' reads as the bytes zs, in a block below B. -/
def Rd (w : World) (B : Nat) (A : Option Addr) (n : Nat) (zs : List Int) : Prop :=
  zs.length = n ∧ (∀ z ∈ zs, 0 ≤ z ∧ z ≤ 255) ∧
    (0 < n → ∃ b off, A = some ⟨b, off, none⟩ ∧ b < B ∧ ∀ j z, zs[j]? = some z → w.cell? ⟨b, off + j, none⟩ = some (.int .u8 z))

section
variable {w w' : World} {B B' n : Nat} {A : Option Addr} {zs : List Int}
theorem Rd.len (h : Rd w B A n zs) : zs.length = n := h.1
theorem Rd.bd (h : Rd w B A n zs) : ∀ z ∈ zs, 0 ≤ z ∧ z ≤ 255 := h.2.1
theorem Rd.none_ : Rd w B A 0 [] := ⟨rfl, by simp, fun h => absurd h (by omega)⟩
theorem Rd.at_ {k : Nat} (h : Rd w B A n zs) (hk : k < n) :
    ∃ b off z, A = some ⟨b, off, none⟩ ∧ b < B ∧ 0 ≤ z ∧ z ≤ 255 ∧ zs[k]? = some z ∧ w.cell? ⟨b, off + k, none⟩ = some (.int .u8 z) := by
  obtain ⟨b, off, e, hb, hc⟩ := h.2.2 (by omega)
  have hl : k < zs.length := by have := h.1; omega
  have hz := h.2.1 zs[k] (List.getElem_mem hl)
  exact ⟨b, off, zs[k], e, hb, hz.1, hz.2, List.getElem?_eq_getElem hl, hc k _ (List.getElem?_eq_getElem hl)⟩
theorem Rd.keep (h : Rd w B A n zs) (hk : ∀ p : Addr, p.block < B → w'.cell? p = w.cell? p) : Rd w' B A n zs :=
  ⟨h.1, h.2.1, fun hn => by
    obtain ⟨b, off, e, hb, hc⟩ := h.2.2 hn
    exact ⟨b, off, e, hb, fun j z hz => (hk _ hb).trans (hc j z hz)⟩⟩
theorem Rd.more (h : Rd w B A n zs) (hB : B ≤ B') : Rd w B' A n zs :=
  ⟨h.1, h.2.1, fun hn => by
    obtain ⟨b, off, e, hb, hc⟩ := h.2.2 hn
    exact ⟨b, off, e, by omega, hc⟩⟩
theorem Rd.below (h : Rd w B A n zs) (hb : Below B w w') : Rd w' B A n zs := h.keep fun _ hp => hb.cell hp
theorem Rd.drew (h : Rd w B A n zs) : Rd w.drew B A n zs := h
theorem Rd.drewN (h : Rd w B A n zs) (k : Nat) : Rd (w.drewN k) B A n zs := h
theorem Rd.alloc (h : Rd w B A n zs) (hB : B ≤ w.heap.size) (o : Obj) : Rd (w.alloc o) B A n zs := h.keep fun p hp => World.cell?_alloc_lt w o p (by omega)
theorem Rd.setCell (h : Rd w B A n zs) {p : Addr} (hB : B ≤ p.block) (u : Value) : Rd (w.setCell p u) B A n zs :=
  h.keep fun q hq => World.cell?_setCell_other w p q u (fun e => by subst e; omega)
theorem Rd.cut {c k : Nat} (h : Rd w B A n zs) (hk : k ≤ n) (hc : n ≤ c) : Rd w B (cutA A c k) (n - k) (zs.drop k) := by
  unfold cutA
  refine ⟨by rw [List.length_drop, h.1], fun z hz => h.2.1 z (List.mem_of_mem_drop hz), fun hn => ?_⟩
  obtain ⟨b, off, rfl, hb, hcell⟩ := h.2.2 (by omega)
  rw [if_neg (by omega)]
  refine ⟨b, off + k, ?_, hb, fun j z hz => ?_⟩
  · simp [Addr.add]
  · rw [Nat.add_assoc]
    exact hcell _ z (by rw [← hz, List.getElem?_drop])
theorem Rd.front {k : Nat} (h : Rd w B A n zs) (hk : k ≤ n) : Rd w B A k (zs.take k) := by
  refine ⟨by rw [List.length_take, h.1]; omega, fun z hz => h.2.1 z (List.mem_of_mem_take hz), fun hn => ?_⟩
  obtain ⟨b, off, e, hb, hcell⟩ := h.2.2 (by omega)
  refine ⟨b, off, e, hb, fun j z hz => hcell j z ?_⟩
  rw [List.getElem?_take] at hz
  split at hz
  · exact hz
  · cases hz
theorem Rd.of_own {base : Nat} {e : TypeId} {c : Nat} (h : w.ownsRow base e 1 (.slice A n c) n (zs.map (Value.int .u8))) (hz : ∀ z ∈ zs, 0 ≤ z ∧ z ≤ 255) : Rd w w.heap.size A n zs := by
  refine ⟨by have := h.1; simpa using this, hz, fun hn => ?_⟩
  obtain ⟨g, cap, hv, _, hlt⟩ := h.form hn
  have hA : A = some ⟨g, 0, none⟩ := by injection hv
  subst hA
  refine ⟨g, 0, rfl, hlt, fun j z hj => ?_⟩
  have := h.cells (g := g) rfl j (.int .u8 z) (by simp [List.getElem?_map, hj])
  unfold Addr.add at this
  split at this
  · rename_i h0
    subst h0
    exact this
  · simpa using this
end

theorem ret_int {k : IntKind} {a b : Int} (h : a = b) : Ending.returned (.int k a) = .returned (.int k b) := by rw [h]
theorem ret_bool {a b : Bool} (h : a = b) : Ending.returned (.bool a) = .returned (.bool b) := by rw [h]
end Go.Proofs.YtbpangofobkmfaaGreatDoor.Nm

/-! The contracts of the small functions of layer 1 that read a field: how many blanks lead, how many digits, whether all else is filling, whether it is marked, and what a width is. -/
namespace Go.Proofs.YtbpangofobkmfaaGreatDoor.Nm
open Go.RowKit Go.Lib

theorem elem22 : Tryz.prog.elem 23 = 5 := by kernel_rfl
theorem cells5 : (Tryz.prog.info? 5).map (·.size) = some 1 := by kernel_rfl
/-- 's[l:]' of bytes, the address under one name. -/
theorem slice_from (w : World) (a : Option Addr) (len cap : Nat) (kl : IntKind) (l : Int) (h0 : 0 ≤ l) (h1 : l ≤ len) :
    (Instr.slice 23 (.slice a len cap) (some (.int kl l)) none none).run Tryz.prog w = .ok (.slice (cutA a cap l.toNat) (len - l.toNat) (cap - l.toNat)) w := by
  have ht : Tryz.prog.underlying 23 = some (.slice (Tryz.prog.elem 23)) := by rw [elem22]; exact Tryz.underlying23
  rw [run_slice_l w 23 a len cap ht kl l h0 h1, elem22]
  have hs : (sizeOf 5).run Tryz.prog w = .ok 1 w := by
    obtain ⟨i, hi, hz⟩ := Option.map_eq_some_iff.1 cells5
    simp [sizeOf, typeInfo, hi, hz]
  rw [hs]
  simp [Result.andThen, sliced, cutA]
attribute [local go_sem ↓] slice_from

theorem width_yes (n : Int) (w : World) (h1 : 2 ≤ n) (h2 : n ≤ 32) : Calls Tryz.prog 95 #[.int .i64 n] w fun e w' => e = .returned (.bool true) ∧ w = w' := by
  go_enter Tryz.func95, Tryz.ntmps95
  go_wp2
  go_ret
  exact ⟨rfl, rfl⟩
theorem width_no (n : Int) (w : World) (h : n < 2 ∨ 32 < n) : Calls Tryz.prog 95 #[.int .i64 n] w fun e w' => e = .returned (.bool false) ∧ w = w' := by
  rcases h with h | h
  · go_enter Tryz.func95, Tryz.ntmps95
    go_wp2
    go_ret
    exact ⟨rfl, rfl⟩
  · have h' : 2 ≤ n := by omega
    have h'' : decide (n ≤ 32) = false := by simp; omega
    go_enter Tryz.func95, Tryz.ntmps95
    go_wp2
    go_ret
    exact ⟨rfl, rfl⟩

end Go.Proofs.YtbpangofobkmfaaGreatDoor.Nm

/-! The contracts of PutOctal, PutBinary and Put, the program's and the document's: both answer the same bytes, or none, and the same bool. -/
namespace Go.Proofs.YtbpangofobkmfaaGreatDoor.Nm
open Go.RowKit Go.Lib
attribute [local go_sem ↓] slice_from

theorem ofInt_i64 (a : Nat) (ha : a < 9223372036854775808) : (BitVec.ofInt 64 (a : Int)).toNat = a := by
  rw [BitVec.ofInt_natCast, BitVec.toNat_ofNat]; exact Nat.mod_eq_of_lt (by omega)
theorem u8_info : (Tryz.prog.info? 5).map (fun i => (i.zero, i.size, i.bytes)) = some (some (.int .u8 0), 1, 1) := by kernel_rfl

/-- Block b is a row of N bytes, cell j holding g j. -/
def RowB (w : World) (b N : Nat) (g : Nat → Int) : Prop := w.rowIs b 5 N (fun j => .int .u8 (g j))
section
variable {w w' : World} {b N : Nat} {g h : Nat → Int}
theorem RowB.cell (r : RowB w b N g) {i : Nat} (hi : i < N) : w.cell? ⟨b, i, none⟩ = some (.int .u8 (g i)) := World.rowIs.cell r hi
theorem RowB.frozen (r : RowB w b N g) (i : Nat) : w.frozen? ⟨b, i, none⟩ = false := World.rowIs.frozen r i
theorem RowB.lt (r : RowB w b N g) : b < w.heap.size := World.rowIs.lt r
theorem RowB.to (r : RowB w b N g) (e : ∀ i, i < N → g i = h i) : RowB w b N h := World.rowIs.congr r fun i hi => by rw [e i hi]
theorem RowB.set (r : RowB w b N g) (i : Nat) (v : Int) : RowB (w.setCell ⟨b, i, none⟩ (.int .u8 v)) b N (fun j => if j = i then v else g j) :=
  (World.rowIs.set r i (.int .u8 v)).congr fun j _ => by
    show (if j = i then _ else _) = Value.int .u8 (if j = i then v else g j)
    split <;> rfl
theorem RowB.made (w : World) (N : Nat) : RowB (w.alloc (.cells (madeCells #[.int .u8 0] N) 5)) w.heap.size N (fun _ => 0) := World.rowIs_made w _ N _
theorem RowB.rd (r : RowB w b N g) (hb : ∀ j, 0 ≤ g j ∧ g j ≤ 255) : Rd w w.heap.size (some ⟨b, 0, none⟩) N (M.listOf g N) := by
  refine ⟨M.listOf_len g N, ?_, fun _ => ⟨b, 0, rfl, r.lt, fun j z hz => ?_⟩⟩
  · intro z hz
    obtain ⟨j, hj, rfl⟩ := List.getElem_of_mem hz
    obtain ⟨_, e⟩ := M.listOf_at (List.getElem?_eq_getElem hj)
    rw [← e]
    exact hb j
  · obtain ⟨hj, rfl⟩ := M.listOf_at hz
    rw [Nat.zero_add]
    exact r.cell hj
end

/-- A put's answer: bytes zs in memory of its own, or nil, and whether there are some. -/
def PutPost (w : World) (ok : Bool) (zs : List Int) (e : Ending) (w' : World) : Prop :=
  ∃ A N, e = .returned (.tuple #[.slice A N N, .bool ok]) ∧ Rd w' w'.heap.size A N zs ∧ Below w.heap.size w w'
theorem PutPost.none_ {w w' : World} (h : Below w.heap.size w w') : PutPost w false [] (.returned (.tuple #[.slice none 0 0, .bool false])) w' :=
  ⟨none, 0, rfl, Rd.none_, h⟩

theorem and7 (v : Int) (h0 : 0 ≤ v) (h1 : v ≤ 4611686018427387904) : bits .and .i64 v 7 = v % 8 := by
  obtain ⟨v, rfl⟩ := Int.eq_ofNat_of_zero_le h0
  have hx : v &&& 7 = v % 8 := Nat.and_two_pow_sub_one_eq_mod v 3
  show IntKind.i64.wrap ((BitVec.ofInt 64 (v : Int) &&& BitVec.ofInt 64 7).toNat : Int) = _
  rw [BitVec.toNat_and, ofInt_i64 v (by omega), show (BitVec.ofInt 64 7).toNat = 7 from rfl, hx, IntKind.wrap_i64]
  omega

set_option maxHeartbeats 400000 in
theorem putOctal_go (n : Int) (N : Nat) (w : World) (h1 : 2 ≤ N) (h2 : N ≤ 32) (h3 : 0 ≤ n) (h4 : n ≤ 4611686018427387904) :
    Calls Tryz.prog 76 #[.int .i64 n, .int .i64 N] w (PutPost w (M.octFits n N) (M.octR n N)) := by
  have HW := hid (width_yes N w (by omega) (by omega))
  have e1 : decide (n < 0) = false := by simpa using h3
  have e2 : decide (4611686018427387904 < n) = false := by simpa using h4
  have hmk := run_make_row' (P := Tryz.prog) 23 5 (.int .u8 0) 1 Tryz.underlying23 u8_info rfl .i64 .i64 N (by omega) (by omega)
  go_enter Tryz.func76, Tryz.ntmps76
  go_wp2_with fail
  (with_reducible refine HW.out.mono ?_)
  rintro e w' ⟨rfl, rfl⟩
  go_wp2
  clear hmk e1 e2
  go_loopw [0, 23] (fun v i wr => ∃ k : Nat, k ≤ N - 1 ∧ i = .int .i64 k ∧ v = .int .i64 (n / 8 ^ k) ∧ RowB wr w.heap.size N (M.octC n N k) ∧ Below w.heap.size w wr) (fun _ i _ => N - 1 - (intOf i).toNat)
  case atStart => exact ⟨0, Nat.zero_le _, rfl, by simp, (RowB.made w N).to fun i _ => (M.octC_zero n N i).symm, (Below.refl _ _).alloc (Nat.le_refl _) _⟩
  case round =>
    obtain ⟨k, hk, rfl, rfl, hrow, hbel⟩ := hrel
    have hv0 := M.shr8_nonneg h3 k
    have hv1 := M.shr8_le h3 k
    by_cases hlt : k < N - 1
    · have hc := hrow.cell (i := N - 2 - k) (by omega)
      have hf := hrow.frozen (N - 2 - k)
      have HS := hid (M.shr8_succ n k)
      generalize hval : n / 8 ^ k = v at *
      have HV := hid hval
      clear hval
      have HA := hid (and7 v hv0 (by omega))
      go_wp2
      have he : (48 + bits .and .i64 v 7) % 256 = 48 + v % 8 := by rw [HA.out]; omega
      rw [he]
      go_roundw
      case rel =>
        refine ⟨k + 1, by omega, by go_num, by rw [HS.out], (hrow.set _ _).to fun j _ => ?_, hbel.setCell (Nat.le_refl _) _⟩
        rw [← HV.out]
        exact M.octC_succ n N k j hlt
      case measure => simp [intOf]; omega
    · obtain rfl : k = N - 1 := by omega
      have hrow' : RowB wr w.heap.size N (M.octG n N) := hrow.to fun j _ => M.octC_end n N j
      clear hrow hlt hk
      have hfits : M.octFits n N = decide (n / 8 ^ (N - 1) = 0) := by
        unfold M.octFits M.most
        rw [show decide ((2 : Int) ≤ N) = true by simp; omega, show decide ((N : Int) ≤ 32) = true by simp; omega, show decide (0 ≤ n) = true by simpa using h3,
          show decide (n ≤ 4611686018427387904) = true by simpa using h4, Int.toNat_natCast]
        rfl
      by_cases hz : n / 8 ^ (N - 1) = 0
      · have hf : M.octFits n N = true := by rw [hfits, hz]; rfl
        have hR : M.octR n N = M.oct n N := by unfold M.octR; rw [hf, Int.toNat_natCast]; rfl
        have HF := hid hf
        have HR := hid hR
        clear hf hR hfits
        rw [hz]
        clear hz hv0 hv1
        go_wp2
        go_ret2
        rw [HF.out, HR.out]
        exact ⟨_, N, rfl, hrow'.rd (M.octG_bd n N), hbel⟩
      · have hf : M.octFits n N = false := by rw [hfits]; simpa using hz
        have hR : M.octR n N = [] := by unfold M.octR; rw [hf]; rfl
        have HF := hid hf
        have HR := hid hR
        clear hf hR hfits
        generalize n / 8 ^ (N - 1) = v at *
        have hz' : (v != 0) = true := by simpa using hz
        go_wp2
        go_ret2
        rw [HF.out, HR.out]
        exact PutPost.none_ hbel

theorem octFits_no {n wide : Int} (h : ¬ (2 ≤ wide ∧ wide ≤ 32 ∧ 0 ≤ n ∧ n ≤ 4611686018427387904)) : M.octFits n wide = false := by
  unfold M.octFits M.most
  by_cases h1 : 2 ≤ wide
  · by_cases h2 : wide ≤ 32
    · by_cases h3 : 0 ≤ n
      · have h4 : ¬ n ≤ 4611686018427387904 := fun h4 => h ⟨h1, h2, h3, h4⟩
        simp [h4]
      · simp [h3]
    · simp [h2]
  · simp [h1]
theorem octR_no {n wide : Int} (h : M.octFits n wide = false) : M.octR n wide = [] := by unfold M.octR; rw [h]; rfl
set_option maxHeartbeats 400000 in
theorem putOctal_any (n wide : Int) (w : World) :
    Calls Tryz.prog 76 #[.int .i64 n, .int .i64 wide] w (PutPost w (M.octFits n wide) (M.octR n wide)) := by
  by_cases h : 2 ≤ wide ∧ wide ≤ 32 ∧ 0 ≤ n ∧ n ≤ 4611686018427387904
  · obtain ⟨h1, h2, h3, h4⟩ := h
    obtain ⟨N, rfl⟩ := Int.eq_ofNat_of_zero_le (by omega : 0 ≤ wide)
    exact putOctal_go n N w (by omega) (by omega) h3 h4
  · rw [octR_no (octFits_no h), octFits_no h]
    by_cases hw : wide < 2 ∨ 32 < wide
    · have HW := hid (width_no wide w hw)
      clear hw h
      go_enter Tryz.func76, Tryz.ntmps76
      go_wp2_with fail
      (with_reducible refine HW.out.mono ?_)
      rintro e w' ⟨rfl, rfl⟩
      go_wp2
      go_ret2
      exact PutPost.none_ (Below.refl _ _)
    · have HW := hid (width_yes wide w (by omega) (by omega))
      by_cases hn : n < 0
      · have e1 : decide (n < 0) = true := by simpa using hn
        clear h hn
        go_enter Tryz.func76, Tryz.ntmps76
        go_wp2_with fail
        (with_reducible refine HW.out.mono ?_)
        rintro e w' ⟨rfl, rfl⟩
        go_wp2
        go_ret2
        exact PutPost.none_ (Below.refl _ _)
      · have e1 : decide (n < 0) = false := by simpa using hn
        have e2 : decide (4611686018427387904 < n) = true := by rw [decide_eq_true_eq]; omega
        clear h hw
        go_enter Tryz.func76, Tryz.ntmps76
        go_wp2_with fail
        (with_reducible refine HW.out.mono ?_)
        rintro e w' ⟨rfl, rfl⟩
        go_wp2
        go_ret2
        exact PutPost.none_ (Below.refl _ _)

end Go.Proofs.YtbpangofobkmfaaGreatDoor.Nm
