/-
  Texts of one chapter, merged.
-/
import Derived.Laws.CopyOwn
import Derived.Below
import Derived.Laws.OwnMore
import Derived.Deep.AppendLies
import Derived.Deep.Draws
import Derived.Lib.Hide
import Derived.Lib.Bytealg
import Derived.Lib.Strings
import GoSem.Core.Utf8
set_option linter.unusedVariables false
set_option linter.unusedSimpArgs false
namespace Go.Proofs.Ytcedcfagfklohaa.Hd
namespace M

/-- An octal digit's byte. -/
def dig (c : Int) : Bool := decide (48 ≤ c) && decide (c ≤ 55)
/-- What may stand behind the digits. -/
def fil (c : Int) : Bool := c == 32 || c == 0
def val (ds : List Int) : Int := ds.foldl (fun n d => 8 * n + (d - 48)) 0
def most : Int := 4611686018427387904

def rest (zs : List Int) : List Int := zs.dropWhile (· == 32)
def digs (zs : List Int) : List Int := (rest zs).takeWhile dig
def tail (zs : List Int) : List Int := (rest zs).dropWhile dig
def octOk (zs : List Int) : Bool := (tail zs).all fil && decide (val (digs zs) ≤ most)
def octN (zs : List Int) : Int := if octOk zs then val (digs zs) else 0

/-! takeWhile by length -/
def lead (p : Int → Bool) (zs : List Int) : Nat := (zs.takeWhile p).length
theorem lead_le (p : Int → Bool) (zs : List Int) : lead p zs ≤ zs.length := by
  unfold lead
  exact (List.takeWhile_sublist p).length_le
theorem drop_lead (p : Int → Bool) (zs : List Int) : zs.drop (lead p zs) = zs.dropWhile p := by
  unfold lead
  induction zs with
  | nil => simp
  | cons a l ih => by_cases h : p a <;> simp [h, ih]
theorem take_lead (p : Int → Bool) (zs : List Int) : zs.take (lead p zs) = zs.takeWhile p := by
  unfold lead
  induction zs with
  | nil => simp
  | cons a l ih => by_cases h : p a <;> simp [h, ih]
theorem lead_lt {p : Int → Bool} : ∀ {zs : List Int} {k : Nat} {z : Int}, k < lead p zs → zs[k]? = some z → p z = true
  | [], k, z, _, h => by simp at h
  | a :: l, 0, z, hk, h => by
    simp at h; subst h
    by_cases ha : p a
    · exact ha
    · simp [lead, ha] at hk
  | a :: l, k + 1, z, hk, h => by
    by_cases ha : p a
    · have : k < lead p l := by unfold lead at hk ⊢; simp [ha] at hk; omega
      exact lead_lt this (by simpa using h)
    · simp [lead, ha] at hk
theorem lead_end {p : Int → Bool} : ∀ {zs : List Int} {z : Int}, zs[lead p zs]? = some z → p z = false
  | [], z, h => by simp at h
  | a :: l, z, h => by
    by_cases ha : p a
    · have e : lead p (a :: l) = lead p l + 1 := by simp [lead, ha]
      rw [e] at h
      exact lead_end (by simpa using h)
    · have e : lead p (a :: l) = 0 := by simp [lead, ha]
      rw [e] at h
      simp at h
      subst h
      simpa using ha
/-- All before place k pass, that at k does not: k is how many lead. -/
theorem lead_at {p : Int → Bool} : ∀ {zs : List Int} {k : Nat} {z : Int}, (∀ j x, j < k → zs[j]? = some x → p x = true) → zs[k]? = some z → p z = false → lead p zs = k
  | [], k, z, _, h, _ => by simp at h
  | a :: l, 0, z, _, h, hz => by simp at h; subst h; simp [lead, hz]
  | a :: l, k + 1, z, hp, h, hz => by
    have ha := hp 0 a (by omega) rfl
    have ih := lead_at (p := p) (zs := l) (k := k) (z := z) (fun j x hj hx => hp (j + 1) x (by omega) (by simpa using hx)) (by simpa using h) hz
    unfold lead at ih ⊢
    simp [ha, ih]
theorem lead_all {p : Int → Bool} : ∀ {zs : List Int}, (∀ j x, j < zs.length → zs[j]? = some x → p x = true) → lead p zs = zs.length
  | [], _ => rfl
  | a :: l, hp => by
    have ha := hp 0 a (by simp) rfl
    have ih := lead_all (p := p) (zs := l) (fun j x hj hx => hp (j + 1) x (by simp; omega) (by simpa using hx))
    unfold lead at ih ⊢
    simp [ha, ih]
theorem all_no {p : Int → Bool} {zs : List Int} {k : Nat} {z : Int} (h : zs[k]? = some z) (hz : p z = false) : zs.all p = false := by
  rw [List.all_eq_false]
  exact ⟨z, List.mem_of_getElem? h, by simp [hz]⟩
theorem all_yes {p : Int → Bool} {zs : List Int} (hp : ∀ j x, j < zs.length → zs[j]? = some x → p x = true) : zs.all p = true := by
  rw [List.all_eq_true]
  intro x hx
  obtain ⟨j, hj, rfl⟩ := List.getElem_of_mem hx
  exact hp j _ hj (List.getElem?_eq_getElem hj)
/-- What holds before k + 1. -/
theorem upto_succ {p : Int → Bool} {zs : List Int} {k : Nat} {z : Int} (h : ∀ j x, j < k → zs[j]? = some x → p x = true) (hk : zs[k]? = some z) (hz : p z = true) :
    ∀ j x, j < k + 1 → zs[j]? = some x → p x = true := by
  intro j x hj hx
  rcases Nat.lt_or_ge j k with hlt | hge
  · exact h j x hlt hx
  · have : j = k := by omega
    subst this
    rw [hk] at hx
    injection hx with hx
    subst hx
    exact hz

theorem take_snoc' {zs : List Int} {k : Nat} {z : Int} (h : zs[k]? = some z) : zs.take (k + 1) = zs.take k ++ [z] := by
  rw [List.take_add_one, h]; rfl
theorem val_snoc (ds : List Int) (d : Int) : val (ds ++ [d]) = 8 * val ds + (d - 48) := by simp [val, List.foldl_append]
theorem val_nil : val [] = 0 := rfl
theorem val_nonneg : ∀ (ds : List Int), (∀ d ∈ ds, dig d = true) → 0 ≤ val ds := by
  intro ds
  suffices h : ∀ (ds : List Int) (n : Int), 0 ≤ n → (∀ d ∈ ds, dig d = true) → 0 ≤ ds.foldl (fun n d => 8 * n + (d - 48)) n from fun hd => h ds 0 (Int.le_refl _) hd
  intro ds
  induction ds with
  | nil => intro n hn _; exact hn
  | cons a l ih =>
    intro n hn hd
    have ha := hd a (by simp)
    simp only [dig, Bool.and_eq_true, decide_eq_true_eq] at ha
    exact ih _ (by show 0 ≤ 8 * n + (a - 48); omega) (fun d h => hd d (by simp [h]))
/-- Once above the most, ever above the most. -/
theorem fold_over (ds : List Int) : ∀ n : Int, most < n → (∀ d ∈ ds, dig d = true) → most < ds.foldl (fun n d => 8 * n + (d - 48)) n := by
  induction ds with
  | nil => intro n hn _; exact hn
  | cons a l ih =>
    intro n hn hd
    have ha := hd a (by simp)
    simp only [dig, Bool.and_eq_true, decide_eq_true_eq] at ha
    exact ih _ (by show most < 8 * n + (a - 48); unfold most at hn ⊢; omega) (fun d h => hd d (by simp [h]))
theorem val_over {ds : List Int} {k : Nat} (hd : ∀ d ∈ ds, dig d = true) (h : most < val (ds.take k)) : most < val ds := by
  have e : val ds = (ds.drop k).foldl (fun n d => 8 * n + (d - 48)) (val (ds.take k)) := by
    unfold val
    rw [← List.foldl_append, List.take_append_drop]
  rw [e]
  exact fold_over _ _ h (fun d hd' => hd d (List.mem_of_mem_drop hd'))
theorem mem_lead {p : Int → Bool} : ∀ {zs : List Int} {d : Int}, d ∈ zs.takeWhile p → p d = true ∧ d ∈ zs
  | [], _, h => by simp at h
  | a :: l, d, h => by
    by_cases ha : p a
    · simp only [List.takeWhile_cons, ha, if_true, List.mem_cons] at h
      rcases h with rfl | h
      · exact ⟨ha, by simp⟩
      · exact ⟨(mem_lead h).1, by simp [(mem_lead h).2]⟩
    · simp [ha] at h
theorem digs_dig (zs : List Int) : ∀ d ∈ digs zs, dig d = true := fun _ h => (mem_lead h).1

/-! ### Bits -/
/-- The first byte of bits, without the mark, with its sign. -/
def first (c : Int) : Int := if c < 192 then c - 128 else c - 256
def bits (z : Int) (l : List Int) : Int := l.foldl (fun n c => 256 * n + c) (first z)
def binV : List Int → Int
  | [] => 0
  | z :: l => bits z l
def marked : List Int → Bool
  | [] => false
  | z :: _ => decide (128 ≤ z)
def binOk (zs : List Int) : Bool := marked zs && (decide (-most ≤ binV zs) && decide (binV zs ≤ most))
def binN (zs : List Int) : Int := if binOk zs then binV zs else 0

theorem bits_snoc (z : Int) (l : List Int) (c : Int) : bits z (l ++ [c]) = 256 * bits z l + c := by simp [bits, List.foldl_append]
theorem foldb_over (l : List Int) : ∀ n : Int, most < n → (∀ c ∈ l, 0 ≤ c ∧ c ≤ 255) → most < l.foldl (fun n c => 256 * n + c) n := by
  induction l with
  | nil => intro n hn _; exact hn
  | cons a l ih =>
    intro n hn hd
    have ha := hd a (by simp)
    exact ih _ (by show most < 256 * n + a; unfold most at hn ⊢; omega) (fun d h => hd d (by simp [h]))
theorem foldb_under (l : List Int) : ∀ n : Int, n < -most → (∀ c ∈ l, 0 ≤ c ∧ c ≤ 255) → l.foldl (fun n c => 256 * n + c) n < -most := by
  induction l with
  | nil => intro n hn _; exact hn
  | cons a l ih =>
    intro n hn hd
    have ha := hd a (by simp)
    exact ih _ (by show 256 * n + a < -most; unfold most at hn ⊢; omega) (fun d h => hd d (by simp [h]))
theorem bits_split (z : Int) (l : List Int) (k : Nat) : bits z l = (l.drop k).foldl (fun n c => 256 * n + c) (bits z (l.take k)) := by
  unfold bits
  rw [← List.foldl_append, List.take_append_drop]
/-- A round that stops: the number before it is beyond a 256th of the most, and one more byte follows. -/
theorem bits_stop {z : Int} {l : List Int} {k : Nat} (hk : k < l.length) (hl : ∀ c ∈ l, 0 ≤ c ∧ c ≤ 255)
    (h : 18014398509481984 < bits z (l.take k) ∨ bits z (l.take k) < -18014398509481984) : most < bits z l ∨ bits z l < -most := by
  have hc := hl l[k] (List.getElem_mem hk)
  have e : bits z (l.take (k + 1)) = 256 * bits z (l.take k) + l[k] := by
    rw [take_snoc' (List.getElem?_eq_getElem hk), bits_snoc]
  rcases h with h | h
  · left
    rw [bits_split z l (k + 1)]
    exact foldb_over _ _ (by rw [e]; unfold most; omega) (fun c hc => hl c (List.mem_of_mem_drop hc))
  · right
    rw [bits_split z l (k + 1)]
    exact foldb_under _ _ (by rw [e]; unfold most; omega) (fun c hc => hl c (List.mem_of_mem_drop hc))

theorem binN_no {zs : List Int} (h : binOk zs = false) : binN zs = 0 := by simp [binN, h]
theorem binN_yes {zs : List Int} (h : binOk zs = true) : binN zs = binV zs := by simp [binN, h]
theorem octOk_false_of_tail {zs : List Int} (h : (tail zs).all fil = false) : octOk zs = false := by simp [octOk, h]
theorem octOk_over {zs : List Int} (h : most < val (digs zs)) : octOk zs = false := by
  unfold octOk
  rw [show decide (val (digs zs) ≤ most) = false by simp; omega, Bool.and_false]
theorem octOk_yes {zs : List Int} (h : (tail zs).all fil = true) (h' : val (digs zs) ≤ most) : octOk zs = true := by simp [octOk, h, h']
theorem octN_no {zs : List Int} (h : octOk zs = false) : octN zs = 0 := by simp [octN, h]
theorem octN_yes {zs : List Int} (h : octOk zs = true) : octN zs = val (digs zs) := by simp [octN, h]
theorem rest_len (zs : List Int) : (rest zs).length = zs.length - lead (· == 32) zs := by
  unfold rest; rw [← drop_lead, List.length_drop]
theorem rest_eq (zs : List Int) : zs.drop (lead (· == 32) zs) = rest zs := drop_lead _ _
theorem digs_eq (zs : List Int) : (rest zs).take (lead dig (rest zs)) = digs zs := take_lead _ _
theorem tail_eq (zs : List Int) : (rest zs).drop (lead dig (rest zs)) = tail zs := drop_lead _ _
theorem digs_len (zs : List Int) : (digs zs).length = lead dig (rest zs) := rfl
theorem digs_at {zs : List Int} {k : Nat} {z : Int} (hk : k < lead dig (rest zs)) (h : (rest zs)[k]? = some z) : (digs zs)[k]? = some z := by
  rw [← digs_eq, List.getElem?_take, if_pos hk]; exact h
theorem dig_bd {zs : List Int} {k : Nat} {z : Int} (h : (digs zs)[k]? = some z) : 48 ≤ z ∧ z ≤ 55 := by
  have := digs_dig zs z (List.mem_of_getElem? h)
  simp only [dig, Bool.and_eq_true, decide_eq_true_eq] at this
  exact this
theorem val_succ {ds : List Int} {k : Nat} {z : Int} (h : ds[k]? = some z) : val (ds.take (k + 1)) = 8 * val (ds.take k) + (z - 48) := by
  rw [take_snoc' h, val_snoc]
theorem val_take_nonneg (zs : List Int) (k : Nat) : 0 ≤ val ((digs zs).take k) :=
  val_nonneg _ fun d hd => digs_dig zs d (List.mem_of_mem_take hd)

/-! ### What is put -/
/-- Cell j behind k rounds of PutOctal. -/
def octC (n : Int) (N k j : Nat) : Int := if N - 1 ≤ j + k ∧ j + 1 < N then 48 + (n / 8 ^ (N - 2 - j)) % 8 else 0
def octG (n : Int) (N j : Nat) : Int := if j + 1 < N then 48 + (n / 8 ^ (N - 2 - j)) % 8 else 0
theorem octC_zero (n : Int) (N j : Nat) : octC n N 0 j = 0 := by
  unfold octC
  rw [if_neg (by omega)]
theorem octC_end (n : Int) (N j : Nat) : octC n N (N - 1) j = octG n N j := by
  unfold octC octG
  by_cases h : j + 1 < N
  · rw [if_pos ⟨by omega, h⟩, if_pos h]
  · rw [if_neg (by omega), if_neg h]
theorem octC_succ (n : Int) (N k j : Nat) (hk : k < N - 1) : (if j = N - 2 - k then 48 + (n / 8 ^ k) % 8 else octC n N k j) = octC n N (k + 1) j := by
  by_cases h : j = N - 2 - k
  · rw [if_pos h]
    unfold octC
    rw [if_pos ⟨by omega, by omega⟩, show N - 2 - j = k by omega]
  · rw [if_neg h]
    unfold octC
    by_cases h2 : N - 1 ≤ j + k ∧ j + 1 < N
    · rw [if_pos h2, if_pos ⟨by omega, h2.2⟩]
    · rw [if_neg h2, if_neg (by omega)]
theorem octG_bd (n : Int) (N j : Nat) : 0 ≤ octG n N j ∧ octG n N j ≤ 255 := by
  unfold octG; split <;> omega
def listOf (g : Nat → Int) (N : Nat) : List Int := (List.range N).map g
theorem listOf_len (g : Nat → Int) (N : Nat) : (listOf g N).length = N := by simp [listOf]
theorem listOf_at {g : Nat → Int} {N j : Nat} {z : Int} (h : (listOf g N)[j]? = some z) : j < N ∧ g j = z := by
  unfold listOf at h
  rw [List.getElem?_map] at h
  by_cases hj : j < N
  · rw [List.getElem?_range hj] at h
    exact ⟨hj, by simpa using h⟩
  · rw [List.getElem?_eq_none (by simp; omega)] at h
    cases h
theorem listOf_get (g : Nat → Int) {N j : Nat} (h : j < N) : (listOf g N)[j]? = some (g j) := by
  unfold listOf
  rw [List.getElem?_map, List.getElem?_range h]
  rfl
def oct (n : Int) (N : Nat) : List Int := listOf (octG n N) N
def octFits (n wide : Int) : Bool := decide (2 ≤ wide) && decide (wide ≤ 32) && decide (0 ≤ n) && decide (n ≤ most) && decide (n / 8 ^ (wide.toNat - 1) = 0)
def octR (n wide : Int) : List Int := if octFits n wide then oct n wide.toNat else []
theorem shr8_succ (n : Int) (k : Nat) : n / 8 ^ (k + 1) = n / 8 ^ k / 8 := by
  rw [Int.pow_succ, Int.ediv_ediv_of_nonneg (Int.pow_nonneg (by decide))]
theorem shr8_nonneg {n : Int} (h : 0 ≤ n) (k : Nat) : 0 ≤ n / 8 ^ k := Int.ediv_nonneg h (Int.pow_nonneg (by decide))
theorem shr8_le {n : Int} (h : 0 ≤ n) (k : Nat) : n / 8 ^ k ≤ n := Int.ediv_le_self _ h

/-- Cell j behind k rounds of PutBinary. -/
def binC (n : Int) (N k j : Nat) : Int := if N ≤ j + k ∧ j < N then (n / 256 ^ (N - 1 - j)) % 256 else 0
def binG (n : Int) (N j : Nat) : Int := if j = 0 then (n / 256 ^ (N - 1)) % 128 + 128 else (n / 256 ^ (N - 1 - j)) % 256
theorem binC_zero (n : Int) (N j : Nat) : binC n N 0 j = 0 := by
  unfold binC
  rw [if_neg (by omega)]
theorem binC_succ (n : Int) (N k j : Nat) (hk : k < N) : (if j = N - 1 - k then (n / 256 ^ k) % 256 else binC n N k j) = binC n N (k + 1) j := by
  by_cases h : j = N - 1 - k
  · rw [if_pos h]
    unfold binC
    rw [if_pos ⟨by omega, by omega⟩, show N - 1 - j = k by omega]
  · rw [if_neg h]
    unfold binC
    by_cases h2 : N ≤ j + k ∧ j < N
    · rw [if_pos h2, if_pos ⟨by omega, h2.2⟩]
    · rw [if_neg h2, if_neg (by omega)]
theorem binC_first (n : Int) (N : Nat) (h : 0 < N) : binC n N N 0 = (n / 256 ^ (N - 1)) % 256 := by
  unfold binC
  rw [if_pos ⟨by omega, h⟩, Nat.sub_zero]
theorem binC_end (n : Int) (N j : Nat) (h : j < N) : (if j = 0 then (n / 256 ^ (N - 1)) % 256 % 128 + 128 else binC n N N j) = binG n N j := by
  unfold binG
  by_cases h0 : j = 0
  · rw [if_pos h0, if_pos h0]
    omega
  · rw [if_neg h0, if_neg h0]
    unfold binC
    rw [if_pos ⟨by omega, h⟩]
theorem binG_bd (n : Int) (N j : Nat) : 0 ≤ binG n N j ∧ binG n N j ≤ 255 := by
  unfold binG; split <;> omega
def bin (n : Int) (N : Nat) : List Int := listOf (binG n N) N
def binFits (n wide : Int) : Bool := decide (2 ≤ wide) && decide (wide ≤ 32) && binOk (bin n wide.toNat) && (binN (bin n wide.toNat) == n)
def binR (n wide : Int) : List Int := if binFits n wide then bin n wide.toNat else []
theorem shr256_succ (n : Int) (k : Nat) : n / 256 ^ (k + 1) = n / 256 ^ k / 256 := by
  rw [Int.pow_succ, Int.ediv_ediv_of_nonneg (Int.pow_nonneg (by decide))]
theorem shr256_bd {n : Int} (h : -9223372036854775808 ≤ n ∧ n ≤ 9223372036854775807) (k : Nat) : -9223372036854775808 ≤ n / 256 ^ k ∧ n / 256 ^ k ≤ 9223372036854775807 := by
  induction k with
  | zero => simpa using h
  | succ k ih => rw [shr256_succ]; omega

def putFits (n wide : Int) : Bool := octFits n wide || binFits n wide
def putR (n wide : Int) : List Int := if octFits n wide then oct n wide.toNat else binR n wide
end M
end Go.Proofs.Ytcedcfagfklohaa.Hd

namespace Go.Proofs.Ytcedcfagfklohaa.Hd
namespace M

def parN (zs : List Int) : Int := if marked zs then binN zs else octN zs
def parOk (zs : List Int) : Bool := if marked zs then binOk zs else octOk zs

/-! ### Digits -/
theorem range_digits_val (x : Int) (m : Nat) (h0 : x / 8 ^ m = 0) : ∀ k, k ≤ m → val ((List.range k).map (fun j => 48 + (x / 8 ^ (m - 1 - j)) % 8)) = x / 8 ^ (m - k)
  | 0, _ => by rw [Nat.sub_zero, h0]; rfl
  | k + 1, hk => by
    rw [List.range_succ, List.map_append, List.map_singleton, val_snoc, range_digits_val x m h0 k (by omega)]
    have e : x / 8 ^ (m - k) = x / 8 ^ (m - 1 - k) / 8 := by rw [← shr8_succ, show m - 1 - k + 1 = m - k by omega]
    rw [e, show m - (k + 1) = m - 1 - k by omega]
    omega
theorem dig_digit (y : Int) : dig (48 + y % 8) = true := by
  unfold dig
  rw [Bool.and_eq_true, decide_eq_true_eq, decide_eq_true_eq]
  omega
theorem oct_eq (x : Int) (m : Nat) : oct x (m + 1) = (List.range m).map (fun j => 48 + (x / 8 ^ (m - 1 - j)) % 8) ++ [0] := by
  unfold oct listOf
  rw [List.range_succ, List.map_append, List.map_singleton]
  congr 1
  · refine List.map_congr_left fun j hj => ?_
    have hj' : j < m := List.mem_range.1 hj
    unfold octG
    rw [if_pos (by omega), show m + 1 - 2 - j = m - 1 - j by omega]
  · unfold octG
    rw [if_neg (by omega)]
/-- Digits, then bytes of which the first is none: what is read of both. -/
theorem takeWhile_app {p : Int → Bool} : ∀ {ds l : List Int}, (∀ d ∈ ds, p d = true) → (∀ z r, l = z :: r → p z = false) → (ds ++ l).takeWhile p = ds ∧ (ds ++ l).dropWhile p = l
  | [], [], _, _ => by simp
  | [], z :: r, _, h => by have := h z r rfl; simp [this]
  | d :: ds, l, hd, h => by
    have h1 := hd d (by simp)
    have ih := takeWhile_app (p := p) (ds := ds) (l := l) (fun x hx => hd x (by simp [hx])) h
    simp [h1, ih.1, ih.2]
theorem rest_blanks (a : Nat) (l : List Int) (h : ∀ z r, l = z :: r → z ≠ 32) : rest (List.replicate a 32 ++ l) = l := by
  unfold rest
  refine (takeWhile_app (p := (· == 32)) (ds := List.replicate a 32) (l := l) ?_ ?_).2
  · intro d hd
    rw [List.mem_replicate] at hd
    simp [hd.2]
  · intro z r e
    simpa using h z r e
/-- Of blanks, digits, and then something else. -/
theorem oct_parts (a : Nat) (ds l : List Int) (hd : ∀ d ∈ ds, dig d = true) (h1 : ds ≠ []) (hl : ∀ z r, l = z :: r → dig z = false) :
    digs (List.replicate a 32 ++ (ds ++ l)) = ds ∧ tail (List.replicate a 32 ++ (ds ++ l)) = l := by
  have hr : rest (List.replicate a 32 ++ (ds ++ l)) = ds ++ l := by
    refine rest_blanks a _ fun z r e => ?_
    cases ds with
    | nil => exact absurd rfl h1
    | cons d ds =>
      have hdd := hd d (by simp)
      simp at e
      rw [← e.1]
      rintro rfl
      simp [dig] at hdd
  unfold digs tail
  rw [hr]
  exact takeWhile_app hd hl
theorem octOk_parts {zs ds l : List Int} (h1 : digs zs = ds) (h2 : tail zs = l) : octOk zs = (l.all fil && decide (val ds ≤ most)) := by
  unfold octOk
  rw [h1, h2]
theorem fil_not_dig {z : Int} (h : fil z = true) : dig z = false := by
  unfold fil at h
  rw [Bool.or_eq_true, beq_iff_eq, beq_iff_eq] at h
  rcases h with rfl | rfl <;> decide

theorem oct_reads {x : Int} {N : Nat} (h2 : 2 ≤ N) (hx : x ≤ most) (hz : x / 8 ^ (N - 1) = 0) : marked (oct x N) = false ∧ octOk (oct x N) = true ∧ octN (oct x N) = x := by
  obtain ⟨m, rfl⟩ : ∃ m, N = m + 1 := ⟨N - 1, by omega⟩
  rw [Nat.add_sub_cancel] at hz
  have hv := range_digits_val x m hz m (Nat.le_refl _)
  rw [Nat.sub_self, Int.pow_zero, Int.ediv_one] at hv
  have hds : ∀ d ∈ (List.range m).map (fun j => 48 + (x / 8 ^ (m - 1 - j)) % 8), dig d = true := by
    intro d hd
    obtain ⟨j, _, rfl⟩ := List.mem_map.1 hd
    exact dig_digit _
  have hne : (List.range m).map (fun j => 48 + (x / 8 ^ (m - 1 - j)) % 8) ≠ [] := by
    intro e
    have := congrArg List.length e
    simp at this
    omega
  have hp := oct_parts 0 _ [0] hds hne (by
    intro z r e
    injection e with e _
    subst e
    decide)
  rw [← oct_eq, List.replicate_zero, List.nil_append] at hp
  have hok : octOk (oct x (m + 1)) = true := by
    rw [octOk_parts hp.1 hp.2, hv, decide_eq_true hx]
    rfl
  refine ⟨?_, hok, by rw [octN_yes hok, hp.1, hv]⟩
  rw [oct_eq]
  obtain ⟨k, rfl⟩ : ∃ k, m = k + 1 := ⟨m - 1, by omega⟩
  rw [List.range_succ_eq_map, List.map_cons, List.cons_append]
  unfold marked
  rw [decide_eq_false_iff_not]
  omega

/-! ### Bits -/
/-- The bytes behind the first. -/
def low (x : Int) (m k : Nat) : List Int := (List.range k).map (fun j => (x / 256 ^ (m - 1 - j)) % 256)
theorem bin_eq (x : Int) (m : Nat) : bin x (m + 1) = ((x / 256 ^ m) % 128 + 128) :: low x m m := by
  unfold bin listOf low
  rw [List.range_succ_eq_map, List.map_cons, List.map_map]
  congr 1
  refine List.map_congr_left fun j hj => ?_
  have hj' : j < m := List.mem_range.1 hj
  show binG x (m + 1) (j + 1) = _
  unfold binG
  rw [if_neg (by omega), show m + 1 - 1 - (j + 1) = m - 1 - j by omega]
def fold (n : Int) (l : List Int) : Int := l.foldl (fun n c => 256 * n + c) n
theorem fold_nil (n : Int) : fold n [] = n := rfl
theorem fold_cons (n c : Int) (l : List Int) : fold n (c :: l) = fold (256 * n + c) l := rfl
theorem fold_app (n : Int) (l r : List Int) : fold n (l ++ r) = fold (fold n l) r := by simp [fold, List.foldl_append]
theorem bits_fold (z : Int) (l : List Int) : bits z l = fold (first z) l := rfl
theorem fold_low (x : Int) (m : Nat) : ∀ k, k ≤ m → fold (x / 256 ^ m) (low x m k) = x / 256 ^ (m - k)
  | 0, _ => by rw [Nat.sub_zero]; rfl
  | k + 1, hk => by
    have ih := fold_low x m k (by omega)
    unfold low at ih ⊢
    rw [List.range_succ, List.map_append, List.map_singleton, fold_app, ih, fold_cons, fold_nil]
    have e : x / 256 ^ (m - k) = x / 256 ^ (m - 1 - k) / 256 := by rw [← shr256_succ, show m - 1 - k + 1 = m - k by omega]
    rw [e, show m - (k + 1) = m - 1 - k by omega]
    omega
theorem fold_low_all (x : Int) (m : Nat) : fold (x / 256 ^ m) (low x m m) = x := by
  rw [fold_low x m m (Nat.le_refl _), Nat.sub_self, Int.pow_zero, Int.ediv_one]
theorem first_of_small {q : Int} (h : -64 ≤ q ∧ q ≤ 63) : first (q % 128 + 128) = q := by
  unfold first
  split <;> omega
theorem first_range {z : Int} (h : 128 ≤ z ∧ z ≤ 255) : -64 ≤ first z ∧ first z ≤ 63 := by
  unfold first
  split <;> omega
theorem binV_room {x : Int} {N : Nat} (hN : 1 ≤ N) (h : -64 ≤ x / 256 ^ (N - 1) ∧ x / 256 ^ (N - 1) ≤ 63) : binV (bin x N) = x := by
  obtain ⟨m, rfl⟩ : ∃ m, N = m + 1 := ⟨N - 1, by omega⟩
  rw [Nat.add_sub_cancel] at h
  rw [bin_eq]
  show bits _ _ = x
  rw [bits_fold, first_of_small h, fold_low_all]
/-- A fold lies within its first number's share. -/
theorem fold_share : ∀ (l : List Int) (n : Int), (∀ c ∈ l, 0 ≤ c ∧ c ≤ 255) → fold n l / 256 ^ l.length = n
  | [], n, _ => by rw [fold_nil, List.length_nil, Int.pow_zero, Int.ediv_one]
  | c :: l, n, h => by
    have ih := fold_share l (256 * n + c) (fun x hx => h x (by simp [hx]))
    rw [fold_cons, List.length_cons, shr256_succ, ih]
    have := h c (by simp)
    omega
theorem low_bd (x : Int) (m k : Nat) : ∀ c ∈ low x m k, 0 ≤ c ∧ c ≤ 255 := by
  intro c hc
  obtain ⟨j, _, rfl⟩ := List.mem_map.1 hc
  constructor <;> omega
theorem low_len (x : Int) (m k : Nat) : (low x m k).length = k := by simp [low]
theorem room_of_binV {x : Int} {N : Nat} (hN : 1 ≤ N) (h : binV (bin x N) = x) : -64 ≤ x / 256 ^ (N - 1) ∧ x / 256 ^ (N - 1) ≤ 63 := by
  obtain ⟨m, rfl⟩ : ∃ m, N = m + 1 := ⟨N - 1, by omega⟩
  rw [Nat.add_sub_cancel]
  rw [bin_eq] at h
  have e : fold (first ((x / 256 ^ m) % 128 + 128)) (low x m m) = x := h
  have hs := fold_share (low x m m) (first ((x / 256 ^ m) % 128 + 128)) (low_bd x m m)
  rw [e, low_len] at hs
  rw [hs]
  exact first_range (by constructor <;> omega)
theorem bin_marked {x : Int} {N : Nat} (hN : 1 ≤ N) : marked (bin x N) = true := by
  obtain ⟨m, rfl⟩ : ∃ m, N = m + 1 := ⟨N - 1, by omega⟩
  rw [bin_eq]
  unfold marked
  rw [decide_eq_true_eq]
  omega
theorem binOk_room {x : Int} {N : Nat} (hN : 1 ≤ N) (h : -64 ≤ x / 256 ^ (N - 1) ∧ x / 256 ^ (N - 1) ≤ 63) (hx : -most ≤ x) (hx' : x ≤ most) :
    binOk (bin x N) = true ∧ binN (bin x N) = x := by
  have e := binV_room hN h
  have hok : binOk (bin x N) = true := by
    unfold binOk
    rw [bin_marked hN, e, decide_eq_true hx, decide_eq_true hx']
    rfl
  exact ⟨hok, by rw [binN_yes hok, e]⟩
theorem binFits_iff {x : Int} {N : Nat} (h1 : 2 ≤ N) (h2 : N ≤ 32) (hx : -most ≤ x) (hx' : x ≤ most) :
    binFits x N = true ↔ -64 ≤ x / 256 ^ (N - 1) ∧ x / 256 ^ (N - 1) ≤ 63 := by
  have e : binFits x N = (binOk (bin x N) && (binN (bin x N) == x)) := by
    unfold binFits
    rw [show decide ((2 : Int) ≤ N) = true by simp; omega, show decide ((N : Int) ≤ 32) = true by simp; omega, Int.toNat_natCast]
    rfl
  rw [e, Bool.and_eq_true, beq_iff_eq]
  constructor
  · rintro ⟨hok, hn⟩
    rw [binN_yes hok] at hn
    exact room_of_binV (by omega) hn
  · intro h
    exact binOk_room (by omega) h hx hx'
theorem octFits_iff {x : Int} {N : Nat} (h1 : 2 ≤ N) (h2 : N ≤ 32) (hx' : x ≤ most) : octFits x N = true ↔ 0 ≤ x ∧ x / 8 ^ (N - 1) = 0 := by
  unfold octFits
  rw [show decide ((2 : Int) ≤ N) = true by simp; omega, show decide ((N : Int) ≤ 32) = true by simp; omega, Int.toNat_natCast, decide_eq_true hx']
  simp
theorem binR_yes {x w : Int} (h : binFits x w = true) : binR x w = bin x w.toNat := by unfold binR; rw [h]; rfl
theorem octR_yes {x w : Int} (h : octFits x w = true) : octR x w = oct x w.toNat := by unfold octR; rw [h]; rfl

/-- What is put is so wide, and parsed as it was. -/
theorem put_back {x : Int} {N : Nat} (h1 : 2 ≤ N) (h2 : N ≤ 32) (hx : -most ≤ x) (hx' : x ≤ most) (h : putFits x N = true) :
    (putR x N).length = N ∧ parOk (putR x N) = true ∧ parN (putR x N) = x := by
  unfold putR
  cases ho : octFits x N with
  | true =>
    rw [if_pos rfl, Int.toNat_natCast]
    have hz := (octFits_iff h1 h2 hx').1 ho
    obtain ⟨g1, g2, g3⟩ := oct_reads h1 hx' hz.2
    refine ⟨by unfold oct; rw [listOf_len], ?_, ?_⟩
    · unfold parOk; rw [g1]; exact g2
    · unfold parN; rw [g1]; exact g3
  | false =>
    have hb : binFits x N = true := by
      unfold putFits at h
      rw [ho] at h
      exact h
    have hz := (binFits_iff h1 h2 hx hx').1 hb
    obtain ⟨g2, g3⟩ := binOk_room (by omega) hz hx hx'
    have g1 := bin_marked (x := x) (N := N) (by omega)
    have e : (if (false = true) then oct x (N : Int).toNat else binR x N) = bin x N := by
      rw [if_neg (by decide), binR_yes hb, Int.toNat_natCast]
    rw [e]
    refine ⟨by unfold bin; rw [listOf_len], ?_, ?_⟩
    · unfold parOk; rw [g1]; exact g2
    · unfold parN; rw [g1]; exact g3
theorem putR_no {x w : Int} (h : putFits x w = false) : putR x w = [] := by
  unfold putFits at h
  rw [Bool.or_eq_false_iff] at h
  unfold putR binR
  rw [h.1, h.2]
  rfl
/-- Numbers that are not too great have room in nine bytes or more. -/
theorem room_nine {x : Int} (k : Nat) (h : -2305843009213693952 ≤ x ∧ x ≤ 2305843009213693951) : -64 ≤ x / 256 ^ (k + 8) ∧ x / 256 ^ (k + 8) ≤ 63 := by
  induction k with
  | zero =>
    rw [show (256 : Int) ^ (0 + 8) = 18446744073709551616 from rfl]
    omega
  | succ k ih =>
    rw [show k + 1 + 8 = k + 8 + 1 by omega, shr256_succ]
    omega
theorem room_more {x : Int} {N : Nat} (hN : 1 ≤ N) (h : -64 ≤ x / 256 ^ (N - 1) ∧ x / 256 ^ (N - 1) ≤ 63) : -64 ≤ x / 256 ^ (N + 1 - 1) ∧ x / 256 ^ (N + 1 - 1) ≤ 63 := by
  rw [show N + 1 - 1 = (N - 1) + 1 by omega, shr256_succ]
  omega
theorem digits_more {x : Int} {N : Nat} (hN : 1 ≤ N) (h : x / 8 ^ (N - 1) = 0) : x / 8 ^ (N + 1 - 1) = 0 := by
  rw [show N + 1 - 1 = (N - 1) + 1 by omega, shr8_succ, h]
  rfl

/-! ### Bits with more ahead -/
theorem fold_noughts (l : List Int) : ∀ k, fold 0 (List.replicate k 0 ++ l) = fold 0 l
  | 0 => rfl
  | k + 1 => by rw [List.replicate_succ, List.cons_append, fold_cons]; exact fold_noughts l k
theorem fold_ones (l : List Int) : ∀ k, fold (-1) (List.replicate k 255 ++ l) = fold (-1) l
  | 0 => rfl
  | k + 1 => by rw [List.replicate_succ, List.cons_append, fold_cons]; exact fold_ones l k
theorem share_pos {x : Int} (h0 : 0 ≤ x) (h1 : x ≤ 2305843009213693951) : x / 256 ^ 9 = 0 := by
  rw [show (256 : Int) ^ 9 = 4722366482869645213696 from rfl]
  omega
theorem share_neg {x : Int} (h0 : x < 0) (h1 : -2305843009213693952 ≤ x) : x / 256 ^ 9 = -1 := by
  rw [show (256 : Int) ^ 9 = 4722366482869645213696 from rfl]
  omega
theorem bin_ten (x : Int) : bin x 10 = ((x / 256 ^ 9) % 128 + 128) :: low x 9 9 := bin_eq x 9
theorem drop_ten (x : Int) : (bin x 10).drop 1 = low x 9 9 := by rw [bin_ten]; rfl
theorem signs_pos {x : Int} (h0 : 0 ≤ x) (h1 : x ≤ 2305843009213693951) (k : Nat) :
    binOk ((128 :: List.replicate k 0) ++ [0] ++ low x 9 9) = true ∧ binN ((128 :: List.replicate k 0) ++ [0] ++ low x 9 9) = x := by
  have e : binV ((128 :: List.replicate k 0) ++ [0] ++ low x 9 9) = x := by
    show fold (first 128) (List.replicate k 0 ++ [0] ++ low x 9 9) = x
    rw [show first 128 = 0 from rfl, List.append_assoc, fold_noughts]
    show fold 0 (low x 9 9) = x
    have h := fold_low_all x 9
    rw [share_pos h0 h1] at h
    exact h
  have hok : binOk ((128 :: List.replicate k 0) ++ [0] ++ low x 9 9) = true := by
    unfold binOk
    rw [e, decide_eq_true (by unfold most; omega : -most ≤ x), decide_eq_true (by unfold most; omega : x ≤ most)]
    rfl
  exact ⟨hok, by rw [binN_yes hok, e]⟩
theorem signs_neg {x : Int} (h0 : x < 0) (h1 : -2305843009213693952 ≤ x) (k : Nat) :
    binOk ((255 :: List.replicate k 255) ++ [255] ++ low x 9 9) = true ∧ binN ((255 :: List.replicate k 255) ++ [255] ++ low x 9 9) = x := by
  have e : binV ((255 :: List.replicate k 255) ++ [255] ++ low x 9 9) = x := by
    show fold (first 255) (List.replicate k 255 ++ [255] ++ low x 9 9) = x
    rw [show first 255 = -1 from rfl, List.append_assoc, fold_ones]
    show fold (-1) (low x 9 9) = x
    have h := fold_low_all x 9
    rw [share_neg h0 h1] at h
    exact h
  have hok : binOk ((255 :: List.replicate k 255) ++ [255] ++ low x 9 9) = true := by
    unfold binOk
    rw [e, decide_eq_true (by unfold most; omega : -most ≤ x), decide_eq_true (by unfold most; omega : x ≤ most)]
    rfl
  exact ⟨hok, by rw [binN_yes hok, e]⟩
end M
end Go.Proofs.Ytcedcfagfklohaa.Hd

namespace Go.Proofs.Ytcedcfagfklohaa.Hd
namespace M
open Go

/-- What a byte at a place counts: unsigned, signed; whether it is above 127, elsewhere than in the field. -/
def cu (i : Nat) (z : Int) : Int := if 148 ≤ i ∧ i < 156 then 32 else z
def cs (i : Nat) (z : Int) : Int := if 148 ≤ i ∧ i < 156 then 32 else if 127 < z then z - 256 else z
def hi (i : Nat) (z : Int) : Int := if 148 ≤ i ∧ i < 156 then 0 else if 127 < z then 1 else 0
def tot (f : Nat → Int → Int) : Nat → List Int → Int
  | _, [] => 0
  | i, z :: l => f i z + tot f (i + 1) l
theorem tot_app (f : Nat → Int → Int) : ∀ (a b : List Int) (i : Nat), tot f i (a ++ b) = tot f i a + tot f (i + a.length) b
  | [], b, i => by simp [tot]
  | z :: a, b, i => by
    have ih := tot_app f a b (i + 1)
    rw [List.cons_append, tot, tot, ih, List.length_cons, show i + 1 + a.length = i + (a.length + 1) by omega]
    omega
theorem tot_take (f : Nat → Int → Int) {zs : List Int} {k : Nat} {z : Int} (h : zs[k]? = some z) : tot f 0 (zs.take (k + 1)) = tot f 0 (zs.take k) + f k z := by
  have hk : k < zs.length := (List.getElem?_eq_some_iff.1 h).1
  rw [take_snoc' h, tot_app, List.length_take, Nat.min_eq_left (by omega), tot, tot, Nat.zero_add, Int.add_zero]
theorem tot_bd (f : Nat → Int → Int) (lo up : Int) : ∀ (zs : List Int) (i : Nat), (∀ z ∈ zs, ∀ j, lo ≤ f j z ∧ f j z ≤ up) → lo * zs.length ≤ tot f i zs ∧ tot f i zs ≤ up * zs.length
  | [], i, _ => by simp [tot]
  | z :: l, i, h => by
    have ih := tot_bd f lo up l (i + 1) (fun x hx => h x (by simp [hx]))
    have h1 := h z (by simp) i
    rw [tot, List.length_cons, Int.natCast_add, Int.mul_add, Int.mul_add]
    simp only [Int.natCast_one, Int.mul_one]
    omega
theorem cu_bd {i : Nat} {z : Int} (h : 0 ≤ z ∧ z ≤ 255) : 0 ≤ cu i z ∧ cu i z ≤ 255 := by unfold cu; split <;> omega
theorem cs_bd {i : Nat} {z : Int} (h : 0 ≤ z ∧ z ≤ 255) : -128 ≤ cs i z ∧ cs i z ≤ 127 := by unfold cs; split <;> (try split) <;> omega
theorem hi_bd (i : Nat) (z : Int) : 0 ≤ hi i z ∧ hi i z ≤ 1 := by unfold hi; split <;> (try split) <;> omega
theorem tot_cu_bd {zs : List Int} (i : Nat) (h : ∀ z ∈ zs, 0 ≤ z ∧ z ≤ 255) : 0 ≤ tot cu i zs ∧ tot cu i zs ≤ 255 * zs.length := by
  have := tot_bd cu 0 255 zs i (fun z hz j => cu_bd (h z hz))
  omega
theorem tot_cs_bd {zs : List Int} (i : Nat) (h : ∀ z ∈ zs, 0 ≤ z ∧ z ≤ 255) : -128 * (zs.length : Int) ≤ tot cs i zs ∧ tot cs i zs ≤ 127 * zs.length := tot_bd cs (-128) 127 zs i (fun z hz j => cs_bd (h z hz))
theorem tot_hi_bd (zs : List Int) (i : Nat) : 0 ≤ tot hi i zs ∧ tot hi i zs ≤ zs.length := by
  have := tot_bd hi 0 1 zs i (fun z _ j => hi_bd j z)
  omega
theorem cs_eq (i : Nat) (z : Int) : cs i z = cu i z - 256 * hi i z := by unfold cs cu hi; split <;> (try split) <;> omega
theorem tot_cs : ∀ (zs : List Int) (i : Nat), tot cs i zs = tot cu i zs - 256 * tot hi i zs
  | [], i => by simp [tot]
  | z :: l, i => by
    have ih := tot_cs l (i + 1)
    have := cs_eq i z
    rw [tot, tot, tot, ih, this]
    omega
theorem tot_same (f : Nat → Int → Int) : ∀ (a b : List Int) (i : Nat), a.length = b.length → (∀ j z z', i ≤ j → j < i + a.length → f j z = f j z') → tot f i a = tot f i b
  | [], [], i, _, _ => rfl
  | [], _ :: _, i, h, _ => by simp at h
  | _ :: _, [], i, h, _ => by simp at h
  | x :: a, y :: b, i, h, hf => by
    have ih := tot_same f a b (i + 1) (by simpa using h) (fun j z z' h1 h2 => hf j z z' (by omega) (by rw [List.length_cons]; omega))
    rw [tot, tot, ih, hf i x y (Nat.le_refl _) (by rw [List.length_cons]; omega)]
theorem tot_set (f : Nat → Int → Int) : ∀ (zs : List Int) (k i : Nat) (z v : Int), zs[k]? = some z → tot f i (zs.set k v) = tot f i zs - f (i + k) z + f (i + k) v
  | [], k, i, z, v, h => by simp at h
  | x :: l, 0, i, z, v, h => by
    simp at h
    subst h
    rw [List.set_cons_zero, tot, tot]
    simp only [Nat.add_zero]
    omega
  | x :: l, k + 1, i, z, v, h => by
    have ih := tot_set f l k (i + 1) z v (by simpa using h)
    rw [List.set_cons_succ, tot, tot, ih, show i + 1 + k = i + (k + 1) by omega]
    omega
theorem cu_out {i : Nat} {z : Int} (h : i < 148 ∨ 156 ≤ i) : cu i z = z := by unfold cu; rw [if_neg (by omega)]
theorem cu_in {i : Nat} {z : Int} (h : 148 ≤ i) (h' : i < 156) : cu i z = 32 := by unfold cu; rw [if_pos ⟨h, h'⟩]
theorem cs_in {i : Nat} {z : Int} (h : 148 ≤ i) (h' : i < 156) : cs i z = 32 := by unfold cs; rw [if_pos ⟨h, h'⟩]
theorem cs_lo {i : Nat} {z : Int} (h : i < 148 ∨ 156 ≤ i) (hz : z ≤ 127) : cs i z = z := by unfold cs; rw [if_neg (by omega), if_neg (by omega)]
theorem cs_hi {i : Nat} {z : Int} (h : i < 148 ∨ 156 ≤ i) (hz : 127 < z) : cs i z = z - 256 := by unfold cs; rw [if_neg (by omega), if_pos hz]
theorem hi_in {i : Nat} {z : Int} (h : 148 ≤ i) (h' : i < 156) : hi i z = 0 := by unfold hi; rw [if_pos ⟨h, h'⟩]
theorem hi_lo {i : Nat} {z : Int} (hz : z ≤ 127) : hi i z = 0 := by unfold hi; split; rfl; rw [if_neg (by omega)]
theorem hi_hi {i : Nat} {z : Int} (h : i < 148 ∨ 156 ≤ i) (hz : 127 < z) : hi i z = 1 := by unfold hi; rw [if_neg (by omega), if_pos hz]

def uns (zs : List Int) : Int := tot cu 0 zs
def sgn (zs : List Int) : Int := tot cs 0 zs
theorem sgn_eq (zs : List Int) : sgn zs = uns zs - 256 * tot hi 0 zs := tot_cs zs 0

/-! ### The field -/
def fld (zs : List Int) : List Int := (zs.drop 148).take 8
def toldOk (zs : List Int) : Bool := decide (zs.length = 512) && octOk (fld zs)
def toldN (zs : List Int) : Int := if zs.length = 512 then octN (fld zs) else 0
def right (zs : List Int) : Bool := toldOk zs && (toldN zs == uns zs || toldN zs == sgn zs)
def zero (zs : List Int) : Bool := decide (zs.length = 512) && zs.all (· == 0)
def pad (zs : List Int) : List Int := (zs ++ List.replicate 512 0).take 512
def sld (zs : List Int) : List Int := splice (pad zs) 148 (oct (uns (pad zs)) 7 ++ [32])

theorem toldOk_no {zs : List Int} (h : zs.length ≠ 512) : toldOk zs = false := by unfold toldOk; simp [h]
theorem toldN_no {zs : List Int} (h : zs.length ≠ 512) : toldN zs = 0 := by unfold toldN; rw [if_neg h]
theorem toldOk_yes {zs : List Int} (h : zs.length = 512) : toldOk zs = octOk (fld zs) := by unfold toldOk; simp [h]
theorem toldN_yes {zs : List Int} (h : zs.length = 512) : toldN zs = octN (fld zs) := by unfold toldN; rw [if_pos h]
theorem right_no {zs : List Int} (h : toldOk zs = false) : right zs = false := by unfold right; rw [h]; rfl
theorem zero_no {zs : List Int} (h : zs.length ≠ 512) : zero zs = false := by unfold zero; simp [h]

theorem pad_len (zs : List Int) : (pad zs).length = 512 := by unfold pad; rw [List.length_take, List.length_append, List.length_replicate]; omega
theorem pad_bd {zs : List Int} (h : ∀ z ∈ zs, 0 ≤ z ∧ z ≤ 255) : ∀ z ∈ pad zs, 0 ≤ z ∧ z ≤ 255 := by
  intro z hz
  rcases List.mem_append.1 (List.mem_of_mem_take hz) with h1 | h1
  · exact h z h1
  · rw [(List.mem_replicate.1 h1).2]; decide
theorem pad_self {zs : List Int} (h : zs.length = 512) : pad zs = zs := by
  unfold pad
  rw [List.take_append_of_le_length (by omega)]
  exact List.take_of_length_le (by omega)
theorem pad_nil : pad [] = List.replicate 512 0 := by unfold pad; rw [List.nil_append]; exact List.take_of_length_le (by rw [List.length_replicate]; exact Nat.le_refl _)
/-- What is copied into noughts. -/
theorem pad_splice (zs : List Int) : splice (List.replicate 512 (0 : Int)) 0 (zs.take 512) = pad zs := by
  unfold splice pad
  rw [List.take_zero, List.nil_append, List.drop_replicate, List.length_take, Nat.zero_add, List.take_append, List.take_replicate]
  congr 2
  omega
/-- One byte more of what is copied. -/
theorem pad_step {zs : List Int} {k : Nat} {z : Int} (hk : k < 512) (h : zs[k]? = some z) : (pad (zs.take k)).set k z = pad (zs.take (k + 1)) := by
  have hl : k < zs.length := (List.getElem?_eq_some_iff.1 h).1
  have e : zs.take (k + 1) = zs.take k ++ [z] := take_snoc' h
  apply List.ext_getElem?
  intro j
  have hk1 : (zs.take k).length = k := by rw [List.length_take]; omega
  rw [List.getElem?_set]
  by_cases hj : k = j
  · subst hj
    rw [if_pos rfl, pad_len, if_pos hk]
    unfold pad
    rw [List.getElem?_take, if_pos hk, e, List.append_assoc, List.getElem?_append_right (by omega), hk1, Nat.sub_self]
    rfl
  · rw [if_neg hj]
    unfold pad
    rw [List.getElem?_take, List.getElem?_take]
    by_cases h5 : j < 512
    · rw [if_pos h5, if_pos h5, e, List.append_assoc]
      by_cases hjk : j < k
      · rw [List.getElem?_append_left (by omega), List.getElem?_append_left (by omega)]
      · rw [List.getElem?_append_right (by omega), List.getElem?_append_right (by omega), hk1, List.getElem?_append_right (by simp; omega)]
        rw [List.getElem?_replicate, List.getElem?_replicate, List.length_singleton, if_pos (by omega), if_pos (by omega)]
    · rw [if_neg h5, if_neg h5]
theorem pad_take (zs : List Int) : pad (zs.take 512) = pad zs := by
  unfold pad
  by_cases h : zs.length ≤ 512
  · rw [List.take_of_length_le h]
  · rw [List.take_append_of_le_length (by rw [List.length_take]; omega), List.take_append_of_le_length (by omega), List.take_take, Nat.min_self]
theorem pad_most {zs : List Int} {k : Nat} (h : k = zs.length ∨ k = 512) (hk : k ≤ zs.length) : pad (zs.take k) = pad zs := by
  rcases h with rfl | rfl
  · rw [List.take_length]
  · exact pad_take zs

/-- One byte more of what is laid in. -/
theorem splice_step {zs a : List Int} {o : Nat} {v : Int} (h : o + a.length < zs.length) : (splice zs o a).set (o + a.length) v = splice zs o (a ++ [v]) := by
  unfold splice
  have h1 : (zs.take o).length = o := by rw [List.length_take]; omega
  rw [List.set_append_right _ _ (by omega), h1, Nat.add_sub_cancel_left, List.set_append_right _ _ (Nat.le_refl _), Nat.sub_self, List.length_append, List.length_singleton]
  congr 1
  rw [List.append_assoc]
  congr 1
  obtain ⟨x, l, hx⟩ : ∃ x l, zs.drop (o + a.length) = x :: l := by
    cases hd : zs.drop (o + a.length) with
    | nil => rw [List.drop_eq_nil_iff] at hd; omega
    | cons x l => exact ⟨x, l, rfl⟩
  rw [hx, List.set_cons_zero, show o + (a.length + 1) = o + a.length + 1 by omega, ← List.drop_drop, hx]
  rfl
theorem splice_nil (zs : List Int) (o : Nat) : splice zs o [] = zs := by unfold splice; simp
theorem splice_len {zs a : List Int} {o : Nat} (h : o + a.length ≤ zs.length) : (splice zs o a).length = zs.length := length_splice zs o a h

theorem oct7_len (n : Int) : (oct n 7).length = 7 := listOf_len _ _
theorem oct8_len (n : Int) : (oct n 7 ++ [32]).length = 8 := by rw [List.length_append, oct7_len]; rfl
theorem oct_bd (n : Int) (N : Nat) : ∀ z ∈ oct n N, 0 ≤ z ∧ z ≤ 255 := by
  intro z hz
  obtain ⟨j, _, rfl⟩ := List.mem_map.1 hz
  exact octG_bd n N j
theorem oct8_bd (n : Int) : ∀ z ∈ oct n 7 ++ [32], 0 ≤ z ∧ z ≤ 255 := by
  intro z hz
  rcases List.mem_append.1 hz with h | h
  · exact oct_bd n 7 z h
  · rw [List.mem_singleton.1 h]; decide
theorem splice_bd {zs a : List Int} {o : Nat} (h : ∀ z ∈ zs, 0 ≤ z ∧ z ≤ 255) (ha : ∀ z ∈ a, 0 ≤ z ∧ z ≤ 255) : ∀ z ∈ splice zs o a, 0 ≤ z ∧ z ≤ 255 := by
  intro z hz
  unfold splice at hz
  rcases List.mem_append.1 hz with h1 | h1
  · exact h z (List.mem_of_mem_take h1)
  · rcases List.mem_append.1 h1 with h2 | h2
    · exact ha z h2
    · exact h z (List.mem_of_mem_drop h2)
theorem sld_len (zs : List Int) : (sld zs).length = 512 := by unfold sld; rw [splice_len (by rw [oct8_len, pad_len]; omega), pad_len]
theorem sld_bd {zs : List Int} (h : ∀ z ∈ zs, 0 ≤ z ∧ z ≤ 255) : ∀ z ∈ sld zs, 0 ≤ z ∧ z ≤ 255 := splice_bd (pad_bd h) (oct8_bd _)
theorem uns_pad_bd {zs : List Int} (h : ∀ z ∈ zs, 0 ≤ z ∧ z ≤ 255) : 0 ≤ uns (pad zs) ∧ uns (pad zs) ≤ 130560 := by
  have := tot_cu_bd 0 (pad_bd h)
  rw [pad_len] at this
  unfold uns
  omega
theorem fits7 {n : Int} (h : 0 ≤ n) (h' : n ≤ 262143) : octFits n 7 = true ∧ n / 8 ^ 6 = 0 ∧ octR n 7 = oct n 7 := by
  have hz : n / 8 ^ 6 = 0 := by
    rw [show (8 : Int) ^ 6 = 262144 from by decide]
    omega
  have hf : octFits n 7 = true := by
    unfold octFits most
    rw [show (7 : Int).toNat - 1 = 6 from rfl, hz]
    simp
    omega
  refine ⟨hf, hz, ?_⟩
  unfold octR
  rw [hf]
  rfl

/-- What the field does not count. -/
theorem tot_splice (f : Nat → Int → Int) (hf : ∀ j z z', 148 ≤ j → j < 156 → f j z = f j z') {zs a : List Int} (hl : 156 ≤ zs.length) (ha : a.length = 8) : tot f 0 (splice zs 148 a) = tot f 0 zs := by
  have e : zs = zs.take 148 ++ (((zs.drop 148).take 8) ++ zs.drop 156) := by
    conv => lhs; rw [← List.take_append_drop 148 zs]
    congr 1
    conv => lhs; rw [← List.take_append_drop 8 (zs.drop 148), List.drop_drop]
  have h1 : (zs.take 148).length = 148 := by rw [List.length_take]; omega
  have h2 : ((zs.drop 148).take 8).length = 8 := by rw [List.length_take, List.length_drop]; omega
  unfold splice
  conv => rhs; rw [e]
  rw [tot_app, tot_app, tot_app, tot_app, h1, h2, ha, tot_same f a ((zs.drop 148).take 8) (0 + 148) (by rw [ha, h2]) (fun j z z' h3 h4 => hf j z z' (by omega) (by omega))]
theorem uns_splice {zs a : List Int} (hl : 156 ≤ zs.length) (ha : a.length = 8) : uns (splice zs 148 a) = uns zs :=
  tot_splice cu (fun j z z' h1 h2 => by rw [cu_in h1 h2, cu_in h1 h2]) hl ha
theorem fld_splice {zs a : List Int} (hl : 156 ≤ zs.length) (ha : a.length = 8) : fld (splice zs 148 a) = a := by
  have h1 : (zs.take 148).length = 148 := by rw [List.length_take]; omega
  unfold fld splice
  rw [List.drop_append_of_le_length (by omega), List.drop_eq_nil_of_le (by omega), List.nil_append, List.take_append_of_le_length (by omega)]
  exact List.take_of_length_le (by omega)
theorem uns_sld (zs : List Int) : uns (sld zs) = uns (pad zs) := uns_splice (by rw [pad_len]; omega) (oct8_len _)
theorem fld_sld (zs : List Int) : fld (sld zs) = oct (uns (pad zs)) 7 ++ [32] := fld_splice (by rw [pad_len]; omega) (oct8_len _)
end M
end Go.Proofs.Ytcedcfagfklohaa.Hd

namespace Go.Proofs.Ytcedcfagfklohaa.Hd
namespace M
theorem val_oct {n : Int} (h0 : 0 ≤ n) (h1 : n ≤ 262143) : octOk (oct n 7 ++ [32]) = true ∧ octN (oct n 7 ++ [32]) = n := by
  have hz : n / 8 ^ 6 = 0 := (fits7 h0 h1).2.1
  have hv := range_digits_val n 6 hz 6 (Nat.le_refl _)
  rw [Nat.sub_self, Int.pow_zero, Int.ediv_one] at hv
  have hds : ∀ d ∈ (List.range 6).map (fun j => 48 + (n / 8 ^ (6 - 1 - j)) % 8), dig d = true := by
    intro d hd
    obtain ⟨j, _, rfl⟩ := List.mem_map.1 hd
    exact dig_digit _
  have hne : (List.range 6).map (fun j => 48 + (n / 8 ^ (6 - 1 - j)) % 8) ≠ [] := by
    intro e
    have := congrArg List.length e
    simp at this
  have hp := oct_parts 0 _ [0, 32] hds hne (by
    intro z r e
    injection e with e _
    subst e
    decide)
  have e : oct n 7 ++ [32] = (List.range 6).map (fun j => 48 + (n / 8 ^ (6 - 1 - j)) % 8) ++ [0, 32] := by
    rw [show (7 : Nat) = 6 + 1 from rfl, oct_eq, List.append_assoc]
    rfl
  rw [List.replicate_zero, List.nil_append, ← e] at hp
  have hok : octOk (oct n 7 ++ [32]) = true := by
    rw [octOk_parts hp.1 hp.2, hv, decide_eq_true (show n ≤ most by unfold most; omega)]
    rfl
  exact ⟨hok, by rw [octN_yes hok, hp.1, hv]⟩
/-- What is sealed tells its sum. -/
theorem told_sld {zs : List Int} (h : ∀ z ∈ zs, 0 ≤ z ∧ z ≤ 255) : toldOk (sld zs) = true ∧ toldN (sld zs) = uns (pad zs) := by
  have hb := uns_pad_bd h
  have hv := val_oct hb.1 (by omega)
  rw [toldOk_yes (sld_len zs), toldN_yes (sld_len zs), fld_sld]
  exact hv
/-- Bytes elsewhere than in the field. -/
theorem fld_set {zs : List Int} {k : Nat} {v : Int} (h : k < 148 ∨ 156 ≤ k) : fld (zs.set k v) = fld zs := by
  unfold fld
  rcases h with h | h
  · rw [List.drop_set_of_lt h]
  · rw [List.drop_set, if_neg (by omega), List.take_set_of_le (by omega)]
theorem told_set {zs : List Int} {k : Nat} {v : Int} (h : k < 148 ∨ 156 ≤ k) : toldOk (zs.set k v) = toldOk zs ∧ toldN (zs.set k v) = toldN zs := by
  unfold toldOk toldN
  rw [fld_set h, List.length_set]
  exact ⟨rfl, rfl⟩
theorem uns_set {zs : List Int} {k : Nat} {z v : Int} (h : k < 148 ∨ 156 ≤ k) (hz : zs[k]? = some z) : uns (zs.set k v) = uns zs - z + v := by
  unfold uns
  rw [tot_set cu zs k 0 z v hz, Nat.zero_add, cu_out h, cu_out h]
theorem right_of {zs : List Int} (h1 : toldOk zs = true) (h2 : toldN zs = uns zs) : right zs = true := by
  unfold right
  rw [h1, h2]
  simp
theorem right_sld {zs : List Int} (h : ∀ z ∈ zs, 0 ≤ z ∧ z ≤ 255) : right (sld zs) = true := by
  have ht := told_sld h
  exact right_of ht.1 (by rw [ht.2, uns_sld])
/-- Two bytes that change places. -/
theorem right_swap {zs : List Int} {i j : Nat} {x y : Int} (h : ∀ z ∈ zs, 0 ≤ z ∧ z ≤ 255) (hi : i < 148) (hj : 156 ≤ j) (hx : (sld zs)[i]? = some x) (hy : (sld zs)[j]? = some y) :
    right (((sld zs).set i y).set j x) = true := by
  have ht := told_sld h
  have h1 := told_set (zs := sld zs) (k := i) (v := y) (.inl hi)
  have h2 := told_set (zs := (sld zs).set i y) (k := j) (v := x) (.inr hj)
  have hy' : ((sld zs).set i y)[j]? = some y := by rw [List.getElem?_set_ne (by omega)]; exact hy
  refine right_of (by rw [h2.1, h1.1, ht.1]) ?_
  rw [h2.2, h1.2, ht.2, uns_set (.inr hj) hy', uns_set (.inl hi) hx, uns_sld]
  omega

/-! ### Small bytes -/
theorem sld_self (zs : List Int) : sld (sld zs) = sld zs := by
  have e : pad (sld zs) = sld zs := pad_self (sld_len zs)
  have hl : (sld zs).length = 512 := sld_len zs
  have hf := fld_sld zs
  have d : ∀ l, sld l = Go.splice (pad l) 148 (oct (uns (pad l)) 7 ++ [32]) := fun _ => rfl
  rw [d (sld zs), e, uns_sld, ← hf]
  generalize sld zs = l at *
  conv => rhs; rw [← List.take_append_drop 148 l]
  unfold Go.splice fld
  congr 1
  rw [List.length_take, List.length_drop, hl, show 148 + min 8 (512 - 148) = 148 + 8 from rfl, ← List.drop_drop]
  exact List.take_append_drop 8 _
theorem sld_low {zs : List Int} (h : ∀ z ∈ zs, 0 ≤ z ∧ z ≤ 127) : ∀ z ∈ sld zs, 0 ≤ z ∧ z ≤ 127 := by
  intro z hz
  unfold sld Go.splice at hz
  have hp : ∀ z ∈ pad zs, 0 ≤ z ∧ z ≤ 127 := by
    intro z hz
    rcases List.mem_append.1 (List.mem_of_mem_take hz) with h1 | h1
    · exact h z h1
    · rw [(List.mem_replicate.1 h1).2]; decide
  rcases List.mem_append.1 hz with h1 | h1
  · exact hp z (List.mem_of_mem_take h1)
  · rcases List.mem_append.1 h1 with h2 | h2
    · rcases List.mem_append.1 h2 with h3 | h3
      · obtain ⟨j, _, rfl⟩ := List.mem_map.1 h3
        unfold octG
        split <;> omega
      · rw [List.mem_singleton.1 h3]; decide
    · exact hp z (List.mem_of_mem_drop h2)
theorem tot_hi_low : ∀ (zs : List Int) (i : Nat), (∀ z ∈ zs, z ≤ 127) → tot hi i zs = 0
  | [], i, _ => rfl
  | z :: l, i, h => by rw [tot, tot_hi_low l (i + 1) (fun x hx => h x (by simp [hx])), hi_lo (h z (by simp))]; rfl
theorem sgn_low {zs : List Int} (h : ∀ z ∈ zs, z ≤ 127) : sgn zs = uns zs := by rw [sgn_eq, tot_hi_low zs 0 h]; omega
/-- One byte another one. -/
theorem right_bent {zs : List Int} {i : Nat} {x u : Int} (h : ∀ z ∈ zs, 0 ≤ z ∧ z ≤ 127) (hi : i < 148 ∨ 156 ≤ i) (hx : (sld zs)[i]? = some x) (hu : 0 ≤ u ∧ u ≤ 127) :
    right ((sld zs).set i u) = (u == x) := by
  have h255 : ∀ z ∈ zs, 0 ≤ z ∧ z ≤ 255 := fun z hz => by have := h z hz; omega
  have ht := told_sld h255
  have h1 := told_set (zs := sld zs) (k := i) (v := u) hi
  have hs : sgn ((sld zs).set i u) = uns ((sld zs).set i u) := sgn_low fun z hz => by
    rcases List.mem_or_eq_of_mem_set hz with h2 | h2
    · exact (sld_low h z h2).2
    · rw [h2]; exact hu.2
  unfold right
  rw [h1.1, h1.2, ht.1, ht.2, hs, uns_set hi hx, uns_sld, Bool.true_and, Bool.or_self, Bool.eq_iff_iff, beq_iff_eq, beq_iff_eq]
  omega
/-- The block, its first k bytes made small. -/
def small (zs : List Int) (k : Nat) : List Int := (zs.take k).map (· % 128) ++ zs.drop k
theorem small_len (zs : List Int) (k : Nat) : (small zs k).length = zs.length := by unfold small; rw [List.length_append, List.length_map, List.length_take, List.length_drop]; omega
theorem small_zero (zs : List Int) : small zs 0 = zs := by unfold small; simp
theorem small_at {zs : List Int} {k : Nat} (h : k < zs.length) : (small zs k)[k]? = zs[k]? := by
  unfold small
  have h1 : ((zs.take k).map (· % 128)).length = k := by rw [List.length_map, List.length_take]; omega
  rw [List.getElem?_append_right (by omega), h1, Nat.sub_self, List.getElem?_drop, Nat.add_zero]
theorem small_step {zs : List Int} {k : Nat} {z : Int} (h : zs[k]? = some z) : (small zs k).set k (z % 128) = small zs (k + 1) := by
  have hk : k < zs.length := (List.getElem?_eq_some_iff.1 h).1
  have h1 : ((zs.take k).map (· % 128)).length = k := by rw [List.length_map, List.length_take]; omega
  unfold small
  rw [List.set_append_right _ _ (by omega), h1, Nat.sub_self, take_snoc' h, List.map_append, List.append_assoc]
  congr 1
  have hd : zs.drop k = z :: zs.drop (k + 1) := by
    rw [List.drop_eq_getElem_cons hk]
    congr 1
    exact (List.getElem?_eq_some_iff.1 h).2
  rw [hd, List.set_cons_zero]
  rfl
theorem small_all {zs : List Int} (h : zs.length = 512) : small zs 512 = zs.map (· % 128) := by
  unfold small
  rw [List.take_of_length_le (by omega), List.drop_eq_nil_of_le (by omega), List.append_nil]
end M
end Go.Proofs.Ytcedcfagfklohaa.Hd

namespace Go.Proofs.Ytcedcfagfklohaa.Hd
open Go.RowKit

/-- Where 's[k:]' begins. -/
def cutA (A : Option Addr) (c k : Nat) : Option Addr := if c = k then A else A.map (·.add k)

/-- The slice '.slice A n c' reads as the bytes zs, in a block below B. -/
def Rd (w : World) (B : Nat) (A : Option Addr) (n : Nat) (zs : List Int) : Prop :=
  zs.length = n ∧ (∀ z ∈ zs, 0 ≤ z ∧ z ≤ 255) ∧
    (0 < n → ∃ b off, A = some ⟨b, off, none⟩ ∧ b < B ∧ ∀ j z, zs[j]? = some z → w.cell? ⟨b, off + j, none⟩ = some (.int .u8 z))

section
variable {w w' : World} {B B' n : Nat} {A : Option Addr} {zs : List Int}
theorem Rd.len (h : Rd w B A n zs) : zs.length = n := h.1
theorem Rd.bd (h : Rd w B A n zs) : ∀ z ∈ zs, 0 ≤ z ∧ z ≤ 255 := h.2.1
theorem Rd.none_ : Rd w B A 0 [] := ⟨rfl, by simp, fun h => absurd h (by omega)⟩
theorem Rd.at_ {k : Nat} (h : Rd w B A n zs) (hk : k < n) :
    ∃ b off z, A = some ⟨b, off, none⟩ ∧ b < B ∧ 0 ≤ z ∧ z ≤ 255 ∧ zs[k]? = some z ∧ w.cell? ⟨b, off + k, none⟩ = some (.int .u8 z) := by
  obtain ⟨b, off, e, hb, hc⟩ := h.2.2 (by omega)
  have hl : k < zs.length := by have := h.1; omega
  have hz := h.2.1 zs[k] (List.getElem_mem hl)
  exact ⟨b, off, zs[k], e, hb, hz.1, hz.2, List.getElem?_eq_getElem hl, hc k _ (List.getElem?_eq_getElem hl)⟩
theorem Rd.keep (h : Rd w B A n zs) (hk : ∀ p : Addr, p.block < B → w'.cell? p = w.cell? p) : Rd w' B A n zs :=
  ⟨h.1, h.2.1, fun hn => by
    obtain ⟨b, off, e, hb, hc⟩ := h.2.2 hn
    exact ⟨b, off, e, hb, fun j z hz => (hk _ hb).trans (hc j z hz)⟩⟩
theorem Rd.more (h : Rd w B A n zs) (hB : B ≤ B') : Rd w B' A n zs :=
  ⟨h.1, h.2.1, fun hn => by
    obtain ⟨b, off, e, hb, hc⟩ := h.2.2 hn
    exact ⟨b, off, e, by omega, hc⟩⟩
theorem Rd.below (h : Rd w B A n zs) (hb : Below B w w') : Rd w' B A n zs := h.keep fun _ hp => hb.cell hp
theorem Rd.drew (h : Rd w B A n zs) : Rd w.drew B A n zs := h
theorem Rd.drewN (h : Rd w B A n zs) (k : Nat) : Rd (w.drewN k) B A n zs := h
theorem Rd.alloc (h : Rd w B A n zs) (hB : B ≤ w.heap.size) (o : Obj) : Rd (w.alloc o) B A n zs := h.keep fun p hp => World.cell?_alloc_lt w o p (by omega)
theorem Rd.setCell (h : Rd w B A n zs) {p : Addr} (hB : B ≤ p.block) (u : Value) : Rd (w.setCell p u) B A n zs :=
  h.keep fun q hq => World.cell?_setCell_other w p q u (fun e => by subst e; omega)
theorem Rd.cut {c k : Nat} (h : Rd w B A n zs) (hk : k ≤ n) (hc : n ≤ c) : Rd w B (cutA A c k) (n - k) (zs.drop k) := by
  unfold cutA
  refine ⟨by rw [List.length_drop, h.1], fun z hz => h.2.1 z (List.mem_of_mem_drop hz), fun hn => ?_⟩
  obtain ⟨b, off, rfl, hb, hcell⟩ := h.2.2 (by omega)
  rw [if_neg (by omega)]
  refine ⟨b, off + k, ?_, hb, fun j z hz => ?_⟩
  · simp [Addr.add]
  · rw [Nat.add_assoc]
    exact hcell _ z (by rw [← hz, List.getElem?_drop])
theorem Rd.front {k : Nat} (h : Rd w B A n zs) (hk : k ≤ n) : Rd w B A k (zs.take k) := by
  refine ⟨by rw [List.length_take, h.1]; omega, fun z hz => h.2.1 z (List.mem_of_mem_take hz), fun hn => ?_⟩
  obtain ⟨b, off, e, hb, hcell⟩ := h.2.2 (by omega)
  refine ⟨b, off, e, hb, fun j z hz => hcell j z ?_⟩
  rw [List.getElem?_take] at hz
  split at hz
  · exact hz
  · cases hz
theorem Rd.of_own {base : Nat} {e : TypeId} {c : Nat} (h : w.ownsRow base e 1 (.slice A n c) n (zs.map (Value.int .u8))) (hz : ∀ z ∈ zs, 0 ≤ z ∧ z ≤ 255) : Rd w w.heap.size A n zs := by
  refine ⟨by have := h.1; simpa using this, hz, fun hn => ?_⟩
  obtain ⟨g, cap, hv, _, hlt⟩ := h.form hn
  have hA : A = some ⟨g, 0, none⟩ := by injection hv
  subst hA
  refine ⟨g, 0, rfl, hlt, fun j z hj => ?_⟩
  have := h.cells (g := g) rfl j (.int .u8 z) (by simp [List.getElem?_map, hj])
  unfold Addr.add at this
  split at this
  · rename_i h0
    subst h0
    exact this
  · simpa using this
end

theorem ret_int {k : IntKind} {a b : Int} (h : a = b) : Ending.returned (.int k a) = .returned (.int k b) := by rw [h]
theorem ret_bool {a b : Bool} (h : a = b) : Ending.returned (.bool a) = .returned (.bool b) := by rw [h]
end Go.Proofs.Ytcedcfagfklohaa.Hd

namespace Go.Proofs.Ytcedcfagfklohaa.Hd.S
namespace M

/-- What lies between slashes. -/
def parts : List UInt8 → List (List UInt8)
  | [] => [[]]
  | c :: l => if c = 47 then [] :: parts l else match parts l with
    | [] => [[c]]
    | p :: ps => (c :: p) :: ps

/-- A part that leads somewhere. -/
def leads (p : List UInt8) : Bool := !(p == []) && !(p == [46])
/-- A path's names. -/
def names (l : List UInt8) : List (List UInt8) := (parts l).filter leads
/-- Names, a slash between. -/
def join : List (List UInt8) → List UInt8
  | [] => []
  | [p] => p
  | p :: q :: ps => p ++ 47 :: join (q :: ps)
/-- The path of the names. -/
def clean (l : List UInt8) : List UInt8 × Bool :=
  if [47].isPrefixOf l then ([], false) else if (names l).contains [46, 46] then ([], false) else (join (names l), true)

theorem parts_ne (l : List UInt8) : parts l ≠ [] := by
  cases l with
  | nil => simp [parts]
  | cons c l =>
    unfold parts
    split
    · simp
    · split <;> simp

theorem parts_one {l : List UInt8} (h : ∀ c ∈ l, c ≠ 47) : parts l = [l] := by
  induction l with
  | nil => rfl
  | cons c l ih =>
    have := ih (fun x hx => h x (List.mem_cons_of_mem _ hx))
    simp [parts, h c, this]

theorem parts_cut {p l : List UInt8} (h : ∀ c ∈ p, c ≠ 47) : parts (p ++ 47 :: l) = p :: parts l := by
  induction p with
  | nil => simp [parts]
  | cons c p ih =>
    have := ih (fun x hx => h x (List.mem_cons_of_mem _ hx))
    simp [parts, h c, this]

/-- Two texts, a slash between. -/
theorem parts_app (p l : List UInt8) : parts (p ++ 47 :: l) = parts p ++ parts l := by
  induction p with
  | nil => simp [parts]
  | cons c p ih =>
    by_cases hc : c = 47
    · subst hc
      simp [parts, ih]
    · rw [List.cons_append, parts, if_neg hc, ih, parts, if_neg hc]
      have := parts_ne p
      revert this
      cases parts p with
      | nil => intro h; exact absurd rfl h
      | cons a as => intro _; rfl

theorem names_app (p l : List UInt8) : names (p ++ 47 :: l) = names p ++ names l := by simp [names, parts_app]

theorem no_slash_of_part : ∀ (l : List UInt8), ∀ p ∈ parts l, ∀ c ∈ p, c ≠ 47
  | [], p, hp, c, hc => by simp [parts] at hp; subst hp; cases hc
  | d :: l, p, hp, c, hc => by
    unfold parts at hp
    split at hp
    · rcases List.mem_cons.1 hp with rfl | hp
      · cases hc
      · exact no_slash_of_part l p hp c hc
    · rename_i hd
      have ih := no_slash_of_part l
      revert hp ih
      cases parts l with
      | nil => intro hp _; simp at hp; subst hp; simp at hc; subst hc; exact hd
      | cons a as =>
        intro hp ih
        rcases List.mem_cons.1 hp with rfl | hp
        · rcases List.mem_cons.1 hc with rfl | hc
          · exact hd
          · exact ih a (by simp) c hc
        · exact ih p (List.mem_cons_of_mem _ hp) c hc

theorem leads_iff {p : List UInt8} : leads p = true ↔ p ≠ [] ∧ p ≠ [46] := by simp [leads]

theorem names_spec {l p : List UInt8} (h : p ∈ names l) : p ≠ [] ∧ p ≠ [46] ∧ ∀ c ∈ p, c ≠ 47 := by
  unfold names at h
  rw [List.mem_filter, leads_iff] at h
  exact ⟨h.2.1, h.2.2, no_slash_of_part l p h.1⟩

/-- Names that are some are the names of their path. -/
theorem names_join : ∀ (ps : List (List UInt8)), (∀ p ∈ ps, p ≠ [] ∧ p ≠ [46] ∧ ∀ c ∈ p, c ≠ 47) → names (join ps) = ps
  | [], _ => by simp [join, names, parts, leads]
  | [p], h => by
    obtain ⟨h1, h2, h3⟩ := h p (by simp)
    simp [join, names, parts_one h3, leads, h1, h2]
  | p :: q :: ps, h => by
    obtain ⟨h1, h2, h3⟩ := h p (by simp)
    have ih := names_join (q :: ps) (fun x hx => h x (List.mem_cons_of_mem _ hx))
    rw [join, names_app, ih]
    simp [names, parts_one h3, leads, h1, h2]

theorem join_head {ps : List (List UInt8)} (h : ∀ p ∈ ps, p ≠ [] ∧ p ≠ [46] ∧ ∀ c ∈ p, c ≠ 47) : [47].isPrefixOf (join ps) = false := by
  have key : ∀ (p t : List UInt8), p ≠ [] → (∀ c ∈ p, c ≠ 47) → [47].isPrefixOf (p ++ t) = false := by
    intro p t h1 h3
    cases p with
    | nil => exact absurd rfl h1
    | cons c p => have := h3 c (by simp); simp [List.isPrefixOf]; exact fun e => this e.symm
  match ps, h with
  | [], _ => rfl
  | [p], h =>
    obtain ⟨h1, _, h3⟩ := h p (by simp)
    have := key p [] h1 h3
    simpa [join] using this
  | p :: q :: ps, h =>
    obtain ⟨h1, _, h3⟩ := h p (by simp)
    exact key p _ h1 h3

/-- What is clean stays. -/
theorem clean_again {l a : List UInt8} (h : clean l = (a, true)) : clean a = (a, true) ∧ names a = names l ∧ a = join (names l) ∧ (names l).contains [46, 46] = false ∧ [47].isPrefixOf a = false := by
  unfold clean at h
  split at h
  · cases h
  · split at h
    · cases h
    · rename_i h1 h2
      injection h with h _
      subst h
      have hs : ∀ p ∈ names l, p ≠ [] ∧ p ≠ [46] ∧ ∀ c ∈ p, c ≠ 47 := fun p hp => names_spec hp
      have hn := names_join (names l) hs
      have hh := join_head hs
      refine ⟨?_, hn, rfl, by simpa using h2, hh⟩
      unfold clean
      rw [hn, hh, if_neg (by simp), if_neg h2]

theorem clean_no {l a : List UInt8} (h : clean l = (a, false)) : a = [] := by
  unfold clean at h
  split at h
  · injection h with h; exact h.symm
  · split at h
    · injection h with h; exact h.symm
    · cases h

/-- The place of the first slash. -/
theorem cut_some {l : List UInt8} {k : Nat} (h : Lib.indexByte l 47 = (k : Int)) : k < l.length ∧ parts l = l.take k :: parts (l.drop (k + 1)) := by
  induction l generalizing k with
  | nil => simp [Lib.indexByte] at h
  | cons c l ih =>
    unfold Lib.indexByte at h
    split at h
    · rename_i hc
      have hc' : c = 47 := by simpa using hc
      obtain rfl : k = 0 := by omega
      subst hc'
      simp [parts]
    · rename_i hc
      split at h
      · omega
      · obtain ⟨j, rfl⟩ : ∃ j, k = j + 1 := by
          rcases k with _ | j
          · exfalso
            rename_i hne
            have : Lib.indexByte l 47 = -1 := by omega
            simp [this] at hne
          · exact ⟨j, rfl⟩
        obtain ⟨h1, h2⟩ := ih (k := j) (by omega)
        have hc' : c ≠ 47 := by simpa using hc
        refine ⟨by simp; omega, ?_⟩
        simp [parts, hc', h2]

theorem indexByte_ge (l : List UInt8) (c : UInt8) : -1 ≤ Lib.indexByte l c ∧ Lib.indexByte l c < l.length := by
  induction l with
  | nil => simp [Lib.indexByte]
  | cons b l ih =>
    unfold Lib.indexByte
    simp only [List.length_cons]
    split
    · omega
    · split <;> omega

theorem not_mem_of_indexByte {l : List UInt8} {c : UInt8} (h : Lib.indexByte l c = -1) : ∀ x ∈ l, x ≠ c := by
  induction l with
  | nil => intro x hx; cases hx
  | cons b l ih =>
    unfold Lib.indexByte at h
    have hg := (indexByte_ge l c).1
    split at h
    · omega
    · rename_i hb
      split at h
      · rename_i h1
        intro x hx
        rcases List.mem_cons.1 hx with rfl | hx
        · simpa using hb
        · exact ih (by simpa using h1) x hx
      · rename_i h1
        exfalso
        have : Lib.indexByte l c ≠ -1 := by simpa using h1
        omega

theorem cut_none {l : List UInt8} (h : Lib.indexByte l 47 = -1) : parts l = [l] := parts_one (not_mem_of_indexByte h)

theorem parts_length (l : List UInt8) : (parts l).length ≤ l.length + 1 := by
  induction l with
  | nil => simp [parts]
  | cons c l ih =>
    unfold parts
    split
    · simp; exact ih
    · revert ih
      cases parts l with
      | nil => intro _; simp
      | cons a as => intro ih; simp at ih ⊢; omega

theorem names_length (l : List UInt8) : (names l).length ≤ l.length + 1 := Nat.le_trans (List.length_filter_le _ _) (parts_length l)

theorem joinlen_parts : ∀ (l : List UInt8), ((parts l).map List.length).sum + (parts l).length = l.length + 1
  | [] => by simp [parts]
  | c :: l => by
    have ih := joinlen_parts l
    unfold parts
    split
    · simp; omega
    · have := parts_ne l
      revert ih this
      cases parts l with
      | nil => intro _ h; exact absurd rfl h
      | cons a as => intro ih _; simp at ih ⊢; omega

theorem parts_tail {a b : List UInt8} {xs : List (List UInt8)} (h : parts a = xs ++ parts b) : b.length ≤ a.length := by
  have h1 := joinlen_parts a
  have h2 := joinlen_parts b
  rw [h] at h1
  simp at h1
  omega

theorem join_length (ps : List (List UInt8)) : (join ps).length ≤ (ps.map List.length).sum + ps.length := by
  match ps with
  | [] => simp [join]
  | [p] => simp [join]
  | p :: q :: ps =>
    have := join_length (q :: ps)
    simp [join] at this ⊢
    omega

theorem sum_filter (f : List UInt8 → Bool) : ∀ ps : List (List UInt8), ((ps.filter f).map List.length).sum + (ps.filter f).length ≤ (ps.map List.length).sum + ps.length
  | [] => by simp
  | p :: ps => by
    have := sum_filter f ps
    rw [List.filter_cons]
    split <;> simp <;> omega

theorem join_names_length (l : List UInt8) : (join (names l)).length ≤ l.length + 1 := by
  have h1 := join_length (names l)
  have h2 := sum_filter leads (parts l)
  have h3 := joinlen_parts l
  unfold names at h1 ⊢
  omega

/-- One name more. -/
theorem join_snoc (ps : List (List UInt8)) (q : List UInt8) : join (ps ++ [q]) = if ps = [] then q else join ps ++ 47 :: q := by
  induction ps with
  | nil => rfl
  | cons p ps ih =>
    cases ps with
    | nil => simp [join]
    | cons r rs =>
      rw [List.cons_append, List.cons_append, join, ← List.cons_append, ih]
      simp [join]

end M
end Go.Proofs.Ytcedcfagfklohaa.Hd.S

namespace Go.Proofs.Ytcedcfagfklohaa.Hd.S
namespace M

/-- The k-th byte as a number. -/
def at' (l : List UInt8) (k : Nat) : Nat := (l.getD k 0).toNat
/-- Is there a byte at k, from lo to hi? -/
def tail (l : List UInt8) (k lo hi : Nat) : Bool := decide (k < l.length) && decide (lo ≤ at' l k) && decide (at' l k ≤ hi)

def lo (c : Nat) : Nat := if c = 224 then 160 else if c = 240 then 144 else 128
def hi (c : Nat) : Nat := if c = 237 then 159 else if c = 244 then 143 else 191
def two (l : List UInt8) : Bool := tail l 1 (lo (at' l 0)) (hi (at' l 0)) && tail l 2 128 191

/-- How many bytes the character at the begin has; 0: there is none. -/
def long (l : List UInt8) : Nat :=
  if at' l 0 < 128 then 1
  else if at' l 0 ≥ 194 ∧ at' l 0 ≤ 223 ∧ tail l 1 128 191 = true then 2
  else if at' l 0 ≥ 224 ∧ at' l 0 ≤ 239 ∧ two l = true then 3
  else if at' l 0 ≥ 240 ∧ at' l 0 ≤ 244 ∧ two l = true ∧ tail l 3 128 191 = true then 4
  else 0

theorem long_le (l : List UInt8) : long l ≤ 4 := by
  unfold long
  repeat' split
  all_goals omega

theorem tail_iff (l : List UInt8) (k lo hi : Nat) : tail l k lo hi = true ↔ k < l.length ∧ lo ≤ at' l k ∧ at' l k ≤ hi := by
  simp [tail, and_assoc]

theorem long_fits {l : List UInt8} (h : l ≠ []) : long l ≤ l.length := by
  have hl : 1 ≤ l.length := by cases l; exact absurd rfl h; simp
  unfold long two
  simp only [Bool.and_eq_true, tail_iff]
  repeat' split
  all_goals omega

/-- Is it UTF-8? (fuel: how many bytes) -/
def utfN : Nat → List UInt8 → Bool
  | _, [] => true
  | 0, _ => true
  | n + 1, l => if long l = 0 then false else utfN n (l.drop (long l))
def utf (l : List UInt8) : Bool := utfN l.length l

theorem utfN_fuel : ∀ (n m : Nat) (l : List UInt8), l.length ≤ n → l.length ≤ m → utfN n l = utfN m l
  | 0, m, l, h, _ => by
    obtain rfl : l = [] := List.eq_nil_of_length_eq_zero (by omega)
    cases m <;> rfl
  | n + 1, 0, l, _, h => by
    obtain rfl : l = [] := List.eq_nil_of_length_eq_zero (by omega)
    rfl
  | n + 1, m + 1, [], _, _ => rfl
  | n + 1, m + 1, c :: l, h1, h2 => by
    simp only [utfN]
    split
    · rfl
    · simp at h1 h2
      exact utfN_fuel n m _ (by simp; omega) (by simp; omega)

theorem utf_nil : utf [] = true := rfl
theorem utf_step {l : List UInt8} (h : l ≠ []) : utf l = if long l = 0 then false else utf (l.drop (long l)) := by
  cases l with
  | nil => exact absurd rfl h
  | cons c l =>
    unfold utf
    simp only [List.length_cons, utfN]
    split
    · rfl
    · exact utfN_fuel _ _ _ (by simp; omega) (by simp)

/-- The language's decoder at the begin of a list. -/
def dec (l : List UInt8) : Nat × Nat :=
  let cont (k : Nat) : Bool := decide (k < l.length) && at' l k / 64 == 2
  let b0 := at' l 0
  if b0 < 128 then (b0, 1)
  else if b0 / 32 == 6 && cont 1 then
    let c := (b0 % 32) * 64 + at' l 1 % 64
    if c ≥ 128 then (c, 2) else (65533, 1)
  else if b0 / 16 == 14 && cont 1 && cont 2 then
    let c := (b0 % 16) * 4096 + (at' l 1 % 64) * 64 + at' l 2 % 64
    if c ≥ 2048 && Utf8.valid c then (c, 3) else (65533, 1)
  else if b0 / 8 == 30 && cont 1 && cont 2 && cont 3 then
    let c := (b0 % 8) * 262144 + (at' l 1 % 64) * 4096 + (at' l 2 % 64) * 64 + at' l 3 % 64
    if c ≥ 65536 && Utf8.valid c then (c, 4) else (65533, 1)
  else (65533, 1)

theorem get_drop (s : ByteArray) (i k : Nat) : (s.get! (i + k)).toNat = at' (s.data.toList.drop i) k := by
  unfold at' ByteArray.get!
  rw [List.getD_eq_getElem?_getD, List.getElem?_drop]
  show (s.data[i + k]!).toNat = _
  rw [Array.getElem!_eq_getD, Array.getD_eq_getD_getElem?]
  simp
  rfl

theorem decode_dec (s : ByteArray) (i : Nat) : Utf8.decode s i = dec (s.data.toList.drop i) := by
  have hl : ∀ k, decide (i + k < s.size) = decide (k < (s.data.toList.drop i).length) := by
    intro k; rw [decide_eq_decide, List.length_drop, Array.length_toList]; show _ ↔ k < s.data.size - i; have : s.size = s.data.size := rfl; omega
  unfold Utf8.decode dec
  simp only [get_drop, hl, Utf8.runeError]

/-- The mark of what is broken. -/
def markB : List UInt8 := [239, 191, 189]
theorem mark_at (l : List UInt8) : markB.isPrefixOf l = (decide (3 ≤ l.length) && decide (at' l 0 = 239) && decide (at' l 1 = 191) && decide (at' l 2 = 189)) := by
  unfold markB at'
  match l with
  | [] => rfl
  | [a] => simp [List.isPrefixOf]
  | [a, b] => simp [List.isPrefixOf]
  | a :: b :: c :: t =>
    simp only [List.isPrefixOf, List.length_cons, List.getD_cons_zero, List.getD_cons_succ]
    have h : ∀ (x y : UInt8), (x == y) = decide (y.toNat = x.toNat) := fun x y => by
      rw [Bool.eq_iff_iff]; simp [← UInt8.toNat_inj]; exact ⟨Eq.symm, Eq.symm⟩
    simp [h, Bool.and_assoc]

theorem at_lt (l : List UInt8) (k : Nat) : at' l k < 256 := UInt8.toNat_lt _

/-- The decoder's word, tests as propositions. -/
theorem dec_prop (l : List UInt8) : dec l =
    if at' l 0 < 128 then (at' l 0, 1)
    else if at' l 0 / 32 = 6 ∧ 1 < l.length ∧ at' l 1 / 64 = 2 then
      (if at' l 0 % 32 * 64 + at' l 1 % 64 ≥ 128 then (at' l 0 % 32 * 64 + at' l 1 % 64, 2) else (65533, 1))
    else if at' l 0 / 16 = 14 ∧ (1 < l.length ∧ at' l 1 / 64 = 2) ∧ 2 < l.length ∧ at' l 2 / 64 = 2 then
      (if at' l 0 % 16 * 4096 + at' l 1 % 64 * 64 + at' l 2 % 64 ≥ 2048 ∧ (at' l 0 % 16 * 4096 + at' l 1 % 64 * 64 + at' l 2 % 64 < 55296 ∨ 57344 ≤ at' l 0 % 16 * 4096 + at' l 1 % 64 * 64 + at' l 2 % 64) then
        (at' l 0 % 16 * 4096 + at' l 1 % 64 * 64 + at' l 2 % 64, 3) else (65533, 1))
    else if at' l 0 / 8 = 30 ∧ (1 < l.length ∧ at' l 1 / 64 = 2) ∧ (2 < l.length ∧ at' l 2 / 64 = 2) ∧ 3 < l.length ∧ at' l 3 / 64 = 2 then
      (if at' l 0 % 8 * 262144 + at' l 1 % 64 * 4096 + at' l 2 % 64 * 64 + at' l 3 % 64 ≥ 65536 ∧ at' l 0 % 8 * 262144 + at' l 1 % 64 * 4096 + at' l 2 % 64 * 64 + at' l 3 % 64 ≤ 1114111 then
        (at' l 0 % 8 * 262144 + at' l 1 % 64 * 4096 + at' l 2 % 64 * 64 + at' l 3 % 64, 4) else (65533, 1))
    else (65533, 1) := by
  have hv3 : ∀ c : Nat, c ≥ 2048 → c < 65536 → (Utf8.valid (c : Int) = true ↔ c < 55296 ∨ 57344 ≤ c) := by
    intro c h1 h2; unfold Utf8.valid; simp; omega
  have hv4 : ∀ c : Nat, c ≥ 65536 → (Utf8.valid (c : Int) = true ↔ c ≤ 1114111) := by
    intro c h1; unfold Utf8.valid; simp; omega
  have h0 := at_lt l 0
  unfold dec
  dsimp only
  refine ite_congr rfl (fun _ => rfl) (fun _ => ?_)
  refine ite_congr (by simp) (fun _ => rfl) (fun _ => ?_)
  refine ite_congr (by simp [and_assoc]) (fun _ => ?_) (fun _ => ?_)
  · refine ite_congr (propext ?_) (fun _ => rfl) (fun _ => rfl)
    by_cases hc : at' l 0 % 16 * 4096 + at' l 1 % 64 * 64 + at' l 2 % 64 ≥ 2048
    · have := hv3 _ hc (by omega)
      simp only [Bool.and_eq_true, decide_eq_true_eq]
      exact and_congr Iff.rfl this
    · simp [hc]
  · refine ite_congr (by simp [and_assoc]) (fun _ => ?_) (fun _ => rfl)
    refine ite_congr (propext ?_) (fun _ => rfl) (fun _ => rfl)
    by_cases hc : at' l 0 % 8 * 262144 + at' l 1 % 64 * 4096 + at' l 2 % 64 * 64 + at' l 3 % 64 ≥ 65536
    · have := hv4 _ hc
      simp only [Bool.and_eq_true, decide_eq_true_eq]
      exact and_congr Iff.rfl this
    · simp [hc]

theorem long_prop (l : List UInt8) : long l =
    if at' l 0 < 128 then 1
    else if at' l 0 ≥ 194 ∧ at' l 0 ≤ 223 ∧ 1 < l.length ∧ 128 ≤ at' l 1 ∧ at' l 1 ≤ 191 then 2
    else if at' l 0 ≥ 224 ∧ at' l 0 ≤ 239 ∧ (1 < l.length ∧ lo (at' l 0) ≤ at' l 1 ∧ at' l 1 ≤ hi (at' l 0)) ∧ 2 < l.length ∧ 128 ≤ at' l 2 ∧ at' l 2 ≤ 191 then 3
    else if at' l 0 ≥ 240 ∧ at' l 0 ≤ 244 ∧ ((1 < l.length ∧ lo (at' l 0) ≤ at' l 1 ∧ at' l 1 ≤ hi (at' l 0)) ∧ 2 < l.length ∧ 128 ≤ at' l 2 ∧ at' l 2 ≤ 191) ∧ 3 < l.length ∧ 128 ≤ at' l 3 ∧ at' l 3 ≤ 191 then 4
    else 0 := by
  unfold long two
  simp only [Bool.and_eq_true, tail_iff]

theorem lo_hi (c : Nat) : (c = 224 ∧ lo c = 160 ∧ hi c = 191) ∨ (c = 240 ∧ lo c = 144 ∧ hi c = 191) ∨ (c = 237 ∧ lo c = 128 ∧ hi c = 159) ∨ (c = 244 ∧ lo c = 128 ∧ hi c = 143) ∨
    (c ≠ 224 ∧ c ≠ 240 ∧ c ≠ 237 ∧ c ≠ 244 ∧ lo c = 128 ∧ hi c = 191) := by
  unfold lo hi
  by_cases h1 : c = 224
  · subst h1; simp
  by_cases h2 : c = 240
  · subst h2; simp
  by_cases h3 : c = 237
  · subst h3; simp
  by_cases h4 : c = 244
  · subst h4; simp
  simp [h1, h2, h3, h4]

set_option maxHeartbeats 4000000 in
/-- What the decoder says of a character: its bytes are as many; and what it says where there is none. -/
theorem dec_long {l : List UInt8} (h : l ≠ []) :
    (long l = 0 ∧ dec l = (65533, 1) ∧ 128 ≤ at' l 0 ∧ markB.isPrefixOf l = false) ∨
    (long l ≠ 0 ∧ (dec l).2 = long l ∧ ((dec l).1 = 65533 → markB.isPrefixOf l = true) ∧ ((at' l 0 < 128 ∧ (dec l).1 = at' l 0 ∧ long l = 1) ∨ (128 ≤ at' l 0 ∧ 128 ≤ (dec l).1)) ∧ (dec l).1 ≤ 1114111) := by
  have hl : 1 ≤ l.length := by cases l; exact absurd rfl h; simp
  have h0 := at_lt l 0
  have h1 := at_lt l 1
  have h2 := at_lt l 2
  have h3 := at_lt l 3
  have hk := lo_hi (at' l 0)
  have hm : markB.isPrefixOf l = true ↔ (3 ≤ l.length ∧ at' l 0 = 239 ∧ at' l 1 = 191 ∧ at' l 2 = 189) := by rw [mark_at]; simp [and_assoc]
  have hm' : markB.isPrefixOf l = false ↔ ¬ (3 ≤ l.length ∧ at' l 0 = 239 ∧ at' l 1 = 191 ∧ at' l 2 = 189) := by rw [← hm]; cases markB.isPrefixOf l <;> decide
  rw [hm, hm', long_prop, dec_prop]
  clear hm hm' h
  generalize at' l 0 = a at *
  generalize at' l 1 = b at *
  generalize at' l 2 = c at *
  generalize at' l 3 = d at *
  generalize l.length = n at *
  generalize lo a = x at *
  generalize hi a = y at *
  by_cases ha : a < 128
  · rw [if_pos ha, if_pos ha]
    exact .inr ⟨by omega, rfl, fun e => by omega, .inl ⟨ha, rfl, rfl⟩, by omega⟩
  · simp only [ha, if_false]
    rcases hk with ⟨hk, rfl, rfl⟩ | ⟨hk, rfl, rfl⟩ | ⟨hk, rfl, rfl⟩ | ⟨hk, rfl, rfl⟩ | ⟨hk, hk2, hk3, hk4, rfl, rfl⟩
    all_goals
      split <;> rename_i e1
      · rw [if_pos (by omega), if_pos (by omega)]
        exact .inr ⟨by omega, rfl, fun e => by dsimp only at e; omega, .inr ⟨by omega, by dsimp only; omega⟩, by dsimp only; omega⟩
      · split <;> rename_i e2
        · rw [if_neg (by omega), if_pos (by omega), if_pos (by omega)]
          exact .inr ⟨by omega, rfl, fun e => by dsimp only at e; omega, .inr ⟨by omega, by dsimp only; omega⟩, by dsimp only; omega⟩
        · split <;> rename_i e3
          · rw [if_neg (by omega), if_neg (by omega), if_pos (by omega), if_pos (by omega)]
            exact .inr ⟨by omega, rfl, fun e => by dsimp only at e; omega, .inr ⟨by omega, by dsimp only; omega⟩, by dsimp only; omega⟩
          · left
            refine ⟨rfl, ?_, by omega, by omega⟩
            repeat' split
            all_goals (first | rfl | (exfalso; omega))

/-- Has no control: none below 20, no 7f. -/
def noCtl (l : List UInt8) : Bool := l.all fun c => !(c < 32) && !(c == 127)
/-- Is it UTF-8 without a control? -/
def plain (l : List UInt8) : Bool := noCtl l && utf l

/-- Characters one by one: none is a control (fuel: how many bytes). -/
def runesN : Nat → List UInt8 → Bool
  | _, [] => true
  | 0, _ => true
  | n + 1, l => if (dec l).1 < 32 ∨ (dec l).1 = 127 then false else runesN n (l.drop (dec l).2)
def runes (l : List UInt8) : Bool := runesN l.length l

theorem dec_width {l : List UInt8} (h : l ≠ []) : 1 ≤ (dec l).2 ∧ (dec l).2 ≤ l.length := by
  have hf := long_fits h
  have hl : 1 ≤ l.length := by cases l; exact absurd rfl h; simp
  rcases dec_long h with ⟨_, h2, _⟩ | ⟨h1, h2, _⟩
  · rw [h2]; exact ⟨Nat.le_refl _, hl⟩
  · omega

theorem runesN_fuel : ∀ (n m : Nat) (l : List UInt8), l.length ≤ n → l.length ≤ m → runesN n l = runesN m l
  | 0, m, l, h, _ => by
    obtain rfl : l = [] := List.eq_nil_of_length_eq_zero (by omega)
    cases m <;> rfl
  | n + 1, 0, l, _, h => by
    obtain rfl : l = [] := List.eq_nil_of_length_eq_zero (by omega)
    rfl
  | n + 1, m + 1, [], _, _ => rfl
  | n + 1, m + 1, c :: l, h1, h2 => by
    simp only [runesN]
    split
    · rfl
    · have hw := dec_width (l := c :: l) (by simp)
      simp at h1 h2
      exact runesN_fuel n m _ (by simp; omega) (by simp; omega)

theorem runes_step {l : List UInt8} (h : l ≠ []) : runes l = if (dec l).1 < 32 ∨ (dec l).1 = 127 then false else runes (l.drop (dec l).2) := by
  cases l with
  | nil => exact absurd rfl h
  | cons c l =>
    have hw := dec_width (l := c :: l) (by simp)
    unfold runes
    simp only [List.length_cons, runesN]
    split
    · rfl
    · exact runesN_fuel _ _ _ (by simp; omega) (by simp)

/-- A character of more than one byte has no byte below 80. -/
theorem long_high {l : List UInt8} (h0 : 128 ≤ at' l 0) : ∀ k, k < long l → 128 ≤ at' l k := by
  have hk := lo_hi (at' l 0)
  rw [long_prop]
  intro k
  repeat' split
  all_goals intro hlt
  all_goals (first | omega | skip)
  all_goals
    have : k = 0 ∨ k = 1 ∨ k = 2 ∨ k = 3 := by omega
    rcases this with rfl | rfl | rfl | rfl <;> omega

theorem noCtl_app (a b : List UInt8) : noCtl (a ++ b) = (noCtl a && noCtl b) := by simp [noCtl]
theorem noCtl_high {l : List UInt8} (h : ∀ c ∈ l, 128 ≤ c.toNat) : noCtl l = true := by
  unfold noCtl
  rw [List.all_eq_true]
  intro c hc
  have := h c hc
  have h1 : ¬ c < 32 := by rw [UInt8.lt_iff_toNat_lt]; simp; omega
  have h2 : c ≠ 127 := by rintro rfl; simp at this
  simp [h1, h2]

theorem take_high {l : List UInt8} {n : Nat} (hn : n ≤ l.length) (h : ∀ k, k < n → 128 ≤ at' l k) : ∀ c ∈ l.take n, 128 ≤ c.toNat := by
  intro c hc
  obtain ⟨k, hk, rfl⟩ := List.getElem_of_mem hc
  rw [List.length_take] at hk
  have := h k (by omega)
  rw [List.getElem_take]
  unfold at' at this
  rwa [List.getD_eq_getElem?_getD, List.getElem?_eq_getElem (by omega)] at this

/-- What the program asks is what the document asks. -/
theorem runes_utf : ∀ (n : Nat) (l : List UInt8), l.length ≤ n → (runes l && utf l) = plain l
  | _, [], _ => rfl
  | 0, _ :: _, h => by simp at h
  | n + 1, c :: l, h => by
    have hne : c :: l ≠ [] := by simp
    have hf := long_fits hne
    have hc0 : at' (c :: l) 0 = c.toNat := rfl
    unfold plain
    rw [runes_step hne, utf_step hne]
    rcases dec_long hne with ⟨h1, _⟩ | ⟨h1, h2, _, h3, _⟩
    · simp [h1]
    · have ih := runes_utf n ((c :: l).drop (long (c :: l))) (by rw [List.length_drop]; simp at h ⊢; omega)
      unfold plain at ih
      rw [if_neg h1]
      have hsplit : noCtl (c :: l) = (noCtl ((c :: l).take (long (c :: l))) && noCtl ((c :: l).drop (long (c :: l)))) := by
        rw [← noCtl_app, List.take_append_drop]
      rcases h3 with ⟨ha, hb, hc⟩ | ⟨ha, hb⟩
      · rw [hsplit, hb, h2, hc0, Bool.and_assoc, ← ih, hc]
        have ht : noCtl ((c :: l).take 1) = (!decide (c.toNat < 32) && !decide (c.toNat = 127)) := by
          have e1 : decide (c < 32) = decide (c.toNat < 32) := by rw [decide_eq_decide, UInt8.lt_iff_toNat_lt]; rfl
          have e2 : (c == 127) = decide (c.toNat = 127) := by rw [Bool.eq_iff_iff]; simp [← UInt8.toNat_inj]
          simp [noCtl, e1, e2]
        rw [ht]
        by_cases h5 : c.toNat < 32 ∨ c.toNat = 127
        · rw [if_pos h5]
          rcases h5 with h5 | h5 <;> simp [h5]
        · rw [if_neg h5]
          have h6 : ¬ c.toNat < 32 := fun e => h5 (.inl e)
          have h7 : ¬ c.toNat = 127 := fun e => h5 (.inr e)
          simp [h6, h7]
      · rw [hsplit, if_neg (by omega), h2, ih, noCtl_high (take_high hf (long_high ha))]
        rfl

theorem runes_plain (l : List UInt8) : (runes l && utf l) = plain l := runes_utf l.length l (Nat.le_refl _)

/-- Two texts together. -/
theorem long_app {l t : List UInt8} (hl : l ≠ []) (h : long l ≠ 0) : long (l ++ t) = long l := by
  have hf := long_fits hl
  have hk := lo_hi (at' l 0)
  have ha : ∀ k, k < l.length → at' (l ++ t) k = at' l k := fun k hk => by
    unfold at'; rw [List.getD_eq_getElem?_getD, List.getD_eq_getElem?_getD, List.getElem?_append_left hk]
  have hn : (l ++ t).length = l.length + t.length := List.length_append
  have h0 := ha 0 (by cases l; exact absurd rfl hl; simp)
  have h1 := ha 1
  have h2 := ha 2
  have h3 := ha 3
  clear ha
  rw [long_prop] at h hf ⊢
  rw [long_prop]
  rw [h0, hn]
  generalize at' (l ++ t) 1 = b' at *
  generalize at' (l ++ t) 2 = c' at *
  generalize at' (l ++ t) 3 = d' at *
  generalize at' l 0 = a at *
  generalize at' l 1 = b at *
  generalize at' l 2 = c at *
  generalize at' l 3 = d at *
  generalize l.length = n at *
  generalize t.length = m at *
  generalize lo a = x at *
  generalize hi a = y at *
  clear hn h0 hl
  by_cases e0 : a < 128
  · rw [if_pos e0, if_pos e0]
  rw [if_neg e0] at h hf ⊢
  rw [if_neg e0]
  by_cases e1 : a ≥ 194 ∧ a ≤ 223 ∧ 1 < n ∧ 128 ≤ b ∧ b ≤ 191
  · have := h1 (by omega)
    rw [if_pos e1, if_pos (by omega)]
  rw [if_neg e1] at h hf ⊢
  by_cases e2 : a ≥ 224 ∧ a ≤ 239 ∧ (1 < n ∧ x ≤ b ∧ b ≤ y) ∧ 2 < n ∧ 128 ≤ c ∧ c ≤ 191
  · have := h1 (by omega)
    have := h2 (by omega)
    rw [if_pos e2, if_neg (by omega), if_pos (by omega)]
  rw [if_neg e2] at h hf ⊢
  by_cases e3 : a ≥ 240 ∧ a ≤ 244 ∧ ((1 < n ∧ x ≤ b ∧ b ≤ y) ∧ 2 < n ∧ 128 ≤ c ∧ c ≤ 191) ∧ 3 < n ∧ 128 ≤ d ∧ d ≤ 191
  · have := h1 (by omega)
    have := h2 (by omega)
    have := h3 (by omega)
    rw [if_pos e3, if_neg (by omega), if_neg (by omega), if_pos (by omega)]
  · rw [if_neg e3] at h
    exact absurd rfl h

theorem utf_app : ∀ (n : Nat) (l t : List UInt8), l.length ≤ n → utf l = true → utf (l ++ t) = utf t
  | _, [], _, _, _ => rfl
  | 0, _ :: _, _, h, _ => by simp at h
  | n + 1, c :: l, t, h, hu => by
    have hne : c :: l ≠ [] := by simp
    rw [utf_step hne] at hu
    split at hu
    · cases hu
    · rename_i h1
      have hf := long_fits hne
      rw [utf_step (by simp), long_app hne h1, if_neg h1, List.drop_append_of_le_length hf]
      exact utf_app n _ t (by rw [List.length_drop]; simp at h ⊢; omega) hu

theorem utf_both {l t : List UInt8} (h1 : utf l = true) (h2 : utf t = true) : utf (l ++ t) = true := by rw [utf_app l.length l t (Nat.le_refl _) h1, h2]

/-- A character has no byte ff. -/
theorem long_no_ff (l : List UInt8) : ∀ k, k < long l → at' l k ≠ 255 := by
  have hk := lo_hi (at' l 0)
  rw [long_prop]
  intro k
  repeat' split
  all_goals intro hlt
  all_goals
    have : k = 0 ∨ k = 1 ∨ k = 2 ∨ k = 3 := by omega
    rcases this with rfl | rfl | rfl | rfl <;> omega

theorem utf_no_ff : ∀ (n : Nat) (l : List UInt8), l.length ≤ n → utf l = true → ∀ c ∈ l, c.toNat ≠ 255
  | _, [], _, _, c, hc => by cases hc
  | 0, _ :: _, h, _, _, _ => by simp at h
  | n + 1, a :: l, h, hu, c, hc => by
    have hne : a :: l ≠ [] := by simp
    rw [utf_step hne] at hu
    split at hu
    · cases hu
    · rename_i h1
      have hf := long_fits hne
      rw [← List.take_append_drop (long (a :: l)) (a :: l), List.mem_append] at hc
      rcases hc with hc | hc
      · obtain ⟨k, hk, rfl⟩ := List.getElem_of_mem hc
        rw [List.length_take] at hk
        have := long_no_ff (a :: l) k (by omega)
        rw [List.getElem_take]
        unfold at' at this
        rwa [List.getD_eq_getElem?_getD, List.getElem?_eq_getElem (by omega)] at this
      · exact utf_no_ff n _ (by rw [List.length_drop]; simp at h ⊢; omega) hu c hc

theorem utf_ff {l : List UInt8} (h : (255 : UInt8) ∈ l) : utf l = false := by
  cases hu : utf l with
  | false => rfl
  | true => exact absurd rfl (utf_no_ff l.length l (Nat.le_refl _) hu _ h)

theorem plain_utf {l : List UInt8} (h : plain l = true) : utf l = true := by
  unfold plain at h; simp at h; exact h.2
theorem plain_feed (l : List UInt8) : plain (l ++ [10]) = false := by
  unfold plain; rw [noCtl_app]; simp [noCtl]

end M
end Go.Proofs.Ytcedcfagfklohaa.Hd.S
