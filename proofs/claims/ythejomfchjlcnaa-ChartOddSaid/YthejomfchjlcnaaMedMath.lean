/-
  Plain arithmetic of layer 6: blocks of an image, those that cannot be read, what is wiped; pieces and their sizes. No program.
-/
import Derived.Lib.RowBridge
set_option linter.unusedVariables false
set_option linter.unusedSimpArgs false
namespace Go.Proofs.Ythejomfchjlcnaa
namespace M
open Go

def cnt (n : Nat) : Nat := (n + 511) / 512
def there (n : Nat) (i : Int) : Bool := decide (0 ≤ i) && decide (i < (cnt n : Nat))
def badsTo (k : Nat) (bad : List Int) : List Int := ((List.range k).map fun j : Nat => (j : Int)).filter fun i => bad.contains i
/-- The blocks of n bytes that are among bad, rising, each once. -/
def bads (n : Nat) (bad : List Int) : List Int := badsTo (cnt n) bad
/-- Bytes, those of some blocks all noughts. -/
def wipe (l : List Int) (zs : List Int) : List Int := zs.mapIdx fun p z => if l.contains ((p / 512 : Nat) : Int) then 0 else z
/-- The same, and those of block i up to a place. -/
def wipeK (l : List Int) (i k : Nat) (zs : List Int) : List Int := zs.mapIdx fun p z => if l.contains ((p / 512 : Nat) : Int) || (decide (512 * i ≤ p) && decide (p < k)) then 0 else z
def blk (zs : List Int) (i : Nat) : List Int := (zs.drop (512 * i)).take 512

theorem cnt_le (n : Nat) : cnt n ≤ n := by unfold cnt; omega
theorem cnt_hi (n : Nat) : 512 * cnt n < n + 512 := by unfold cnt; omega
theorem cnt_lo (n : Nat) : n ≤ 512 * cnt n := by unfold cnt; omega
theorem lt_cnt {n i : Nat} : i < cnt n ↔ 512 * i < n := by unfold cnt; omega
theorem there_iff {n : Nat} {i : Int} : there n i = true ↔ 0 ≤ i ∧ i < (cnt n : Nat) := by simp [there]
theorem there_nat {n : Nat} {i : Int} (h : there n i = true) : ∃ k : Nat, i = (k : Int) ∧ k < cnt n ∧ 512 * k < n := by
  obtain ⟨h0, h1⟩ := there_iff.1 h
  refine ⟨i.toNat, by omega, by omega, lt_cnt.1 (by omega)⟩

/-! What is wiped. -/
theorem wipe_len (l zs : List Int) : (wipe l zs).length = zs.length := by simp [wipe]
theorem wipe_at (l zs : List Int) (p : Nat) : (wipe l zs)[p]? = zs[p]?.map fun z => if l.contains ((p / 512 : Nat) : Int) then 0 else z := by simp [wipe]
theorem wipe_nil (zs : List Int) : wipe [] zs = zs := by
  apply List.ext_getElem?
  intro p
  rw [wipe_at]
  cases zs[p]? <;> simp
theorem wipe_bd {l zs : List Int} (h : ∀ z ∈ zs, 0 ≤ z ∧ z ≤ 255) : ∀ z ∈ wipe l zs, 0 ≤ z ∧ z ≤ 255 := by
  intro z hz
  obtain ⟨p, hp⟩ := List.mem_iff_getElem?.1 hz
  rw [wipe_at] at hp
  cases hq : zs[p]? with
  | none => rw [hq] at hp; cases hp
  | some y =>
    rw [hq] at hp
    simp only [Option.map_some, Option.some.injEq] at hp
    subst hp
    split
    · omega
    · exact h y (List.mem_of_getElem? hq)
theorem wipe_twice (l zs : List Int) : wipe l (wipe l zs) = wipe l zs := by
  apply List.ext_getElem?
  intro p
  rw [wipe_at, wipe_at]
  cases zs[p]? with
  | none => rfl
  | some z => simp only [Option.map_some]; split <;> simp_all
theorem wipeK_len (l : List Int) (i k : Nat) (zs : List Int) : (wipeK l i k zs).length = zs.length := by simp [wipeK]
theorem wipeK_at (l : List Int) (i k : Nat) (zs : List Int) (p : Nat) :
    (wipeK l i k zs)[p]? = zs[p]?.map fun z => if l.contains ((p / 512 : Nat) : Int) || (decide (512 * i ≤ p) && decide (p < k)) then 0 else z := by simp [wipeK]
theorem wipeK_none (l : List Int) (i : Nat) (zs : List Int) : wipeK l i (512 * i) zs = wipe l zs := by
  apply List.ext_getElem?
  intro p
  rw [wipeK_at, wipe_at]
  have e : (decide (512 * i ≤ p) && decide (p < 512 * i)) = false := by
    rw [Bool.and_eq_false_iff, decide_eq_false_iff_not, decide_eq_false_iff_not]
    omega
  rw [e, Bool.or_false]
theorem wipeK_all (l : List Int) (i k : Nat) (zs : List Int) (h0 : k ≤ 512 * i + 512) (h1 : min (512 * i + 512) zs.length ≤ k) : wipeK l i k zs = wipe (l ++ [(i : Int)]) zs := by
  apply List.ext_getElem?
  intro p
  rw [wipeK_at, wipe_at]
  cases hq : zs[p]? with
  | none => rfl
  | some z =>
    have hp : p < zs.length := (List.getElem?_eq_some_iff.1 hq).1
    simp only [Option.map_some, Option.some.injEq]
    have e : (l ++ [(i : Int)]).contains ((p / 512 : Nat) : Int) = (l.contains ((p / 512 : Nat) : Int) || (decide (512 * i ≤ p) && decide (p < k))) := by
      rw [List.contains_append]
      congr 1
      rw [Bool.eq_iff_iff]
      simp only [List.contains_cons, List.contains_nil, Bool.or_false, beq_iff_eq, Bool.and_eq_true, decide_eq_true_eq]
      omega
    rw [e]
theorem wipeK_step (l : List Int) (i k : Nat) (zs : List Int) (h : 512 * i ≤ k) : wipeK l i (k + 1) zs = (wipeK l i k zs).set k 0 := by
  apply List.ext_getElem?
  intro p
  rw [List.getElem?_set, wipeK_at, wipeK_at, wipeK_len]
  by_cases hp : k = p
  · subst hp
    rw [if_pos rfl]
    by_cases hl : k < zs.length
    · rw [if_pos hl, List.getElem?_eq_getElem hl]
      simp only [Option.map_some]
      rw [if_pos (by simp [h])]
    · rw [if_neg hl, List.getElem?_eq_none (by omega)]
      rfl
  · rw [if_neg hp]
    cases zs[p]? with
    | none => rfl
    | some z =>
      simp only [Option.map_some, Option.some.injEq]
      have e : decide (p < k + 1) = decide (p < k) := by rw [Bool.eq_iff_iff, decide_eq_true_eq, decide_eq_true_eq]; omega
      rw [e]

/-! The blocks that cannot be read. -/
theorem badsTo_zero (bad : List Int) : badsTo 0 bad = [] := rfl
theorem badsTo_succ (k : Nat) (bad : List Int) : badsTo (k + 1) bad = badsTo k bad ++ (if bad.contains (k : Int) then [(k : Int)] else []) := by
  unfold badsTo
  rw [List.range_succ, List.map_append, List.filter_append]
  congr 1
  simp only [List.map_cons, List.map_nil, List.filter_cons, List.filter_nil]
theorem mem_badsTo {k : Nat} {bad : List Int} {i : Int} : i ∈ badsTo k bad ↔ (0 ≤ i ∧ i < (k : Int)) ∧ i ∈ bad := by
  unfold badsTo
  rw [List.mem_filter, List.mem_map]
  simp only [List.mem_range, List.contains_iff_mem]
  constructor
  · rintro ⟨⟨j, hj, rfl⟩, h⟩
    exact ⟨⟨by omega, by omega⟩, h⟩
  · rintro ⟨⟨h0, h1⟩, h⟩
    exact ⟨⟨i.toNat, by omega, by omega⟩, h⟩
theorem mem_bads {n : Nat} {bad : List Int} {i : Int} : i ∈ bads n bad ↔ there n i = true ∧ i ∈ bad := by
  unfold bads
  rw [mem_badsTo, there_iff]
theorem badsTo_len (k : Nat) (bad : List Int) : (badsTo k bad).length ≤ k := by
  unfold badsTo
  exact Nat.le_trans (List.length_filter_le _ _) (by simp)
theorem bads_len (n : Nat) (bad : List Int) : (bads n bad).length ≤ cnt n := badsTo_len _ _
theorem bads_le (n : Nat) (bad : List Int) : (bads n bad).length ≤ n := Nat.le_trans (bads_len n bad) (cnt_le n)
theorem bads_bd {n : Nat} {bad : List Int} (hn : n ≤ 1000000) : ∀ z ∈ bads n bad, -9223372036854775808 ≤ z ∧ z ≤ 9223372036854775807 := by
  intro z hz
  have h := there_iff.1 (mem_bads.1 hz).1
  have := cnt_le n
  omega
theorem badsTo_rise (k : Nat) (bad : List Int) : (badsTo k bad).Pairwise (· < ·) := by
  unfold badsTo
  apply List.Pairwise.filter
  rw [List.pairwise_map]
  exact (List.pairwise_lt_range).imp (fun h => by omega)
theorem bads_rise (n : Nat) (bad : List Int) : (bads n bad).Pairwise (· < ·) := badsTo_rise _ _
/-- Two rising lists of the same numbers are the same. -/
theorem rise_ext : ∀ {a b : List Int}, a.Pairwise (· < ·) → b.Pairwise (· < ·) → (∀ x, x ∈ a ↔ x ∈ b) → a = b
  | [], [], _, _, _ => rfl
  | [], y :: b, _, _, h => absurd ((h y).2 (by simp)) (by simp)
  | x :: a, [], _, _, h => absurd ((h x).1 (by simp)) (by simp)
  | x :: a, y :: b, ha, hb, h => by
    rw [List.pairwise_cons] at ha hb
    have hxy : x = y := by
      have h1 := (h x).1 (by simp)
      have h2 := (h y).2 (by simp)
      rcases List.mem_cons.1 h1 with e | e
      · exact e
      · rcases List.mem_cons.1 h2 with e2 | e2
        · exact e2.symm
        · have := hb.1 x e; have := ha.1 y e2; omega
    subst hxy
    congr 1
    refine rise_ext ha.2 hb.2 (fun z => ?_)
    constructor
    · intro hz
      rcases List.mem_cons.1 ((h z).1 (by simp [hz])) with e | e
      · subst e; exact absurd (ha.1 z hz) (by omega)
      · exact e
    · intro hz
      rcases List.mem_cons.1 ((h z).2 (by simp [hz])) with e | e
      · subst e; exact absurd (hb.1 z hz) (by omega)
      · exact e
theorem bads_twice (n : Nat) (bad : List Int) : bads n (bads n bad) = bads n bad :=
  rise_ext (bads_rise _ _) (bads_rise _ _) (fun x => by rw [mem_bads, mem_bads]; exact ⟨fun h => h.2, fun h => ⟨h.1, h⟩⟩)

/-! Sorted, and each once. -/
theorem compact_mem {zs : List Int} {x : Int} : x ∈ Lib.compact zs ↔ x ∈ zs := by
  unfold Lib.compact
  have key : ∀ m, m ≤ zs.length → (x ∈ Lib.compactUpTo zs.toArray m ↔ x ∈ zs.take m) := by
    intro m
    induction m with
    | zero => intro _; simp [Lib.compactUpTo]
    | succ m ih =>
      intro hm
      have ih := ih (by omega)
      have hg : zs.toArray[m]! = zs[m] := by simp [getElem!_pos, show m < zs.length by omega]
      have ht : zs.take (m + 1) = zs.take m ++ [zs[m]] := by rw [List.take_add_one, List.getElem?_eq_getElem (by omega)]; rfl
      rw [Lib.compactUpTo_succ, ht, List.mem_append, List.mem_append, ih]
      by_cases hk : Lib.keeps zs.toArray m = true
      · rw [if_pos hk, hg]
      · rw [if_neg hk]
        simp only [List.not_mem_nil, or_false, List.mem_singleton]
        constructor
        · exact fun h => .inl h
        · rintro (h | h)
          · exact h
          · have hk' : ¬ (m = 0 ∨ zs.toArray[m]! ≠ zs.toArray[m - 1]!) := by simpa [Lib.keeps] using hk
            have h0 : m ≠ 0 := fun e => hk' (.inl e)
            have he : zs.toArray[m]! = zs.toArray[m - 1]! := by
              by_cases e : zs.toArray[m]! = zs.toArray[m - 1]!
              · exact e
              · exact absurd (.inr e) hk'
            have hg1 : zs.toArray[m - 1]! = zs[m - 1] := by simp [getElem!_pos, show m - 1 < zs.length by omega]
            rw [hg, hg1] at he
            rw [h, he]
            exact List.mem_iff_getElem?.2 ⟨m - 1, by rw [List.getElem?_take, if_pos (by omega), List.getElem?_eq_getElem (by omega)]⟩
  rw [key _ (Nat.le_refl _), List.take_length]
theorem compact_rise {zs : List Int} (h : zs.Pairwise (· ≤ ·)) : (Lib.compact zs).Pairwise (· < ·) := by
  unfold Lib.compact
  have hle : ∀ i j (hi : i < zs.length) (hj : j < zs.length), i ≤ j → zs[i] ≤ zs[j] := by
    intro i j hi hj hij
    rcases Nat.lt_or_ge i j with hl | hg
    · exact (List.pairwise_iff_getElem.1 h) i j hi hj hl
    · obtain rfl : i = j := by omega
      exact Int.le_refl _
  have key : ∀ m, m ≤ zs.length → (Lib.compactUpTo zs.toArray m).Pairwise (· < ·) ∧ ∀ x ∈ Lib.compactUpTo zs.toArray m, ∀ (hm : 0 < m) (hl : m - 1 < zs.length), x ≤ zs[m - 1] := by
    intro m
    induction m with
    | zero => intro _; exact ⟨by simp [Lib.compactUpTo], fun x _ hm => absurd hm (by omega)⟩
    | succ m ih =>
      intro hm
      obtain ⟨ih1, ih2⟩ := ih (by omega)
      have hg : zs.toArray[m]! = zs[m] := by simp [getElem!_pos, show m < zs.length by omega]
      rw [Lib.compactUpTo_succ]
      by_cases hk : Lib.keeps zs.toArray m = true
      · rw [if_pos hk, hg]
        refine ⟨List.pairwise_append.2 ⟨ih1, by simp, fun a ha b hb => ?_⟩, fun x hx _ _ => ?_⟩
        · rw [List.mem_singleton] at hb
          subst hb
          have hk' : m = 0 ∨ zs.toArray[m]! ≠ zs.toArray[m - 1]! := by simpa [Lib.keeps] using hk
          rcases hk' with h0 | hne
          · subst h0; simp [Lib.compactUpTo] at ha
          · rcases Nat.eq_zero_or_pos m with h0 | h0
            · subst h0; simp [Lib.compactUpTo] at ha
            · have hg1 : zs.toArray[m - 1]! = zs[m - 1] := by simp [getElem!_pos, show m - 1 < zs.length by omega]
              rw [hg, hg1] at hne
              have h1 := ih2 a ha h0 (by omega)
              have h2 := hle (m - 1) m (by omega) (by omega) (by omega)
              omega
        · simp only [Nat.add_sub_cancel]
          rcases List.mem_append.1 hx with hx | hx
          · rcases Nat.eq_zero_or_pos m with h0 | h0
            · subst h0; simp [Lib.compactUpTo] at hx
            · have h1 := ih2 x hx h0 (by omega)
              have h2 := hle (m - 1) m (by omega) (by omega) (by omega)
              omega
          · rw [List.mem_singleton] at hx
            rw [hx]
            exact Int.le_refl _
      · rw [if_neg hk, List.append_nil]
        refine ⟨ih1, fun x hx _ _ => ?_⟩
        simp only [Nat.add_sub_cancel]
        rcases Nat.eq_zero_or_pos m with h0 | h0
        · subst h0; simp [Lib.compactUpTo] at hx
        · have h1 := ih2 x hx h0 (by omega)
          have h2 := hle (m - 1) m (by omega) (by omega) (by omega)
          omega
  exact (key _ (Nat.le_refl _)).1
theorem sorted_bads (n : Nat) (bad : List Int) : Lib.compact ((bad.filter (there n)).mergeSort fun x y => decide (x ≤ y)) = bads n bad := by
  refine rise_ext (compact_rise ?_) (bads_rise n bad) (fun x => ?_)
  · have h := List.pairwise_mergeSort (le := fun x y : Int => decide (x ≤ y)) (fun a b c h1 h2 => by simp at *; omega) (fun a b => by simp; omega) (bad.filter (there n))
    exact h.imp (fun h => by simpa using h)
  · rw [compact_mem, List.mem_mergeSort, List.mem_filter, mem_bads, And.comm]

/-! Blocks of bytes. -/
theorem blk_len (zs : List Int) (i : Nat) : (blk zs i).length = min 512 (zs.length - 512 * i) := by simp [blk]
theorem blk_next (zs : List Int) (i : Nat) : zs.take (512 * i) ++ blk zs i = zs.take (512 * (i + 1)) := by
  unfold blk
  rw [Nat.mul_add, Nat.mul_one, List.take_add]
theorem blk_all (zs : List Int) : zs.take (512 * cnt zs.length) = zs := List.take_of_length_le (cnt_lo _)

/-! Pieces. -/
def clip (z : Int) : Nat := (min (max z 1) 4096).toNat
theorem clip_pos (z : Int) : 1 ≤ clip z ∧ clip z ≤ 4096 := by unfold clip; omega
theorem clip_int (z : Int) : min (max z 1) 4096 = (clip z : Int) := by unfold clip; omega
theorem clip_int' (z : Int) : max 1 (min z 4096) = (clip z : Int) := by unfold clip; omega
def szs (ss : List Int) : List Int := if ss = [] then [512] else ss
theorem szs_ne (ss : List Int) : szs ss ≠ [] := by unfold szs; split <;> simp_all
theorem szs_len (ss : List Int) : 0 < (szs ss).length ∧ (szs ss).length ≤ ss.length + 1 := by
  unfold szs; split
  · simp
  · rename_i h; have := List.length_pos_iff.2 h; omega
/-- How many bytes the next piece has. -/
def pc (ss : List Int) (t left : Nat) : Nat := min (clip (ss.getD t 0)) left
theorem pc_le (ss : List Int) (t left : Nat) : pc ss t left ≤ left := by unfold pc; omega
theorem pc_pos (ss : List Int) (t : Nat) {left : Nat} (h : 0 < left) : 0 < pc ss t left := by have := clip_pos (ss.getD t 0); unfold pc; omega
/-- The bytes of the piece from a place on. -/
def pbytes (zs : List Int) (p m : Nat) : List Int := (zs.drop p).take m
end M
end Go.Proofs.Ythejomfchjlcnaa
