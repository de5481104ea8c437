/-
  head.Print: its steps.
-/
import Derived.Test.YtcedcfagfklohaaKhHdPrintP
import Derived.StillTailTactics
set_option linter.unusedVariables false
set_option linter.unusedSimpArgs false
namespace Go.Proofs.Ytcedcfagfklohaa.Hd
open Go.RowKit Go.Lib

theorem splice_bd {zs ys : List Int} {a : Nat} (h : ∀ z ∈ zs, 0 ≤ z ∧ z ≤ 255) (hy : ∀ z ∈ ys, 0 ≤ z ∧ z ≤ 255) : ∀ z ∈ splice zs a ys, 0 ≤ z ∧ z ≤ 255 := by
  intro z hz
  unfold splice at hz
  rcases List.mem_append.1 hz with h1 | h1
  · exact h z (List.mem_of_mem_take h1)
  · rcases List.mem_append.1 h1 with h2 | h2
    · exact hy z h2
    · exact h z (List.mem_of_mem_drop h2)
theorem listOf_bd {g : Nat → Int} {N : Nat} (hg : ∀ j, 0 ≤ g j ∧ g j ≤ 255) : ∀ z ∈ M.listOf g N, 0 ≤ z ∧ z ≤ 255 := by
  intro z hz
  unfold M.listOf at hz
  obtain ⟨j, _, rfl⟩ := List.mem_map.1 hz
  exact hg j
theorem putR_bd (x m : Int) : ∀ z ∈ M.putR x m, 0 ≤ z ∧ z ≤ 255 := by
  unfold M.putR M.binR
  split
  · exact listOf_bd (M.octG_bd _ _)
  · split
    · exact listOf_bd (M.binG_bd _ _)
    · intro z hz; cases hz
theorem magic_bd (k : Nat) : ∀ z ∈ M.magic k, 0 ≤ z ∧ z ≤ 255 := by
  match k with
  | 0 => decide
  | 1 => decide
  | k + 2 => show ∀ z ∈ [117, 115, 116, 97, 114, 32, 32, 0], (0 : Int) ≤ z ∧ z ≤ 255; decide
theorem set_bd {zs : List Int} {i : Nat} {x : Int} (h : ∀ z ∈ zs, 0 ≤ z ∧ z ≤ 255) (hx : 0 ≤ x ∧ x ≤ 255) : ∀ z ∈ zs.set i x, 0 ≤ z ∧ z ≤ 255 := by
  intro z hz
  rcases List.mem_or_eq_of_mem_set hz with h1 | h1
  · exact h z h1
  · rw [h1]; exact hx
theorem pputs_bd : ∀ (l : List (Int × Int)) (zs : List Int) (i : Nat) (ys : List Int), (∀ z ∈ zs, 0 ≤ z ∧ z ≤ 255) → M.pputs zs i l = some ys → ∀ z ∈ ys, 0 ≤ z ∧ z ≤ 255
  | [], zs, i, ys, h, e => by
    rw [M.pputs] at e
    injection e with e
    subst e; exact h
  | p :: l, zs, i, ys, h, e => by
    rw [M.pputs] at e
    split at e
    · cases e
    · split at e
      · split at e
        · exact pputs_bd l _ _ ys (splice_bd (splice_bd h (putR_bd _ _)) (putR_bd _ _)) e
        · cases e
      · cases e
theorem putP_bd {l : List (Int × Int)} {zs ys : List Int} (h : ∀ z ∈ zs, 0 ≤ z ∧ z ≤ 255) (e : M.putP zs l = some ys) : ∀ z ∈ ys, 0 ≤ z ∧ z ≤ 255 := by
  unfold M.putP at e
  split at e
  · exact pputs_bd l zs 0 ys h e
  · cases e
theorem splice_len {zs ys : List Int} {a n : Nat} (h : zs.length = 512) (hy : ys.length = n) (ha : a + n ≤ 512) : (splice zs a ys).length = 512 := by
  rw [length_splice _ _ _ (by omega), h]
namespace M
/-- What is asked of the texts, one by one. -/
def bareAt (h : Hdr) : Nat → Bool
  | 2 => (h.way != 0) || blank h.user
  | 3 => (h.way != 0) || blank h.group
  | 4 => (h.way == 1) || blank h.pre
  | _ => true
theorem bare_all {h : Hdr} (hj : ∀ j, j < 5 → bareAt h j = true) : bare h = true := by
  have h2 := hj 2 (by decide)
  have h3 := hj 3 (by decide)
  have h4 := hj 4 (by decide)
  unfold bare
  change ((h.way != 0) || blank h.user) = true at h2
  change ((h.way != 0) || blank h.group) = true at h3
  change ((h.way == 1) || blank h.pre) = true at h4
  rw [h2, h3, h4]
  rfl
theorem bare_not {h : Hdr} {j : Nat} (hj : bareAt h j = false) : bare h = false := by
  unfold bare
  match j with
  | 0 => cases hj
  | 1 => cases hj
  | 2 =>
    change ((h.way != 0) || blank h.user) = false at hj
    rw [hj]; rfl
  | 3 =>
    change ((h.way != 0) || blank h.group) = false at hj
    rw [hj]; simp
  | 4 =>
    change ((h.way == 1) || blank h.pre) = false at hj
    rw [hj]; simp
  | j + 5 => cases hj
theorem bare_more {h : Hdr} {k : Nat} (hj : ∀ j, j < k → bareAt h j = true) (hk : bareAt h k = true) : ∀ j, j < k + 1 → bareAt h j = true := by
  intro j h1
  rcases Nat.lt_or_ge j k with h2 | h2
  · exact hj j h2
  · have : j = k := by omega
    subst this; exact hk
theorem known_bd {k : Int} (h : known k = true) : 0 ≤ k ∧ k ≤ 255 := by
  unfold known at h
  simp at h
  omega
end M
end Go.Proofs.Ytcedcfagfklohaa.Hd
