/-
  How long what is told can be. No program.
-/
import Derived.Test.YtbhpedhdhgjkoaaGreatDoorMtBack
set_option linter.unusedVariables false
set_option linter.unusedSimpArgs false
namespace Go.Proofs.YtbhpedhdhgjkoaaGreatDoor
namespace M
open Px (tl R2 ltB ltB_ord)
open Px.M (Rc find merge)

theorem nDigits_le : ∀ (k n : Nat), n < 10 ^ k → 1 ≤ k → Lib.nDigits n ≤ k := by
  intro k
  induction k with
  | zero => intro n _ h; omega
  | succ k ih =>
    intro n h _
    by_cases h1 : n < 10
    · rw [Lib.nDigits_small h1]; omega
    · rw [Lib.nDigits, dif_neg h1]
      have hk : 1 ≤ k := by
        rcases Nat.eq_zero_or_pos k with h0 | h0
        · subst h0; simp at h; omega
        · exact h0
      have := ih (n / 10) (by rw [Nat.pow_succ] at h; omega) hk
      omega
theorem itoa_len {n : Int} (h0 : 0 ≤ n) (h1 : n ≤ 9223372036854775807) : (Lib.itoa n).length ≤ 19 := by
  obtain ⟨k, rfl⟩ := Int.eq_ofNat_of_zero_le h0
  rw [Lib.itoa_nonneg, Lib.decDigits_length]
  exact nDigits_le 19 k (by omega) (by decide)
theorem trim0_len (l : List UInt8) : (St.M.trim0 l).length ≤ l.length := by
  unfold St.M.trim0
  rw [List.length_reverse]
  have h := (List.dropWhile_sublist (fun c => c == (48 : UInt8)) (l := l.reverse)).length_le
  rw [List.length_reverse] at h
  exact h
theorem pr_len (t : St.M.Tm) : (St.M.pr (St.M.norm t)).length ≤ 100 := by
  have ok := St.M.norm_ok t
  generalize St.M.norm t = u at *
  obtain ⟨p1, p2, p3, p4, _⟩ := St.M.sgn_parts ok
  unfold St.M.pr
  rw [List.length_append, List.length_append, Lib.decDigits_length]
  have h1 : (if St.M.below0 u = true then ([45] : List UInt8) else []).length ≤ 1 := by split <;> simp
  have h2 := nDigits_le 16 (St.M.sgn (St.M.below0 u) u).1.toNat (by omega) (by decide)
  have h3 : (St.M.fracText (St.M.sgn (St.M.below0 u) u).2.toNat).length ≤ 20 := by
    unfold St.M.fracText
    split
    · simp
    · rw [List.length_cons]
      have h4 := trim0_len (St.M.pad9 (St.M.sgn (St.M.below0 u) u).2.toNat)
      have h5 : (St.M.pad9 (St.M.sgn (St.M.below0 u) u).2.toNat).length ≤ 18 := by
        unfold St.M.pad9
        rw [List.length_append, List.length_replicate, Lib.decDigits_length]
        have := nDigits_le 9 (St.M.sgn (St.M.below0 u) u).2.toNat (by omega) (by decide)
        omega
      omega
  omega
theorem layout_len {l : List (Int × Int)} (h : l.length ≤ 1000) : (layout l).length ≤ 30000 := by
  unfold layout
  split
  · simp
  · have := Sp.M.print_len l
    omega
/-- What is told of a member that may be is short. -/
def shortR (r : Rc) : Prop := r.1.length ≤ 100 ∧ r.2.length ≤ 1000000
theorem short_if {c : Prop} [Decidable c] {k v : List UInt8} (hk : k.length ≤ 100) (hv : v.length ≤ 1000000) : ∀ r ∈ (if c then [] else [(k, v)] : List Rc), shortR r := by
  intro r hr
  split at hr
  · simp at hr
  · rw [List.mem_singleton] at hr
    subst hr
    exact ⟨hk, hv⟩
theorem gives_short {m : Met} (R : Right m) : ∀ r ∈ gives m, shortR r := by
  have hl : m.link.size ≤ 4096 := by
    have := R.link
    split at this <;> omega
  have hsz : m.size ≤ 1099511627776 := by
    have := R.size.2
    split at this <;> omega
  intro r hr
  unfold gives at hr
  simp only [List.mem_append] at hr
  rcases hr with h | h | h | h | h | h | h | h | h
  · unfold gName at h; exact short_if (by decide) (by have := R.name.2; show m.name.size ≤ _; omega) r h
  · unfold gText at h; exact short_if (by decide) (show m.link.size ≤ _ by omega) r h
  · unfold gText at h; exact short_if (by decide) (by have := R.user; show m.user.size ≤ _; omega) r h
  · unfold gText at h; exact short_if (by decide) (by have := R.group; show m.group.size ≤ _; omega) r h
  · unfold gNum at h; exact short_if (by decide) (Nat.le_trans (itoa_len R.uid.1 (by have := R.uid.2; omega)) (by decide)) r h
  · unfold gNum at h; exact short_if (by decide) (Nat.le_trans (itoa_len R.gid.1 (by have := R.gid.2; omega)) (by decide)) r h
  · unfold gNum at h; exact short_if (by decide) (Nat.le_trans (itoa_len R.size.1 (by omega)) (by decide)) r h
  · unfold gTime at h; exact short_if (by decide) (Nat.le_trans (pr_len _) (by decide)) r h
  · unfold gHoles at h
    split at h
    · rename_i hh
      obtain ⟨_, _, h3⟩ := R.holes hh
      obtain ⟨c1, c2, c3, _⟩ := check_facts h3
      simp only [List.mem_cons, List.not_mem_nil, or_false] at h
      rcases h with rfl | rfl
      · exact ⟨show (tl kMap).length ≤ 100 by decide, Nat.le_trans (layout_len c1) (by decide)⟩
      · exact ⟨show (tl kReal).length ≤ 100 by decide, Nat.le_trans (itoa_len c2 (by omega)) (by decide)⟩
    · simp at h
theorem gives_len (m : Met) : (gives m).length ≤ 10 := by
  unfold gives
  simp only [List.length_append]
  have one : ∀ (c : Prop) [Decidable c] (x : Rc), (if c then [] else [x] : List Rc).length ≤ 1 := by intro c _ x; split <;> simp
  have h1 : (gName m).length ≤ 1 := by unfold gName; exact one _ _
  have h2 : (gText kLink m.link 100).length ≤ 1 := by unfold gText; exact one _ _
  have h3 : (gText kUser m.user 32).length ≤ 1 := by unfold gText; exact one _ _
  have h4 : (gText kGroup m.group 32).length ≤ 1 := by unfold gText; exact one _ _
  have h5 : (gNum kUid m.uid 8).length ≤ 1 := by unfold gNum; exact one _ _
  have h6 : (gNum kGid m.gid 8).length ≤ 1 := by unfold gNum; exact one _ _
  have h7 : (gNum kSize m.size 12).length ≤ 1 := by unfold gNum; exact one _ _
  have h8 : (gTime m).length ≤ 1 := by unfold gTime; exact one _ _
  have h9 : (gHoles m).length ≤ 2 := by unfold gHoles; split <;> simp
  omega
theorem merge_mem {l o : List Rc} {r : Rc} (h : r ∈ merge ltB l o) : r ∈ l ∨ r ∈ o := by
  have h1 := Px.M.find_mem_rising ltB_ord (Px.M.merge_rising ltB_ord l o) h
  rw [Px.M.find_merge ltB_ord] at h1
  cases ho : find o r.1 with
  | some v =>
    rw [ho] at h1
    right
    have : v = r.2 := by
      cases v with
      | nil => cases h1
      | cons c t => exact Option.some.inj h1
    subst this
    exact Px.M.mem_of_find ho
  | none =>
    rw [ho] at h1
    left
    cases hl : find l r.1 with
    | none => rw [hl] at h1; cases h1
    | some v =>
      rw [hl] at h1
      have : v = r.2 := by
        cases v with
        | nil => cases h1
        | cons c t => exact Option.some.inj h1
      subst this
      exact Px.M.mem_of_find hl
end M
end Go.Proofs.YtbhpedhdhgjkoaaGreatDoor
