/-
  What is told of a member: which records there are, and when. No program.
-/
import Derived.Test.YtgfihdfncddpaaaGreatDoorMtBack
set_option linter.unusedVariables false
set_option linter.unusedSimpArgs false
namespace Go.Proofs.YtgfihdfncddpaaaGreatDoor
namespace M
open Px (tl R2 ltB ltB_ord)
open Px.M (Rc find merge Rising)

/-! What is extra. -/
/-! A file of a name alone. -/
/-- The two pieces of a name have room. -/
theorem split_room (s : ByteArray) : (split s).1.size ≤ 155 ∧ (split s).2.1.size ≤ 100 := by
  unfold split
  by_cases hs : s.size ≤ 100
  · rw [if_pos hs]
    exact ⟨by show (0 : Nat) ≤ 155; omega, hs⟩
  · rw [if_neg hs]
    cases hc : cutPlace (tl s) with
    | none =>
      refine ⟨by show (0 : Nat) ≤ 155; omega, ?_⟩
      show (s.extract 0 100).size ≤ 100
      rw [ByteArray.size_extract]; omega
    | some i =>
      have hi := cutPlace_some hc
      unfold cutsAt at hi
      simp only [Bool.and_eq_true, decide_eq_true_eq, beq_iff_eq] at hi
      obtain ⟨⟨⟨⟨h1, h2⟩, h3⟩, h4⟩, h5⟩ := hi
      rw [Px.tl_len] at h5
      refine ⟨?_, ?_⟩
      · show (s.extract 0 i).size ≤ 155
        rw [ByteArray.size_extract]; omega
      · show (s.extract (i + 1) s.size).size ≤ 100
        rw [ByteArray.size_extract]; omega
end M
end Go.Proofs.YtgfihdfncddpaaaGreatDoor
