/-
  The document's Less.
-/
import Derived.Test.YtahhgphlfodonaaDoorStpLess
namespace Go.Proofs.YtahhgphlfodonaaDoor
open Go.RowKit

set_option maxRecDepth 100000 in
set_option maxHeartbeats 4000000 in
theorem refLess_any (S n T m : Int) (w : World) : Calls Tryd.prog 19 #[.agg #[.int .i64 S, .int .i64 n], .agg #[.int .i64 T, .int .i64 m]] w fun e w' => e = .returned (.bool (lessB (S, n) (T, m))) ∧ Below w.heap.size w w' := by
  have C1 := fun W => refNorm_to S n W
  have C2 := fun W => refNorm_to T m W
  unfold lessB
  generalize M.norm (S, n) = x at *
  generalize M.norm (T, m) = y at *
  obtain ⟨p1, p2⟩ := x
  obtain ⟨q1, q2⟩ := y
  have H1 := Lib.hid C1
  have H2 := Lib.hid C2
  clear C1 C2
  have hbel : ∀ o1 o2 o3 o4 o5 o6, Below w.heap.size w ((((((w.alloc o1).alloc o2).alloc o3).alloc o4).alloc o5).alloc o6) := fun o1 o2 o3 o4 o5 o6 =>
    ((((below2 w _ _).alloc (by simp; omega) _).alloc (by simp; omega) _ |>.alloc (by simp; omega) _).alloc (by simp; omega) _)
  rcases (show (p1 = q1 ∧ p2 < q2) ∨ (p1 = q1 ∧ q2 ≤ p2) ∨ p1 < q1 ∨ q1 < p1 by omega) with ⟨g1, g2⟩ | ⟨g1, g2⟩ | g1 | g1
  case' inl =>
    have hl : lexB (p1, p2) (q1, q2) = true := by unfold lexB; simp; omega
    have k0 : decide (p1 < q1) = false := by rw [decide_eq_false_iff_not]; omega
    have k1 : (p1 == q1) = true := by simpa using g1
    have k2 : decide (p2 < q2) = true := by rw [decide_eq_true_eq]; omega
  case' inr.inl =>
    have hl : lexB (p1, p2) (q1, q2) = false := by unfold lexB; simp; omega
    have k0 : decide (p1 < q1) = false := by rw [decide_eq_false_iff_not]; omega
    have k1 : (p1 == q1) = true := by simpa using g1
    have k2 : decide (p2 < q2) = false := by rw [decide_eq_false_iff_not]; omega
  case' inr.inr.inl =>
    have hl : lexB (p1, p2) (q1, q2) = true := by unfold lexB; simp; omega
    have k0 : decide (p1 < q1) = true := by rw [decide_eq_true_eq]; omega
  case' inr.inr.inr =>
    have hl : lexB (p1, p2) (q1, q2) = false := by unfold lexB; simp; omega
    have k0 : decide (p1 < q1) = false := by rw [decide_eq_false_iff_not]; omega
    have k1 : (p1 == q1) = false := by simp; omega
  all_goals
    have HL := Lib.hid hl
    have HBB := Lib.hid hbel
    clear hl g1 hbel
    try clear g2
    go_enter Tryd.func19, Tryd.ntmps19
    go_wp2_with fail
    refine (H1.out _).mono ?_
    rintro e w1 ⟨rfl, rfl⟩
    dsimp only
    go_wp2_with fail
    refine (H2.out _).mono ?_
    rintro e w1 ⟨rfl, rfl⟩
    dsimp only
    go_wp2
    go_ret
    exact ⟨ret_bool HL.out.symm, HBB.out _ _ _ _ _ _⟩
end Go.Proofs.YtahhgphlfodonaaDoor
