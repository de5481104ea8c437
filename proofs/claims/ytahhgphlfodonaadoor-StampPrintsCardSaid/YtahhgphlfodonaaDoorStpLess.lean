/-
  Less, the program's and the document's.
-/
import Derived.Test.YtahhgphlfodonaaDoorStpBox
import Derived.Deep.RegionWith
import Derived.RegionTactic
import Derived.Deep.RegionHeld3
import Derived.Deep.QuietTactic
import Derived.Laws.StructEq
import Derived.Deep.CutRange
namespace Go.Proofs.YtahhgphlfodonaaDoor
open Go.RowKit

def lexB (a b : M.Tm) : Bool := decide (a.1 < b.1 ∨ a.1 = b.1 ∧ a.2 < b.2)
def lessB (a b : M.Tm) : Bool := lexB (M.norm a) (M.norm b)

set_option maxRecDepth 100000 in
set_option maxHeartbeats 4000000 in
theorem less_any (S n T m : Int) (w : World) : Calls Tryd.prog 18 #[.agg #[.int .i64 S, .int .i64 n], .agg #[.int .i64 T, .int .i64 m]] w fun e w' => e = .returned (.bool (lessB (S, n) (T, m))) ∧ Below w.heap.size w w' := by
  have C1 := fun W => norm_to S n W
  have C2 := fun W => norm_to T m W
  unfold lessB
  generalize M.norm (S, n) = x at *
  generalize M.norm (T, m) = y at *
  obtain ⟨p1, p2⟩ := x
  obtain ⟨q1, q2⟩ := y
  have H1 := Lib.hid C1
  have H2 := Lib.hid C2
  clear C1 C2
  go_enter Tryd.func18, Tryd.ntmps18
  go_wp2_with fail
  go_cut [] from 5 to 8 (fun wc => BoxT wc w.heap.size (p1, p2) ∧ BoxT wc (w.heap.size + 1) (q1, q2) ∧ Below w.heap.size w wc)
  case first =>
    go_region_with (first
      | (go_at_call 16; (with_reducible refine (H1.out _).mono ?_); rintro e w1 ⟨rfl, rfl⟩; try dsimp only)
      | (go_at_call 16; (with_reducible refine (H2.out _).mono ?_); rintro e w1 ⟨rfl, rfl⟩; try dsimp only))
    all_goals
      go_wp2
      go_meet
      case rel =>
        exact ⟨((((((BoxT.new w (p1, p2)).alloc _).alloc _).alloc _).alloc _).alloc _).drew, (((((box2 w _ (q1, q2)).alloc _).alloc _).alloc _).alloc _).drew, below_drew' ((((below2 w _ _).alloc (by simp; omega) _).alloc (by simp; omega) _ |>.alloc (by simp; omega) _).alloc (by simp; omega) _)⟩
  case rest =>
    obtain ⟨x1, x2, hb⟩ := hcut
    clear H1 H2
    have c0 := x1.cell0
    have c1 := x1.cell1
    have d0 := x2.cell0
    have d1 := x2.cell1
    dsimp only at c0 c1 d0 d1
    by_cases heq : p1 = q1 ∧ p2 = q2
    · obtain ⟨rfl, rfl⟩ := heq
      have hl : lexB (p1, p2) (p1, p2) = false := by unfold lexB; simp
      have HL := Lib.hid hl
      clear hl x1 x2
      go_wp2_with fail
      go_quiet (fail)
      go_wp2
      go_ret
      exact ⟨ret_bool HL.out.symm, below_drewN' hb _⟩
    · have C3 := fun W => sooner_any (p1, p2) (q1, q2) W
      unfold TimeIs tv at C3
      dsimp only at C3
      have S1 : ∀ (x y : World), (x.cell? ⟨w.heap.size, 0, none⟩ = some (.int .i64 p1) ∧ x.cell? ⟨w.heap.size, 1, none⟩ = some (.int .i64 p2) ∧ x.cell? ⟨w.heap.size + 1, 0, none⟩ = some (.int .i64 q1) ∧ x.cell? ⟨w.heap.size + 1, 1, none⟩ = some (.int .i64 q2) ∧ Below w.heap.size w x) → Below x.heap.size x y →
          y.cell? ⟨w.heap.size, 0, none⟩ = some (.int .i64 p1) ∧ y.cell? ⟨w.heap.size, 1, none⟩ = some (.int .i64 p2) ∧ y.cell? ⟨w.heap.size + 1, 0, none⟩ = some (.int .i64 q1) ∧ y.cell? ⟨w.heap.size + 1, 1, none⟩ = some (.int .i64 q2) ∧ Below w.heap.size w y := by
        rintro x y ⟨h1, h2, h3, h4, h5⟩ hxy
        have l1 : w.heap.size < x.heap.size := World.block_lt_of_cell? _ _ h1
        have l2 : w.heap.size + 1 < x.heap.size := World.block_lt_of_cell? _ _ h3
        exact ⟨(hxy.cell (p := ⟨_, _, none⟩) l1).trans h1, (hxy.cell (p := ⟨_, _, none⟩) l1).trans h2, (hxy.cell (p := ⟨_, _, none⟩) l2).trans h3, (hxy.cell (p := ⟨_, _, none⟩) l2).trans h4, h5.trans (hxy.mono h5.size)⟩
      have HS1 := Lib.hid S1
      clear S1 x1 x2
      rcases (show (p1 = q1 ∧ p2 < q2) ∨ (p1 = q1 ∧ q2 < p2) ∨ p1 < q1 ∨ q1 < p1 by omega) with ⟨g1, g2⟩ | ⟨g1, g2⟩ | g1 | g1
      case' inl =>
        have hl : lexB (p1, p2) (q1, q2) = true := by unfold lexB; simp; omega
        have k1 : (p1 == q1) = true := by simpa using g1
        have k2 : (p2 == q2) = false := by simp; omega
        have k3 : (p1 == p1) = true := by simp
        rw [if_neg (by omega)] at C3
      case' inr.inl =>
        have hl : lexB (p1, p2) (q1, q2) = false := by unfold lexB; simp; omega
        have k1 : (p1 == q1) = true := by simpa using g1
        have k2 : (p2 == q2) = false := by simp; omega
        have k3 : (q1 == p1) = true := by simp; omega
        have k4 : (q2 == p2) = false := by simp; omega
        rw [if_pos (by omega)] at C3
      case' inr.inr.inl =>
        have hl : lexB (p1, p2) (q1, q2) = true := by unfold lexB; simp; omega
        have k1 : (p1 == q1) = false := by simp; omega
        rw [if_neg (by omega)] at C3
      case' inr.inr.inr =>
        have hl : lexB (p1, p2) (q1, q2) = false := by unfold lexB; simp; omega
        have k1 : (p1 == q1) = false := by simp; omega
        have k3 : (q1 == p1) = false := by simp; omega
        rw [if_pos (by omega)] at C3
      all_goals
        dsimp only at C3
        have HL := Lib.hid hl
        have H3 := Lib.hid C3
        clear hl C3 g1 heq
        try clear g2
        go_wp2_with fail
        go_region_held3 (fun w' => w'.cell? ⟨w.heap.size, 0, none⟩ = some (.int .i64 p1) ∧ w'.cell? ⟨w.heap.size, 1, none⟩ = some (.int .i64 p2) ∧ w'.cell? ⟨w.heap.size + 1, 0, none⟩ = some (.int .i64 q1) ∧ w'.cell? ⟨w.heap.size + 1, 1, none⟩ = some (.int .i64 q2) ∧ Below w.heap.size w w')
          (first
            | exact ⟨c0, c1, d0, d1, below_drew' hb⟩
            | exact HS1.out _ _ ⟨c0, c1, d0, d1, below_drew' hb⟩ hb1
            | exact HS1.out _ _ (by assumption) hb1)
          (first
            | (go_at_call 28; refine (H3.out _).mono ?_; rintro e w' ⟨rfl, hb1⟩))
        all_goals
          have hbz : Below w.heap.size w w' := (show _ ∧ _ ∧ _ ∧ _ ∧ Below w.heap.size w w' by assumption).2.2.2.2
          go_wp2
          go_ret
          exact ⟨ret_bool HL.out.symm, hbz⟩
end Go.Proofs.YtahhgphlfodonaaDoor
