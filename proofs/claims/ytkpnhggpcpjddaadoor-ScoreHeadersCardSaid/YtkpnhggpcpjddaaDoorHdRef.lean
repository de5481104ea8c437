/-
  The document's Known, kind, magic and Way.
-/
import Derived.Test.YtkpnhggpcpjddaaDoorHMd
import Derived.Test.YtkpnhggpcpjddaaDoorHMi
set_option linter.unusedVariables false
set_option linter.unusedSimpArgs false
namespace Go.Proofs.YtkpnhggpcpjddaaDoor
open Go.RowKit Go.Lib
theorem below_drwR {B : Nat} {a w : World} (h : Below B a w) : Below B a w.drew := ⟨h.os, h.tape, h.output, h.size, h.block⟩

set_option maxHeartbeats 1000000 in
theorem refKnown_any (c : Int) (w : World) : Calls Tryd.prog 20 #[.int .u8 c] w fun e w' => e = .returned (.bool (M.known c)) ∧ w = w' := by
  go_enter Tryd.func20, Tryd.ntmps20
  go_wp2
  all_goals
    go_ret
    refine ⟨ret_bool (Bool.eq_iff_iff.2 ?_), rfl⟩
    unfold M.known
    simp at *
    try omega
set_option maxHeartbeats 1000000 in
theorem magic_any (k : Nat) (hk : k < 3) (w : World) : Calls Tryd.prog 25 #[.int .i64 k] w fun e w' => e = .returned (.string (mgs k)) ∧ Below w.heap.size w w' := by
  have h3 : k = 0 ∨ k = 1 ∨ k = 2 := by omega
  rcases h3 with rfl | rfl | rfl
  all_goals
    clear hk
    go_enter Tryd.func25, Tryd.ntmps25
    go_wp2
    go_ret
    exact ⟨rfl, (Below.refl _ _).alloc (Nat.le_refl _) _⟩

end Go.Proofs.YtkpnhggpcpjddaaDoor
