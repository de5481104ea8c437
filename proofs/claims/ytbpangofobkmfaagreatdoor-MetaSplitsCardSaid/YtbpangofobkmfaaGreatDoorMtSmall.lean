/-
  The small questions.
-/
import Derived.Test.YtbpangofobkmfaaGreatDoorMtMem
import Derived.Test.YtbpangofobkmfaaGreatDoorShelf
set_option linter.unusedVariables false
set_option linter.unusedSimpArgs false
namespace Go.Proofs.YtbpangofobkmfaaGreatDoor
open Go.RowKit Go.Lib
open Px (R2 tl)

theorem within_any (n a b : Int) (w : World) : Calls Tryz.prog 24 #[.int .i64 n, .int .i64 a, .int .i64 b] w fun e w' => e = .returned (.bool (M.within n a b)) ∧ w = w' := by
  unfold M.within
  have hg : decide (n ≥ a) = decide (a ≤ n) := rfl
  cases h : decide (a ≤ n) with
  | true =>
    go_enter Tryz.func24, Tryz.ntmps24
    go_wp2
    go_ret
    exact ⟨rfl, rfl⟩
  | false =>
    go_enter Tryz.func24, Tryz.ntmps24
    go_wp2
    go_ret
    exact ⟨rfl, rfl⟩
theorem isLink_any (k : Int) (w : World) : Calls Tryz.prog 60 #[.int .u8 k] w fun e w' => e = .returned (.bool (M.isLink k)) ∧ w = w' := by
  unfold M.isLink
  cases h : k == 49 with
  | true =>
    go_enter Tryz.func60, Tryz.ntmps60
    go_wp2
    go_ret
    exact ⟨rfl, rfl⟩
  | false =>
    go_enter Tryz.func60, Tryz.ntmps60
    go_wp2
    go_ret
    exact ⟨rfl, rfl⟩
theorem isDevice_any (k : Int) (w : World) : Calls Tryz.prog 61 #[.int .u8 k] w fun e w' => e = .returned (.bool (M.isDev k)) ∧ w = w' := by
  unfold M.isDev
  cases h : k == 51 with
  | true =>
    go_enter Tryz.func61, Tryz.ntmps61
    go_wp2
    go_ret
    exact ⟨rfl, rfl⟩
  | false =>
    go_enter Tryz.func61, Tryz.ntmps61
    go_wp2
    go_ret
    exact ⟨rfl, rfl⟩
theorem isEmpty_any (a b : Int) (w : World) : Calls Tryz.prog 66 #[.agg #[.int .i64 a, .int .i64 b]] w fun e w' => e = .returned (.bool (b == 0)) ∧ Below w.heap.size w w' := by
  go_enter Tryz.func66, Tryz.ntmps66
  go_wp2
  go_ret
  exact ⟨rfl, (Below.refl _ w).alloc (Nat.le_refl _) _⟩
end Go.Proofs.YtbpangofobkmfaaGreatDoor
