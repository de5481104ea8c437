/-
  The small questions.
-/
import Derived.Test.YtbhpedhdhgjkoaaGreatDoorMtMem
import Derived.Test.YtbhpedhdhgjkoaaGreatDoorShelf
set_option linter.unusedVariables false
set_option linter.unusedSimpArgs false
namespace Go.Proofs.YtbhpedhdhgjkoaaGreatDoor
open Go.RowKit Go.Lib
open Px (R2 tl)

theorem within_any (n a b : Int) (w : World) : Calls Tryz.prog 10 #[.int .i64 n, .int .i64 a, .int .i64 b] w fun e w' => e = .returned (.bool (M.within n a b)) ∧ w = w' := by
  unfold M.within
  have hg : decide (n ≥ a) = decide (a ≤ n) := rfl
  cases h : decide (a ≤ n) with
  | true =>
    go_enter Tryz.func10, Tryz.ntmps10
    go_wp2
    go_ret
    exact ⟨rfl, rfl⟩
  | false =>
    go_enter Tryz.func10, Tryz.ntmps10
    go_wp2
    go_ret
    exact ⟨rfl, rfl⟩
theorem isLink_any (k : Int) (w : World) : Calls Tryz.prog 42 #[.int .u8 k] w fun e w' => e = .returned (.bool (M.isLink k)) ∧ w = w' := by
  unfold M.isLink
  cases h : k == 49 with
  | true =>
    go_enter Tryz.func42, Tryz.ntmps42
    go_wp2
    go_ret
    exact ⟨rfl, rfl⟩
  | false =>
    go_enter Tryz.func42, Tryz.ntmps42
    go_wp2
    go_ret
    exact ⟨rfl, rfl⟩
theorem isDevice_any (k : Int) (w : World) : Calls Tryz.prog 43 #[.int .u8 k] w fun e w' => e = .returned (.bool (M.isDev k)) ∧ w = w' := by
  unfold M.isDev
  cases h : k == 51 with
  | true =>
    go_enter Tryz.func43, Tryz.ntmps43
    go_wp2
    go_ret
    exact ⟨rfl, rfl⟩
  | false =>
    go_enter Tryz.func43, Tryz.ntmps43
    go_wp2
    go_ret
    exact ⟨rfl, rfl⟩
theorem isEmpty_any (a b : Int) (w : World) : Calls Tryz.prog 48 #[.agg #[.int .i64 a, .int .i64 b]] w fun e w' => e = .returned (.bool (b == 0)) ∧ Below w.heap.size w w' := by
  go_enter Tryz.func48, Tryz.ntmps48
  go_wp2
  go_ret
  exact ⟨rfl, (Below.refl _ w).alloc (Nat.le_refl _) _⟩
end Go.Proofs.YtbhpedhdhgjkoaaGreatDoor
