/-
  The small functions of layer 8: kinds, what may be laid, the fields of texts and of numbers.
-/
import Derived.Test.YtjpflljmeaihgaaDoorPMem
import Derived.BigRegion
import Derived.StillTailTactics
namespace Go.Proofs.YtjpflljmeaihgaaDoor.H
open Go.RowKit Go.Lib

/-- A text's field, a number's: as values. -/
def tfv (a n : Int) (there : Bool) (p : Addr) : Value := .agg #[.int .i64 a, .int .i64 n, .bool there, .pointer (some p)]
def nfv (a n : Int) (there : Bool) (lo up : Int) (p : Addr) : Value := .agg #[.int .i64 a, .int .i64 n, .bool there, .int .i64 lo, .int .i64 up, .pointer (some p)]

set_option maxHeartbeats 1000000 in
theorem mayTell_any (a m : Int) (there : Bool) (lo up : Int) (p : Addr) (x : Int) (w : World) :
    Calls Tryd.prog 65 #[nfv a m there lo up p, .int .i64 x] w fun e w' => e = .returned (.bool (decide (lo ≤ x) && decide (x ≤ up))) ∧ Below w.heap.size w w' := by
  unfold nfv
  cases hl : decide (lo ≤ x)
  · go_enter Tryd.func65, Tryd.ntmps65
    go_wp2
    go_ret
    exact ⟨rfl, (Below.refl _ _).alloc (Nat.le_refl _) _⟩
  · go_enter Tryd.func65, Tryd.ntmps65
    go_wp2
    go_ret
    exact ⟨rfl, (Below.refl _ _).alloc (Nat.le_refl _) _⟩
end Go.Proofs.YtjpflljmeaihgaaDoor.H
