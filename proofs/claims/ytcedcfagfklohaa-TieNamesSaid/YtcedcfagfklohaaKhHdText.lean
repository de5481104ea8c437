/-
  A text's field is parsed.
-/
import Derived.Test.YtcedcfagfklohaaKhHdField
import Derived.Test.YtcedcfagfklohaaKhHStrCut
import Derived.IntWalk
set_option linter.unusedVariables false
set_option linter.unusedSimpArgs false
namespace Go.Proofs.Ytcedcfagfklohaa.Hd
open Go.RowKit Go.Lib

/-- What parsing a text's field answers. -/
def TxtTo (zs : List Int) (a m : Nat) (there : Bool) (p : Addr) (w : World) (e : Ending) (w' : World) : Prop :=
  e = .returned (.tuple #[]) ∧ if there = true then ∃ w1, Below w.heap.size w w1 ∧ w' = w1.setCell p (.string (M.txt zs a m)) else Below w.heap.size w w'

end Go.Proofs.Ytcedcfagfklohaa.Hd
