/-
  The small functions of layer 8: kinds, what may be laid, the fields of texts and of numbers.
-/
import Derived.Test.YtcedcfagfklohaaKhHdMem
import Derived.BigRegion
import Derived.StillTailTactics
set_option linter.unusedVariables false
set_option linter.unusedSimpArgs false
namespace Go.Proofs.Ytcedcfagfklohaa.Hd
open Go.RowKit Go.Lib

/-- A text's field, a number's: as values. -/
def tfv (a n : Int) (there : Bool) (p : Addr) : Value := .agg #[.int .i64 a, .int .i64 n, .bool there, .pointer (some p)]
def nfv (a n : Int) (there : Bool) (lo up : Int) (p : Addr) : Value := .agg #[.int .i64 a, .int .i64 n, .bool there, .int .i64 lo, .int .i64 up, .pointer (some p)]

end Go.Proofs.Ytcedcfagfklohaa.Hd
