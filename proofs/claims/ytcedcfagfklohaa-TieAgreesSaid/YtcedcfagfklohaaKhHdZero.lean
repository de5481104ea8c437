/-
  The noughts of a block, where the dump keeps them as a constant of its own.
-/
import Derived.Test.YtcedcfagfklohaaKhSumMem
set_option linter.unusedVariables false
set_option linter.unusedSimpArgs false
namespace Go.Proofs.Ytcedcfagfklohaa.Hd
end Go.Proofs.Ytcedcfagfklohaa.Hd
