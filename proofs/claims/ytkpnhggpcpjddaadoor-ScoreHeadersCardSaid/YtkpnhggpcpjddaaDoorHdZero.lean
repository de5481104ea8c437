/-
  The noughts of a block, where the dump keeps them as a constant of its own.
-/
import Derived.Test.YtkpnhggpcpjddaaDoorHMi
set_option linter.unusedVariables false
set_option linter.unusedSimpArgs false
namespace Go.Proofs.YtkpnhggpcpjddaaDoor
theorem zc_blk : Tryd.zeroCells59 = (bcells (nils 512)).toArray := by kernel_rfl
end Go.Proofs.YtkpnhggpcpjddaaDoor
