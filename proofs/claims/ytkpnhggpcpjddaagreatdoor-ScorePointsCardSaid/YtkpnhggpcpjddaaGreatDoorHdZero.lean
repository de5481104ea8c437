/-
  The noughts of a block, where the dump keeps them as a constant of its own.
-/
import Derived.Test.YtkpnhggpcpjddaaGreatDoorHMi
set_option linter.unusedVariables false
set_option linter.unusedSimpArgs false
namespace Go.Proofs.YtkpnhggpcpjddaaGreatDoor
theorem zc_blk : Tryz.zeroCells65 = (bcells (nils 512)).toArray := by kernel_rfl
end Go.Proofs.YtkpnhggpcpjddaaGreatDoor
