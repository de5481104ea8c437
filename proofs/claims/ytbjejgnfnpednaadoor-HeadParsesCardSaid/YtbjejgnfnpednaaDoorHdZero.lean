/-
  The noughts of a block, where the dump keeps them as a constant of its own.
-/
import Derived.Test.YtbjejgnfnpednaaDoorHMi
namespace Go.Proofs.YtbjejgnfnpednaaDoor
theorem zc_blk : Tryd.zeroCells86 = (bcells (nils 512)).toArray := by kernel_rfl
end Go.Proofs.YtbjejgnfnpednaaDoor
