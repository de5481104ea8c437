/-
  The contracts of Unsigned, Signed, Told, Right and Zero of the program.
-/
import Derived.Test.YtcedcfagfklohaaKhHSumWhole
import Derived.Test.YtcedcfagfklohaaKhNumOctal
set_option linter.unusedVariables false
set_option linter.unusedSimpArgs false
namespace Go.Proofs.Ytcedcfagfklohaa.Hd
open Go.RowKit Go.Lib


theorem rd_small {w : World} {B n : Nat} {A : Option Addr} {zs : List Int} (h : Rd w B A n zs) (hB : B ≤ w.heap.size) (o : Obj) : Rd (w.alloc o) B A n zs := h.alloc hB o

theorem right_yes {zs : List Int} (h : M.toldOk zs = true) : M.right zs = (M.toldN zs == M.uns zs || M.toldN zs == M.sgn zs) := by unfold M.right; rw [h]; rfl

end Go.Proofs.Ytcedcfagfklohaa.Hd
