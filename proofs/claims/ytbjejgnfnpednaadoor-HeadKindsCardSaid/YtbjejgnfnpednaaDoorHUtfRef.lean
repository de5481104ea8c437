/-
  The document's Utf8 and Plain: what they answer, in plain words.
-/
import Derived.Test.YtbjejgnfnpednaaDoorHUtfMath
import Derived.Test.YtbjejgnfnpednaaDoorShelf
import Derived.Test.YtbjejgnfnpednaaDoorNumMem
import Derived.Lib.Hide
import Derived.WalkKit
import Derived.IntWalk
import Derived.LoopTactic
namespace Go.Proofs.YtbjejgnfnpednaaDoor.S
open Go.RowKit Go.Shelf

theorem at_eq (s : ByteArray) (k : Nat) (h : k < s.size) : M.at' s.data.toList k = (s[k]'h).toNat := by
  unfold M.at'
  rw [List.getD_eq_getElem?_getD, List.getElem?_eq_getElem (by simpa using h)]
  rfl

theorem len_eq (s : ByteArray) : s.data.toList.length = s.size := rfl

end Go.Proofs.YtbjejgnfnpednaaDoor.S
