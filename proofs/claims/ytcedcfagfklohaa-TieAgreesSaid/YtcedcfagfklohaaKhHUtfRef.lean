/-
  The document's Utf8 and Plain: what they answer, in plain words.
-/
import Derived.Test.YtcedcfagfklohaaKhNumZ
import Derived.Test.YtcedcfagfklohaaShelf
import Derived.Lib.Hide
import Derived.WalkKit
import Derived.IntWalk
import Derived.LoopTactic
set_option linter.unusedVariables false
set_option linter.unusedSimpArgs false
namespace Go.Proofs.Ytcedcfagfklohaa.Hd.S
open Go.RowKit Go.Shelf

theorem at_eq (s : ByteArray) (k : Nat) (h : k < s.size) : M.at' s.data.toList k = (s[k]'h).toNat := by
  unfold M.at'
  rw [List.getD_eq_getElem?_getD, List.getElem?_eq_getElem (by simpa using h)]
  rfl

theorem len_eq (s : ByteArray) : s.data.toList.length = s.size := rfl



theorem tail_false {l : List UInt8} {k lo hi : Nat} : M.tail l k lo hi = false ↔ ¬ (k < l.length ∧ lo ≤ M.at' l k ∧ M.at' l k ≤ hi) := by
  rw [← M.tail_iff]; cases M.tail l k lo hi <;> decide

theorem ret_nat {a b : Nat} {w w' : World} (h : a = b) (hw : w = w') : Ending.returned (.int .i64 (a : Int)) = .returned (.int .i64 (b : Int)) ∧ w = w' := ⟨by rw [h], hw⟩

end Go.Proofs.Ytcedcfagfklohaa.Hd.S
