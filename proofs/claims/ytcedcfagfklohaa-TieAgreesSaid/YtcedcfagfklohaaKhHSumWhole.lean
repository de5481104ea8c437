/-
  The contract of whole: b as a block.
-/
import Derived.Test.YtcedcfagfklohaaKhHSumCount
set_option linter.unusedVariables false
set_option linter.unusedSimpArgs false
namespace Go.Proofs.Ytcedcfagfklohaa.Hd
open Go.RowKit Go.Lib


theorem block_of_add' (a : Addr) (n : Nat) : (a.add n).block = a.block := by unfold Addr.add; split <;> rfl
theorem add_lit' (b off j : Nat) : (⟨b, off, none⟩ : Addr).add j = ⟨b, off + j, none⟩ := by
  unfold Addr.add
  split
  · rename_i h0
    subst h0
    rfl
  · rfl
/-- A block's value and whether there is one. -/
def Whole (zs : List Int) (w : World) (e : Ending) (w' : World) : Prop :=
  e = .returned (.tuple #[.agg (bcells (if zs.length = 512 then zs else nils 512)).toArray, .bool (decide (zs.length = 512))]) ∧ Below w.heap.size w w'

end Go.Proofs.Ytcedcfagfklohaa.Hd
