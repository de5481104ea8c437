/-
  A field is printed: a text's, a number's.
-/
import Derived.Test.YtcedcfagfklohaaKhHdParseS
import Derived.Test.YtcedcfagfklohaaKhNumPutB
import Derived.Test.YtcedcfagfklohaaKhHSumSeal
set_option linter.unusedVariables false
set_option linter.unusedSimpArgs false
namespace Go.Proofs.Ytcedcfagfklohaa.Hd
open Go.RowKit Go.Lib

/-- Block gb is a block of 512 bytes that is being laid. -/
def laid (W : World) (gb : Nat) (zs : List Int) : World := W.setRow gb (bcells zs).toArray
theorem Arr.laid {W : World} {gb : Nat} {t : TypeId} {zs : List Int} (h : Arr W gb t zs) (ys : List Int) : Arr (laid W gb ys) gb t ys := h.setRow ys

theorem put_len {s l : List UInt8} {m : Nat} (h : S.M.put s (m : Int) = some l) : l.length = m := by
  unfold S.M.put at h
  split at h
  · rename_i h1
    injection h with h
    subst h
    rw [List.length_append, List.length_replicate]
    omega
  · cases h
theorem splice_cells (zs ys : List Int) (a : Nat) : ((bcells zs).toArray.toList.take a ++ (bcells ys ++ (bcells zs).toArray.toList.drop (a + (bcells ys).length))) = bcells (splice zs a ys) := by
  rw [← bcells_splice]
  rfl

theorem putR_len {x : Int} {m : Nat} (h : M.putFits x m = true) : (M.putR x m).length = m := by
  unfold M.putR
  cases ho : M.octFits x m with
  | true =>
    rw [if_pos rfl]
    unfold M.oct
    rw [M.listOf_len]
    rfl
  | false =>
    have hb : M.binFits x m = true := by
      unfold M.putFits at h
      rw [ho] at h
      exact h
    rw [if_neg (by decide), M.binR_yes hb]
    unfold M.bin
    rw [M.listOf_len]
    rfl
/-- May a number be printed? -/
def M.putOk (x : Int) (m : Nat) (lo up : Int) : Bool := M.putFits x m && (decide (lo ≤ x) && decide (x ≤ up))
end Go.Proofs.Ytcedcfagfklohaa.Hd
