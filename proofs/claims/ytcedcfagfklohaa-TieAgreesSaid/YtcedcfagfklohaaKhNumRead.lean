/-
  The contracts of the small functions of layer 1 that read a field: how many blanks lead, how many digits, whether all else is filling, whether it is marked, and what a width is.
-/
import Derived.Test.YtcedcfagfklohaaKhNumZ
import Derived.Test.YtcedcfagfklohaaRows
import Derived.WalkKit
set_option linter.unusedVariables false
set_option linter.unusedSimpArgs false
namespace Go.Proofs.Ytcedcfagfklohaa.Hd
open Go.RowKit Go.Lib

theorem elem22 : Try.prog.elem 22 = 5 := by kernel_rfl
theorem cells5 : (Try.prog.info? 5).map (·.size) = some 1 := by kernel_rfl
/-- 's[l:]' of bytes, the address under one name. -/
theorem slice_from (w : World) (a : Option Addr) (len cap : Nat) (kl : IntKind) (l : Int) (h0 : 0 ≤ l) (h1 : l ≤ len) :
    (Instr.slice 22 (.slice a len cap) (some (.int kl l)) none none).run Try.prog w = .ok (.slice (cutA a cap l.toNat) (len - l.toNat) (cap - l.toNat)) w := by
  have ht : Try.prog.underlying 22 = some (.slice (Try.prog.elem 22)) := by rw [elem22]; exact Try.underlying22
  rw [run_slice_l w 22 a len cap ht kl l h0 h1, elem22]
  have hs : (sizeOf 5).run Try.prog w = .ok 1 w := by
    obtain ⟨i, hi, hz⟩ := Option.map_eq_some_iff.1 cells5
    simp [sizeOf, typeInfo, hi, hz]
  rw [hs]
  simp [Result.andThen, sliced, cutA]
attribute [local go_sem ↓] slice_from

end Go.Proofs.Ytcedcfagfklohaa.Hd
