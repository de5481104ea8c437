/-
  The contracts of Binary and Parse, the program's and the document's: of any bytes both answer the same number and the same bool.
-/
import Derived.Test.YtcedcfagfklohaaKhNumOctal
set_option linter.unusedVariables false
set_option linter.unusedSimpArgs false
namespace Go.Proofs.Ytcedcfagfklohaa.Hd
open Go.RowKit Go.Lib
attribute [local go_sem ↓] slice_from

theorem first_of (z : Int) (h : 128 ≤ z) (h' : z ≤ 255) : wrap64 (IntKind.i8.wrap (z * 2 % 256) / 2) = M.first z := by
  obtain ⟨n, rfl⟩ := Int.eq_ofNat_of_zero_le (by omega : 0 ≤ z)
  have h1 : n < 256 := by omega
  have h2 : 128 ≤ n := by omega
  clear h h'
  have : ∀ m : Fin 256, 128 ≤ m.val → wrap64 (IntKind.i8.wrap ((m.val : Int) * 2 % 256) / 2) = M.first (m.val : Int) := by decide +kernel
  exact this ⟨n, h1⟩ h2
theorem first_lo (z : Int) (h : 128 ≤ z) (h' : z ≤ 255) : -64 ≤ M.first z := by unfold M.first; split <;> omega
theorem first_hi (z : Int) (h : 128 ≤ z) (h' : z ≤ 255) : M.first z ≤ 63 := by unfold M.first; split <;> omega

theorem firstRef_lo (z : Int) (h : 192 ≤ z) : z - 128 - 128 = M.first z := by unfold M.first; rw [if_neg (by omega)]; omega
theorem firstRef_hi (z : Int) (h : z < 192) : z - 128 = M.first z := by unfold M.first; rw [if_pos h]
theorem binOk_end (z : Int) (l : List Int) (hz : 128 ≤ z) : M.binOk (z :: l) = (decide (-4611686018427387904 ≤ M.bits z l) && decide (M.bits z l ≤ 4611686018427387904)) := by
  show (decide (128 ≤ z) && _) = _
  rw [show decide (128 ≤ z) = true by simpa using hz]
  rfl

/-! ### Parse -/
def parN (zs : List Int) : Int := if M.marked zs then M.binN zs else M.octN zs
def parOk (zs : List Int) : Bool := if M.marked zs then M.binOk zs else M.octOk zs

end Go.Proofs.Ytcedcfagfklohaa.Hd
