/-
  The contracts of Octal, the program's and the document's: of any bytes both answer the same number and the same bool.
-/
import Derived.Test.YtcedcfagfklohaaKhNumRead
import Derived.Laws.BitsAllLaws
import Derived.Laws.BitsLemmas
set_option linter.unusedVariables false
set_option linter.unusedSimpArgs false
namespace Go.Proofs.Ytcedcfagfklohaa.Hd
open Go.RowKit Go.Lib
attribute [local go_sem ↓] slice_from

theorem ofInt_i64 (a : Nat) (ha : a < 9223372036854775808) : (BitVec.ofInt 64 (a : Int)).toNat = a := by
  rw [BitVec.ofInt_natCast, BitVec.toNat_ofNat]; exact Nat.mod_eq_of_lt (by omega)
/-- Or of a number of whole 8's and one below 8: their sum. -/
theorem i64_or_8 (x y : Int) (h0 : 0 ≤ y) (h1 : y < 8) (hx : -9223372036854775808 ≤ 8 * x) (hx' : 8 * x + y < 9223372036854775808) :
    bits .or .i64 (8 * x) y = 8 * x + y := by
  obtain ⟨y, rfl⟩ := Int.eq_ofNat_of_zero_le h0
  have ey : (BitVec.ofInt 64 ((y : Nat) : Int)).toNat = y := ofInt_i64 y (by omega)
  have ex : (BitVec.ofInt 64 (8 * x)).toNat = 2 ^ 3 * (((8 * x) % 18446744073709551616).toNat / 8) := by
    rw [BitVec.toNat_ofInt]
    show ((8 * x) % 18446744073709551616).toNat = _
    omega
  show IntKind.i64.wrap ((BitVec.ofInt 64 (8 * x) ||| BitVec.ofInt 64 (y : Int)).toNat : Int) = _
  rw [BitVec.toNat_or, ex, ey, ← Nat.two_pow_add_eq_or_of_lt (by omega), IntKind.wrap_i64]
  omega
theorem i64_or_256 (x y : Int) (h0 : 0 ≤ y) (h1 : y < 256) (hx : -9223372036854775808 ≤ 256 * x) (hx' : 256 * x + y < 9223372036854775808) :
    bits .or .i64 (256 * x) y = 256 * x + y := by
  obtain ⟨y, rfl⟩ := Int.eq_ofNat_of_zero_le h0
  have ey : (BitVec.ofInt 64 ((y : Nat) : Int)).toNat = y := ofInt_i64 y (by omega)
  have ex : (BitVec.ofInt 64 (256 * x)).toNat = 2 ^ 8 * (((256 * x) % 18446744073709551616).toNat / 256) := by
    rw [BitVec.toNat_ofInt]
    show ((256 * x) % 18446744073709551616).toNat = _
    omega
  show IntKind.i64.wrap ((BitVec.ofInt 64 (256 * x) ||| BitVec.ofInt 64 (y : Int)).toNat : Int) = _
  rw [BitVec.toNat_or, ex, ey, ← Nat.two_pow_add_eq_or_of_lt (by omega), IntKind.wrap_i64]
  omega

def ret2 (a : Int) (b : Bool) : Ending := .returned (.tuple #[.int .i64 a, .bool b])
theorem ret2_eq {a a' : Int} {b b' : Bool} (h : a = a') (h' : b = b') : Ending.returned (.tuple #[.int .i64 a, .bool b]) = .returned (.tuple #[.int .i64 a', .bool b']) := by rw [h, h']

theorem dig_no {z : Int} (h : M.dig z = false) : z < 48 ∨ 55 < z := by
  by_cases h1 : z < 48
  · exact .inl h1
  · right
    simp only [M.dig] at h
    by_cases h2 : 55 < z
    · exact h2
    · have : decide (48 ≤ z) = true := by simp; omega
      have : decide (z ≤ 55) = true := by simp; omega
      simp_all

end Go.Proofs.Ytcedcfagfklohaa.Hd
