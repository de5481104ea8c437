/-
  The contracts of what adds up: a byte as it counts, the closures, their sum; Unsigned and Signed.
-/
import Derived.Test.YtcedcfagfklohaaKhHdZero
import Derived.Test.YtcedcfagfklohaaKhNumZ
import Derived.Test.YtcedcfagfklohaaKhNumRead
set_option linter.unusedVariables false
set_option linter.unusedSimpArgs false
namespace Go.Proofs.Ytcedcfagfklohaa.Hd
open Go.RowKit Go.Lib

theorem i8_of (n : Int) : IntKind.i8.wrap n = (n + 128) % 256 - 128 := by
  simp [IntKind.wrap, IntKind.bits, IntKind.signed]
  omega
theorem i8_lo {v : Int} (h0 : 0 ≤ v) (h1 : v ≤ 127) : IntKind.i8.wrap v = v := by rw [i8_of]; omega
theorem i8_hi {v : Int} (h0 : 127 < v) (h1 : v ≤ 255) : IntKind.i8.wrap v = v - 256 := by rw [i8_of]; omega
theorem cs_of_cu {i : Nat} {z : Int} (h : 0 ≤ z ∧ z ≤ 255) : IntKind.i8.wrap (M.cu i z) = M.cs i z := by
  unfold M.cu M.cs
  by_cases h1 : 148 ≤ i ∧ i < 156
  · rw [if_pos h1, if_pos h1]; rfl
  · rw [if_neg h1, if_neg h1]
    by_cases h2 : 127 < z
    · rw [if_pos h2, i8_hi h2 h.2]
    · rw [if_neg h2, i8_lo h.1 (by omega)]

end Go.Proofs.Ytcedcfagfklohaa.Hd
