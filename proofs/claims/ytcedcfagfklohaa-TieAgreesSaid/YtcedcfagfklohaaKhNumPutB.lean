/-
  The contracts of PutBinary and Put, the program's and the document's: both answer the same bytes, or none, and the same bool.
-/
import Derived.Test.YtcedcfagfklohaaKhNumPut
set_option linter.unusedVariables false
set_option linter.unusedSimpArgs false
namespace Go.Proofs.Ytcedcfagfklohaa.Hd
open Go.RowKit Go.Lib
attribute [local go_sem ↓] slice_from

theorem or128 (x : Int) (h0 : 0 ≤ x) (h1 : x ≤ 255) : bits .or .u8 x 128 = x % 128 + 128 := by
  obtain ⟨n, rfl⟩ := Int.eq_ofNat_of_zero_le h0
  have h2 : n < 256 := by omega
  clear h0 h1
  have : ∀ m : Fin 256, bits .or .u8 (m.val : Int) 128 = (m.val : Int) % 128 + 128 := by decide +kernel
  exact this ⟨n, h2⟩

theorem binFits_eq (n : Int) (N : Nat) (h1 : 2 ≤ N) (h2 : N ≤ 32) : M.binFits n N = (M.binOk (M.bin n N) && (M.binN (M.bin n N) == n)) := by
  unfold M.binFits
  rw [show decide ((2 : Int) ≤ N) = true by simp; omega, show decide ((N : Int) ≤ 32) = true by simp; omega, Int.toNat_natCast]
  rfl

theorem tmod_neg (v : Int) (h : v.tmod 256 < 0) : v.tmod 256 + 256 = v % 256 := by
  rw [Int.tmod_eq_emod] at h ⊢
  split at h <;> rename_i h' <;> simp only [h', if_true, if_false] at h ⊢ <;> omega
theorem tmod_pos (v : Int) (h : ¬ v.tmod 256 < 0) : v.tmod 256 = v % 256 := by
  rw [Int.tmod_eq_emod] at h ⊢
  split at h <;> rename_i h' <;> simp only [h', if_true, if_false] at h ⊢ <;> omega
theorem tdiv_whole (v : Int) : (v - v % 256).tdiv 256 = v / 256 := by
  have e : v - v % 256 = 256 * (v / 256) := by omega
  rw [e, Int.mul_tdiv_cancel_left _ (by decide)]

/-! ### Put -/
theorem PutPost.past {w w1 w2 : World} {ok : Bool} {zs : List Int} {e : Ending} (h1 : Below w.heap.size w w1) (h : PutPost w1 ok zs e w2) : PutPost w ok zs e w2 := by
  obtain ⟨A, N, he, hr, hb⟩ := h
  exact ⟨A, N, he, hr, h1.trans (hb.mono h1.size)⟩

end Go.Proofs.Ytcedcfagfklohaa.Hd
