/-
  Plain facts of what lies between commas.
-/
import Derived.Test.YtjpflljmeaihgaaDoorSpMath
import Derived.Lib.Bytealg
import Derived.Lib.Strings
namespace Go.Proofs.YtjpflljmeaihgaaDoor
namespace M
theorem cut_some {l : List UInt8} {k : Nat} (h : Lib.indexByte l 44 = (k : Int)) : k < l.length ∧ cuts l = l.take k :: cuts (l.drop (k + 1)) := by
  induction l generalizing k with
  | nil => simp [Lib.indexByte] at h
  | cons c l ih =>
    unfold Lib.indexByte at h
    split at h
    · rename_i hc
      have hc' : c = 44 := by simpa using hc
      obtain rfl : k = 0 := by omega
      subst hc'
      simp [cuts]
    · rename_i hc
      split at h
      · omega
      · obtain ⟨j, rfl⟩ : ∃ j, k = j + 1 := by
          rcases k with _ | j
          · exfalso
            rename_i hne
            have : Lib.indexByte l 44 = -1 := by omega
            simp [this] at hne
          · exact ⟨j, rfl⟩
        obtain ⟨h1, h2⟩ := ih (k := j) (by omega)
        have hc' : c ≠ 44 := by simpa using hc
        refine ⟨by simp; omega, ?_⟩
        simp [cuts, hc', h2]

theorem indexByte_ge (l : List UInt8) (c : UInt8) : -1 ≤ Lib.indexByte l c ∧ Lib.indexByte l c < l.length := by
  induction l with
  | nil => simp [Lib.indexByte]
  | cons b l ih =>
    unfold Lib.indexByte
    simp only [List.length_cons]
    split
    · omega
    · split <;> omega

theorem not_mem_of_indexByte {l : List UInt8} {c : UInt8} (h : Lib.indexByte l c = -1) : ∀ x ∈ l, x ≠ c := by
  induction l with
  | nil => intro x hx; cases hx
  | cons b l ih =>
    unfold Lib.indexByte at h
    have hg := (indexByte_ge l c).1
    split at h
    · omega
    · rename_i hb
      split at h
      · rename_i h1
        intro x hx
        rcases List.mem_cons.1 hx with rfl | hx
        · simpa using hb
        · exact ih (by simpa using h1) x hx
      · rename_i h1
        exfalso
        have : Lib.indexByte l c ≠ -1 := by simpa using h1
        omega

theorem cut_none {l : List UInt8} (h : Lib.indexByte l 44 = -1) : cuts l = [l] := cuts_one (not_mem_of_indexByte h)
theorem joinlen_cuts : ∀ (l : List UInt8), ((cuts l).map List.length).sum + (cuts l).length = l.length + 1
  | [] => by simp [cuts]
  | c :: l => by
    have ih := joinlen_cuts l
    unfold cuts
    split
    · simp; omega
    · have := cuts_ne l
      revert ih this
      cases cuts l with
      | nil => intro _ h; exact absurd rfl h
      | cons a as => intro ih _; simp at ih ⊢; omega
theorem cuts_tail {a b : List UInt8} {xs : List (List UInt8)} (h : cuts a = xs ++ cuts b) : b.length ≤ a.length := by
  have h1 := joinlen_cuts a
  have h2 := joinlen_cuts b
  rw [h] at h1
  simp at h1
  omega
end M
end Go.Proofs.YtjpflljmeaihgaaDoor
