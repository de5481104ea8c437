/-
  A row of pairs that is sifted in place.
-/
import Derived.Test.YtlpblnioodcbnaaGreatDoorMtHoles
import Derived.Test.YtlpblnioodcbnaaGreatDoorMtGive
set_option linter.unusedVariables false
set_option linter.unusedSimpArgs false
namespace Go.Proofs.YtlpblnioodcbnaaGreatDoor
open Go.RowKit Go.Lib

def At2 (C : Array Value) (k : Nat) (x : Value × Value) : Prop := C[k * 2]? = some x.1 ∧ C[k * 2 + 1]? = some x.2
structure Sift (C : Array Value) (cap : Nat) (F L : List (Value × Value)) (j : Nat) : Prop where
  size : C.size = cap * 2
  front : ∀ (k : Nat) (x : Value × Value), F[k]? = some x → At2 C k x
  rest : ∀ (k : Nat) (x : Value × Value), j ≤ k → L[k]? = some x → At2 C k x
theorem Sift.skip {C : Array Value} {cap j : Nat} {F L : List (Value × Value)} (h : Sift C cap F L j) : Sift C cap F L (j + 1) := ⟨h.size, h.front, fun k x hk => h.rest k x (by omega)⟩
theorem Sift.put {C : Array Value} {cap j : Nat} {F L : List (Value × Value)} (h : Sift C cap F L j) (x : Value × Value) (hF : F.length ≤ j) (hj : j < cap) :
    Sift ((C.set! (F.length * 2) x.1).set! (F.length * 2 + 1) x.2) cap (F ++ [x]) L (j + 1) := by
  have hs := h.size
  have get : ∀ i, ((C.set! (F.length * 2) x.1).set! (F.length * 2 + 1) x.2)[i]? = if i = F.length * 2 + 1 then some x.2 else if i = F.length * 2 then some x.1 else C[i]? := by
    intro i
    rw [Array.set!_eq_setIfInBounds, Array.set!_eq_setIfInBounds, Array.getElem?_setIfInBounds, Array.getElem?_setIfInBounds, Array.size_setIfInBounds]
    by_cases h1 : F.length * 2 + 1 = i
    · rw [if_pos h1, if_pos (by omega)]
      rw [if_pos h1.symm]
    · rw [if_neg h1]
      by_cases h2 : F.length * 2 = i
      · rw [if_pos h2, if_pos (by omega)]
        rw [if_neg (fun e => h1 e.symm), if_pos h2.symm]
      · rw [if_neg h2]
        rw [if_neg (fun e => h1 e.symm), if_neg (fun e => h2 e.symm)]
  refine ⟨by simp [hs], fun k y hk => ?_, fun k y hk hy => ?_⟩
  · rw [List.getElem?_append] at hk
    by_cases hlt : k < F.length
    · rw [if_pos hlt] at hk
      have := h.front k y hk
      exact ⟨by rw [get, if_neg (by omega), if_neg (by omega)]; exact this.1, by rw [get, if_neg (by omega), if_neg (by omega)]; exact this.2⟩
    · rw [if_neg hlt] at hk
      obtain rfl : k = F.length := by
        have : k - F.length < 1 := by
          have := (List.getElem?_eq_some_iff.1 hk).1
          simpa using this
        omega
      rw [Nat.sub_self] at hk
      simp only [List.getElem?_cons_zero, Option.some.injEq] at hk
      subst hk
      exact ⟨by rw [get, if_neg (by omega), if_pos rfl], by rw [get, if_pos rfl]⟩
  · have := h.rest k y (by omega) hy
    exact ⟨by rw [get, if_neg (by omega), if_neg (by omega)]; exact this.1, by rw [get, if_neg (by omega), if_neg (by omega)]; exact this.2⟩
def flat2 (L : List (Value × Value)) : List Value := L.flatMap fun x => [x.1, x.2]
theorem flat2_len (L : List (Value × Value)) : (flat2 L).length = L.length * 2 := by
  induction L with
  | nil => rfl
  | cons x L ih => unfold flat2 at ih ⊢; rw [List.flatMap_cons, List.length_append, ih, List.length_cons]; simp; omega
theorem flat2_at : ∀ {L : List (Value × Value)} {k : Nat} {x : Value × Value}, L[k]? = some x → (flat2 L)[k * 2]? = some x.1 ∧ (flat2 L)[k * 2 + 1]? = some x.2
  | [], k, x, h => by simp at h
  | y :: L, 0, x, h => by
    simp at h; subst h
    exact ⟨rfl, rfl⟩
  | y :: L, k + 1, x, h => by
    have ih := flat2_at (L := L) (k := k) (x := x) (by simpa using h)
    have e : flat2 (y :: L) = y.1 :: y.2 :: flat2 L := rfl
    rw [e, show (k + 1) * 2 = k * 2 + 1 + 1 by omega]
    exact ⟨by simpa using ih.1, by simpa using ih.2⟩
theorem sift_of_flat {C : Array Value} {cap n : Nat} {L : List (Value × Value)} (hs : C.size = cap * 2) (hn : L.length = n) (ht : C.toList.take (n * 2) = flat2 L) (j : Nat) (F : List (Value × Value)) (hF : ∀ (k : Nat) (x : Value × Value), F[k]? = some x → L[k]? = some x) : Sift C cap F L j := by
  have key : ∀ (k : Nat) (x : Value × Value), L[k]? = some x → At2 C k x := by
    intro k x hk
    have hl : k < n := by rw [← hn]; exact (List.getElem?_eq_some_iff.1 hk).1
    obtain ⟨h1, h2⟩ := flat2_at hk
    have i1 : k * 2 < n * 2 := by omega
    have i2 : k * 2 + 1 < n * 2 := by omega
    rw [← ht, List.getElem?_take, if_pos i1] at h1
    rw [← ht, List.getElem?_take, if_pos i2] at h2
    exact ⟨by simpa using h1, by simpa using h2⟩
  exact ⟨hs, fun k x hk => key k x (hF k x hk), fun k x _ hk => key k x hk⟩
theorem flat_of_front {C : Array Value} {F : List (Value × Value)} (h : ∀ (k : Nat) (x : Value × Value), F[k]? = some x → At2 C k x) : C.toList.take (F.length * 2) = flat2 F := by
  refine List.ext_getElem? fun i => ?_
  rw [List.getElem?_take]
  by_cases hi : i < F.length * 2
  · rw [if_pos hi]
    have hk : i / 2 < F.length := by omega
    have hx := List.getElem?_eq_getElem hk
    obtain ⟨h1, h2⟩ := h _ _ hx
    obtain ⟨h3, h4⟩ := flat2_at hx
    rcases Nat.mod_two_eq_zero_or_one i with he | he
    · have e : i / 2 * 2 = i := by omega
      rw [e] at h1 h3
      rw [h3, ← h1]; simp
    · have e : i / 2 * 2 + 1 = i := by omega
      rw [e] at h2 h4
      rw [h4, ← h2]; simp
  · rw [if_neg hi, List.getElem?_eq_none (by rw [flat2_len]; omega)]
structure DI (w wx : World) (g cap : Nat) (T : TypeId) (F L : List (Value × Value)) (j : Nat) : Prop where
  row : ∃ C, wx.heap[g]? = some (.cells C T (0, 0)) ∧ Sift C cap F L j
  fg : Fg g w wx
  lt : g < w.heap.size
end Go.Proofs.YtlpblnioodcbnaaGreatDoor
