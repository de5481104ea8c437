/-
  Mathematics of what is printed: where its point stands, and what stands behind it.
-/
import Derived.Test.YtahhgphlfodonaaDoorStpMath
namespace Go.Proofs.YtahhgphlfodonaaDoor
namespace M
open Go.Lib (decDigits nDigits)

def isPt (c : UInt8) : Bool := c == 46
theorem pt_of_dig {c : UInt8} (h : isDig c = true) : isPt c = false := by
  have := (dig_not h).1
  unfold isPt
  simpa using this
/-- What is ahead of the point has none. -/
theorem front_none (b : Bool) (A : Nat) : ∀ c ∈ (if b = true then [45] else []) ++ decDigits A, isPt c = false := by
  intro c hc
  rcases List.mem_append.1 hc with h | h
  · cases b with
    | true => simp at h; subst h; rfl
    | false => simp at h
  · exact pt_of_dig (decDigits_dig A c h)
theorem getLast_trim {n : Nat} (h : 0 < n) : ∃ c, (trim0 (pad9 n)).getLast? = some c ∧ c ≠ 48 ∧ c ≠ 46 := by
  have hne := trim_ne h
  refine ⟨_, List.getLast?_eq_some_getLast hne, trim0_last (List.getLast?_eq_some_getLast hne), ?_⟩
  have h1 := List.all_eq_true.1 (trim_all n) _ (List.getLast_mem hne)
  intro e
  rw [e] at h1
  exact absurd h1 (by decide)

/-- A text without a point, where there are no billionths. -/
theorem pr_whole {t : Tm} (h : Ok t) (h0 : t.2 = 0) : ∀ c ∈ pr t, isPt c = false := by
  obtain ⟨_, _, _, _, p5⟩ := sgn_parts h
  have e : pr t = (if below0 t = true then [45] else []) ++ decDigits (sgn (below0 t) t).1.toNat := by
    unfold pr fracText
    rw [p5.2 h0]
    simp
  rw [e]
  exact front_none _ _
/-- A text with one: what is ahead of it has none; behind it stand at most nine, and the last is no nought. -/
theorem pr_point {t : Tm} (h : Ok t) (h0 : t.2 ≠ 0) : ∃ f g c, pr t = f ++ 46 :: g ∧ (∀ x ∈ f, isPt x = false) ∧ g.length ≤ 9 ∧ (pr t).getLast? = some c ∧ c ≠ 48 ∧ c ≠ 46 := by
  obtain ⟨_, _, p3, p4, p5⟩ := sgn_parts h
  have hn : (sgn (below0 t) t).2 ≠ 0 := fun e => h0 (p5.1 e)
  have hpos : 0 < (sgn (below0 t) t).2.toNat := by omega
  obtain ⟨c, hc, h1, h2⟩ := getLast_trim hpos
  have e : pr t = ((if below0 t = true then [45] else []) ++ decDigits (sgn (below0 t) t).1.toNat) ++ 46 :: trim0 (pad9 (sgn (below0 t) t).2.toNat) := by
    unfold pr fracText
    rw [if_neg (show ¬ (sgn (below0 t) t).2.toNat = 0 by omega), List.append_assoc]
  refine ⟨_, _, c, e, front_none _ _, trim_len (by omega), ?_, h1, h2⟩
  rw [e, List.getLast?_append, List.getLast?_cons, hc]
  simp
/-- How long a text is. -/
theorem pr_len {t : Tm} (h : Ok t) : 1 ≤ (pr t).length ∧ (pr t).length ≤ 26 := by
  obtain ⟨p1, p2, p3, p4, p5⟩ := sgn_parts h
  have hd : (decDigits (sgn (below0 t) t).1.toNat).length ≤ 15 := by rw [Lib.decDigits_length]; exact dec_len (by omega) (by omega)
  have hd2 : 1 ≤ (decDigits (sgn (below0 t) t).1.toNat).length := by rw [Lib.decDigits_length]; exact Lib.nDigits_pos _
  have hf : (fracText (sgn (below0 t) t).2.toNat).length ≤ 10 := by
    unfold fracText
    split
    · simp
    · rw [List.length_cons]
      have := trim_len (n := (sgn (below0 t) t).2.toNat) (by omega)
      omega
  have hs : (if below0 t = true then ([45] : List UInt8) else []).length ≤ 1 := by split <;> simp
  unfold pr
  rw [List.length_append, List.length_append]
  omega
end M
end Go.Proofs.YtahhgphlfodonaaDoor
