/-
  What ChartOdd and ChartBack share.
-/
import Derived.Test.YthejomfchjlcnaaChLawS
set_option linter.unusedVariables false
set_option linter.unusedSimpArgs false
namespace Go.Proofs.Ythejomfchjlcnaa
open Go.RowKit Go.Lib

namespace C
def fO (z : Int) : Int := 1 + z % 9
theorem fO_bd (z : Int) : 1 ≤ fO z ∧ fO z ≤ 9 := by unfold fO; omega
theorem cls_map (l : List Int) : Cls (l.map fO) := by
  intro y hy
  obtain ⟨z, _, rfl⟩ := List.mem_map.1 hy
  exact fO_bd z
theorem cls_go_bd (r : List Int) : ∀ (f : Nat) (c : Int) (t : Nat), 1 ≤ c → c ≤ 9 → Cls r → ∀ s ∈ go r f c t, 1 ≤ s.2.2 ∧ s.2.2 ≤ 9 := by
  induction r with
  | nil =>
    intro f c t h1 h2 _ s hs
    simp only [go, List.mem_singleton] at hs
    subst hs
    exact ⟨h1, h2⟩
  | cons x r ih =>
    intro f c t h1 h2 h3
    have hx := h3 x (by simp)
    have hr : Cls r := fun y hy => h3 y (List.mem_cons_of_mem _ hy)
    unfold go
    split
    · exact ih f c (t + 1) h1 h2 hr
    · intro s hs
      rcases List.mem_cons.1 hs with rfl | hs
      · exact ⟨h1, h2⟩
      · exact ih t x (t + 1) hx.1 hx.2 hr s hs
theorem spans_cls {l : List Int} (h : Cls l) : ∀ s ∈ spans l, 1 ≤ s.2.2 ∧ s.2.2 ≤ 9 := by
  cases l with
  | nil => intro s hs; simp [spans] at hs
  | cons x r =>
    have hx := h x (by simp)
    exact cls_go_bd r 0 x 1 hx.1 hx.2 (fun y hy => h y (List.mem_cons_of_mem _ hy))
theorem fit_set {n : Nat} {l : List Sp} {i : Nat} {s : Sp} {d : Int} (h : Fit n l) (hs : l[i]? = some s) : Fit n (l.set i (s.1, s.2.1, d)) := by
  intro x hx
  rcases List.mem_or_eq_of_mem_set hx with hx | rfl
  · exact h x hx
  · exact h s (List.mem_of_getElem? hs)
theorem fit_more {n m : Nat} {l : List Sp} (h : Fit n l) (hm : n ≤ m) : Fit m l := fun s hs => by have := h s hs; omega
end C

/-- An own row's span at an index: its cells; what it is behind a store. -/
theorem OwnS.there {w : World} {base : Nat} {v : Value} {l : List C.Sp} (h : OwnS w base v l) {k : Nat} {p : C.Sp} (hk : l[k]? = some p) :
    ∃ g c, v = .slice (some ⟨g, 0, none⟩) l.length c ∧ base ≤ g ∧ g < w.heap.size ∧ k < l.length ∧ l.length ≤ c ∧ (w.cell? ⟨g, k * 3, none⟩ = some (.int .i64 p.1) ∧ w.cell? ⟨g, k * 3 + 1, none⟩ = some (.int .i64 p.2.1) ∧ w.cell? ⟨g, k * 3 + 2, none⟩ = some (.int .i64 p.2.2)) ∧
      (∀ i, w.frozen? ⟨g, i, none⟩ = false) ∧ (∀ z, OwnS (w.setCell ⟨g, k * 3, none⟩ (.int .i64 z)) base v (l.set k (z, p.2))) ∧ (∀ z, OwnS (w.setCell ⟨g, k * 3 + 2, none⟩ (.int .i64 z)) base v (l.set k (p.1, p.2.1, z))) := by
  have hkl := (List.getElem?_eq_some_iff.1 hk).1
  obtain ⟨g, cap, hv, hb, hlt⟩ := World.ownsRow.form h (by omega)
  obtain ⟨A, c, hv2, hrd, hc, _⟩ := h.rd
  subst hv
  injection hv2 with e1 e2 e3
  subst e1
  subst e3
  obtain ⟨b, off, q, hA, _, hq, c1, c2, c3⟩ := hrd.at_ hkl
  injection hA with hA
  injection hA with hA1 hA2
  subst hA1
  subst hA2
  obtain rfl : p = q := by rw [hk] at hq; injection hq
  rw [Nat.zero_add] at c1 c2 c3
  refine ⟨g, cap, rfl, hb, hlt, hkl, hc, ⟨c1, c2, c3⟩, fun i => World.ownsRow.frozenAt (g := g) (n := l.length) (cap := cap) h i, fun z => ?_, fun z => ?_⟩
  · have h3 := (OwnS.stored h k p hk).1 z
    rw [show 3 * k = k * 3 by omega] at h3
    exact h3
  · have h3 := (OwnS.stored h k p hk).2.2 z
    rw [show 3 * k + 2 = k * 3 + 2 by omega] at h3
    exact h3

end Go.Proofs.Ythejomfchjlcnaa
