/-
  Records that came in: what they are, and that their amount is bounded where their bulk is.
-/
import Derived.Test.YtefkgkdocglgaaaDoorPaxRow
import Derived.Test.YtefkgkdocglgaaaDoorPaxSame
import Derived.Deep.SlicePairs
namespace Go.Proofs.YtefkgkdocglgaaaDoor
open Go.RowKit Go.WideShapes Go.ChangeShapes Go.Deep

theorem amount_cons (r : R2) (l : List R2) : amount (r :: l) = 1 + (r.1.size + r.2.size) + amount l := by
  unfold amount
  rw [List.length_cons, List.map_cons, List.sum_cons]
  omega

theorem amount_bulk {H : Type} (S0 S1 : Nat → ByteArray) (D0 D1 : Nat → DataW H) : ∀ is : List Nat, (∀ i ∈ is, D0 i = .lit (.string (S0 i).data.toList) ∧ D1 i = .lit (.string (S1 i).data.toList)) →
    amount (is.map fun i => (S0 i, S1 i)) ≤ Rows.uptoBulkAll (is.map fun i => DataW.agg [D0 i, D1 i])
  | [], _ => by simp [amount]
  | i :: is, h => by
    have ih := amount_bulk S0 S1 D0 D1 is fun j hj => h j (List.mem_cons_of_mem _ hj)
    obtain ⟨h0, h1⟩ := h i (by simp)
    rw [List.map_cons, List.map_cons, amount_cons]
    simp only [Rows.uptoBulkAll, Rows.uptoBulk, h0, h1]
    have e0 : (S0 i).data.toList.length = (S0 i).size := rfl
    have e1 : (S1 i).data.toList.length = (S1 i).size := rfl
    rw [e0, e1]
    omega

theorem open_recs {H : Type} {enc : TypeId × Value → H} {W : World} {A : Option Addr} {n c : Nat} {d : DataW H} {p : List MemPlace} (h : DataW.Trod enc Tryd.prog W 0 (fun _ => true) true 23 (.slice A n c) d p) :
    ∃ l : List R2, l.length = n ∧ RdR W W.heap.size A l ∧ amount l ≤ Rows.uptoBulk d := by
  obtain ⟨fuel, hf⟩ := h
  rcases open_slice_pairs Tryd.underlying23 Tryd.underlying45 (by kernel_rfl) rfl rfl (by kernel_rfl) (by kernel_rfl) hf with ⟨hcs, hx⟩ | ⟨a, len, cap, m, n', V0, V1, D0, D1, P0, P1, hcs, _, hl, hm, hmm, hx, hi⟩
  · simp [Value.cells] at hcs
    obtain ⟨rfl, rfl, rfl⟩ := hcs
    exact ⟨[], rfl, RdR.none_, by simp [amount]⟩
  · simp [Value.cells] at hcs
    obtain ⟨rfl, rfl, rfl⟩ := hcs
    have hm' : m = c := by simpa using hmm
    have hs : ∀ i, i < n → ∃ q : ByteArray × ByteArray, W.cell? (a.add (i * 2)) = some (.string q.1) ∧ W.cell? (a.add (i * 2 + 1)) = some (.string q.2) ∧ D0 i = .lit (.string q.1.data.toList) ∧ D1 i = .lit (.string q.2.data.toList) := by
      intro i hin
      obtain ⟨hc0, hc1, ht0, ht1⟩ := hi i (by omega)
      obtain ⟨s, e0, x0, _⟩ := DataW.trod_string Tryd.underlying9 ht0
      obtain ⟨t, e1, x1, _⟩ := DataW.trod_string Tryd.underlying9 ht1
      injection e0 with e0
      injection e1 with e1
      simp only [Prod.mk.injEq] at x0 x1
      exact ⟨(s, t), by rw [hc0, e0], by rw [hc1, e1], x0.1, x1.1⟩
    obtain ⟨S, hS⟩ := choose_lt hs
    refine ⟨(List.range n).map fun i => ((S i).1, (S i).2), by simp, fun hn => ?_, ?_⟩
    · have hn' : 0 < n := by simpa using hn
      obtain ⟨b, off, spot⟩ := a
      have hc := (hS 0 hn').1
      have hspot : spot = none := by simpa [Addr.add] using World.cell?_spot hc
      subst hspot
      have hb : b < W.heap.size := by
        have hc' := hc
        rw [add_mk] at hc'
        exact World.block_lt_of_cell? _ _ hc'
      refine ⟨b, off, rfl, hb, fun k r hr => ?_⟩
      obtain ⟨hk, hr⟩ := List.getElem?_eq_some_iff.1 hr
      have hkn : k < n := by simpa using hk
      simp only [List.getElem_map, List.getElem_range] at hr
      subst hr
      obtain ⟨g0, g1, _, _⟩ := hS k hkn
      rw [add_mk] at g0 g1
      exact ⟨g0, by rw [Nat.add_assoc]; exact g1⟩
    · simp only [Prod.mk.injEq] at hx
      rw [hx.1]
      have hb := amount_bulk (fun i => (S i).1) (fun i => (S i).2) D0 D1 (List.range n) fun i hin => by
        obtain ⟨_, _, h0, h1⟩ := hS i (List.mem_range.1 hin)
        exact ⟨h0, h1⟩
      simp only [Rows.uptoBulk]
      omega
end Go.Proofs.YtefkgkdocglgaaaDoor
