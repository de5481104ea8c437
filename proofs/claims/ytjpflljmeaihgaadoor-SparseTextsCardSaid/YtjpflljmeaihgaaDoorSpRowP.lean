/-
  Parts that came in: what they are.
-/
import Derived.Test.YtjpflljmeaihgaaDoorSpRow
import Derived.Deep.SlicePairs
import Derived.Stop.Joined
namespace Go.Proofs.YtjpflljmeaihgaaDoor
open Go.RowKit Go.WideShapes Go.ChangeShapes Go.Deep

theorem i64_bounds {n : Int} (h : (Lit.int .i64 n).wf = true) : -9223372036854775808 ≤ n ∧ n ≤ 9223372036854775807 := bounds_i64 h
theorem open_parts {H : Type} {enc : TypeId × Value → H} {W : World} {A : Option Addr} {n c : Nat} {d : DataW H} {p : List MemPlace} (h : DataW.Trod enc Tryd.prog W 0 (fun _ => true) true 24 (.slice A n c) d p) :
    ∃ l : List M.Pt, RdP W W.heap.size A n l ∧ M.i64s l ∧ n ≤ maxLen := by
  obtain ⟨fuel, hf⟩ := h
  rcases open_slice_pairs Tryd.underlying24 Tryd.underlying29 (by kernel_rfl) rfl rfl (by kernel_rfl) (by kernel_rfl) hf with ⟨hcs, hx⟩ | ⟨a, len, cap, m, n', V0, V1, D0, D1, P0, P1, hcs, _, hl, hm, hmm, hx, hi⟩
  · simp [Value.cells] at hcs
    obtain ⟨rfl, rfl, rfl⟩ := hcs
    exact ⟨[], RdP.none_, (fun p hp => absurd hp (by simp)), Nat.zero_le _⟩
  · simp [Value.cells] at hcs
    obtain ⟨rfl, rfl, rfl⟩ := hcs
    have hm' : m = c := by simpa using hmm
    have hs : ∀ i, i < n → ∃ q : Int × Int, W.cell? (a.add (i * 2)) = some (.int .i64 q.1) ∧ W.cell? (a.add (i * 2 + 1)) = some (.int .i64 q.2) ∧ (Lit.int .i64 q.1).wf = true ∧ (Lit.int .i64 q.2).wf = true := by
      intro i hin
      obtain ⟨hc0, hc1, ht0, ht1⟩ := hi i (by omega)
      obtain ⟨s, e0, _, w0⟩ := DataW.trod_int Tryd.underlying3 ht0
      obtain ⟨t, e1, _, w1⟩ := DataW.trod_int Tryd.underlying3 ht1
      injection e0 with e0
      injection e1 with e1
      exact ⟨(s, t), by rw [hc0, e0], by rw [hc1, e1], w0, w1⟩
    obtain ⟨S, hS⟩ := choose_lt hs
    refine ⟨(List.range n).map S, ⟨by simp, fun hn => ?_⟩, ?_, Nat.le_trans hl hm⟩
    · obtain ⟨b, off, spot⟩ := a
      have hc := (hS 0 hn).1
      have hspot : spot = none := by simpa [Addr.add] using World.cell?_spot hc
      subst hspot
      have hadd : ∀ k : Nat, (⟨b, off, none⟩ : Addr).add k = ⟨b, off + k, none⟩ := by
        intro k
        unfold Addr.add
        split
        · rename_i h0; subst h0; rfl
        · rfl
      have hb : b < W.heap.size := by
        have hc' := hc
        rw [hadd] at hc'
        exact World.block_lt_of_cell? _ _ hc'
      refine ⟨b, off, rfl, hb, fun k r hr => ?_⟩
      obtain ⟨hk, hr⟩ := List.getElem?_eq_some_iff.1 hr
      have hkn : k < n := by simpa using hk
      simp only [List.getElem_map, List.getElem_range] at hr
      subst hr
      obtain ⟨g0, g1, _, _⟩ := hS k hkn
      rw [hadd] at g0 g1
      exact ⟨g0, by rw [Nat.add_assoc]; exact g1⟩
    · intro q hq
      obtain ⟨i, hin, rfl⟩ := List.mem_map.1 hq
      obtain ⟨_, _, w0, w1⟩ := hS i (List.mem_range.1 hin)
      exact ⟨i64_bounds w0, i64_bounds w1⟩
end Go.Proofs.YtjpflljmeaihgaaDoor
