/-
  What came in of a member: its ranges, and its amount.
-/
import Derived.Test.YtgbgngdakkiclaaGreatDoorWrWrites
import Derived.WalkKit
import Derived.ProofKit
import Derived.OpenShut
import Derived.ShutString
import Derived.ChangeOld
import Derived.ChangeSame
import Derived.LaidMore
import Derived.Lib.LaidTab
import Derived.MakeChecks
import Derived.Stop.LaidErr
import Derived.Deep.SlicePairs
import Derived.Stop.Joined
import Derived.Lib.SmallJoins
set_option linter.unusedVariables false
set_option linter.unusedSimpArgs false
namespace Go.Proofs.YtgbgngdakkiclaaGreatDoor
open Go.RowKit Go.WideShapes Go.ChangeShapes Go.Deep Go.Joins
open Px (R2)

theorem add_plain' (b off n : Nat) : Addr.add ⟨b, off, none⟩ n = ⟨b, off + n, none⟩ := by
  unfold Addr.add
  split
  · rename_i h; subst h; rfl
  · rfl
theorem open_parts {H : Type} {enc : TypeId × Value → H} {W : World} {A : Option Addr} {n c : Nat} {d : DataW H} {p : List MemPlace} (h : DataW.Trod enc Tryz.prog W 0 (fun _ => true) true 32 (.slice A n c) d p) :
    ∃ l : List (Int × Int), Sp.RdP W W.heap.size A n l ∧ Sp.M.i64s l ∧ n ≤ maxLen := by
  obtain ⟨fuel, hf⟩ := h
  rcases open_slice_pairs Tryz.underlying32 Tryz.underlying113 (by kernel_rfl) rfl rfl (by kernel_rfl) (by kernel_rfl) hf with ⟨hcs, hx⟩ | ⟨a, len, cap, m, n', V0, V1, D0, D1, P0, P1, hcs, _, hl, hm, hmm, hx, hi⟩
  · simp [Value.cells] at hcs
    obtain ⟨rfl, rfl, rfl⟩ := hcs
    exact ⟨[], Sp.RdP.none_, (fun p hp => absurd hp (by simp)), Nat.zero_le _⟩
  · simp [Value.cells] at hcs
    obtain ⟨rfl, rfl, rfl⟩ := hcs
    have hm' : m = c := by simpa using hmm
    have hs : ∀ i, i < n → ∃ q : Int × Int, W.cell? (a.add (i * 2)) = some (.int .i64 q.1) ∧ W.cell? (a.add (i * 2 + 1)) = some (.int .i64 q.2) ∧ (Lit.int .i64 q.1).wf = true ∧ (Lit.int .i64 q.2).wf = true := by
      intro i hin
      obtain ⟨hc0, hc1, ht0, ht1⟩ := hi i (by omega)
      obtain ⟨s, e0, _, w0⟩ := DataW.trod_int Tryz.underlying3 ht0
      obtain ⟨t, e1, _, w1⟩ := DataW.trod_int Tryz.underlying3 ht1
      injection e0 with e0
      injection e1 with e1
      exact ⟨(s, t), by rw [hc0, e0], by rw [hc1, e1], w0, w1⟩
    obtain ⟨S, hS⟩ := choose_lt hs
    refine ⟨(List.range n).map S, ⟨by simp, fun hn => ?_⟩, ?_, Nat.le_trans hl hm⟩
    · obtain ⟨b, off, spot⟩ := a
      have hc := (hS 0 hn).1
      have hspot : spot = none := by simpa [Addr.add] using World.cell?_spot hc
      subst hspot
      have hadd : ∀ k : Nat, (⟨b, off, none⟩ : Addr).add k = ⟨b, off + k, none⟩ := by
        intro k
        unfold Addr.add
        split
        · rename_i h0; subst h0; rfl
        · rfl
      have hb : b < W.heap.size := by
        have hc' := hc
        rw [hadd] at hc'
        exact World.block_lt_of_cell? _ _ hc'
      refine ⟨b, off, rfl, hb, fun k r hr => ?_⟩
      obtain ⟨hk, hr⟩ := List.getElem?_eq_some_iff.1 hr
      have hkn : k < n := by simpa using hk
      simp only [List.getElem_map, List.getElem_range] at hr
      subst hr
      obtain ⟨g0, g1, _, _⟩ := hS k hkn
      rw [hadd] at g0 g1
      exact ⟨g0, by rw [Nat.add_assoc]; exact g1⟩
    · intro q hq
      obtain ⟨i, hin, rfl⟩ := List.mem_map.1 hq
      obtain ⟨_, _, w0, w1⟩ := hS i (List.mem_range.1 hin)
      exact ⟨bounds_i64 w0, bounds_i64 w1⟩
theorem array17 {α : Type} {cs : Array α} (h : cs.size = 17) : ∃ c0 c1 c2 c3 c4 c5 c6 c7 c8 c9 c10 c11 c12 c13 c14 c15 c16, cs = #[c0, c1, c2, c3, c4, c5, c6, c7, c8, c9, c10, c11, c12, c13, c14, c15, c16] := by
  obtain ⟨l⟩ := cs
  match l, h with
  | [c0, c1, c2, c3, c4, c5, c6, c7, c8, c9, c10, c11, c12, c13, c14, c15, c16], _ => exact ⟨c0, c1, c2, c3, c4, c5, c6, c7, c8, c9, c10, c11, c12, c13, c14, c15, c16, rfl⟩
theorem cells_meta : Tryz.prog.cellsOf 35 = 17 := by kernel_rfl
theorem cells_str : Tryz.prog.cellsOf 9 = 1 := by kernel_rfl
theorem cells_int : Tryz.prog.cellsOf 3 = 1 := by kernel_rfl
theorem cells_u8 : Tryz.prog.cellsOf 5 = 1 := by kernel_rfl
theorem cells_bool : Tryz.prog.cellsOf 4 = 1 := by kernel_rfl
theorem cells_time : Tryz.prog.cellsOf 31 = 2 := by kernel_rfl
theorem cells_parts : Tryz.prog.cellsOf 32 = 1 := by kernel_rfl
theorem cells_recs : Tryz.prog.cellsOf 33 = 1 := by kernel_rfl

theorem amR_cons (r : R2) (l : List R2) : amR (r :: l) = 1 + (r.1.size + r.2.size) + amR l := by
  unfold amR
  rw [List.map_cons, List.sum_cons]
theorem aggs_bulk {H : Type} (D0 D1 : Nat → DataW H) : ∀ is : List Nat, is.length ≤ Rows.uptoBulkAll (is.map fun i => DataW.agg [D0 i, D1 i])
  | [] => Nat.zero_le _
  | i :: is => by
    have := aggs_bulk D0 D1 is
    simp only [List.map_cons, List.length_cons, Rows.uptoBulkAll, Rows.uptoBulk]
    omega
theorem parts_bulk {H : Type} {enc : TypeId × Value → H} {W : World} {A : Option Addr} {n c : Nat} {d : DataW H} {p : List MemPlace} (h : DataW.Trod enc Tryz.prog W 0 (fun _ => true) true 32 (.slice A n c) d p) : n ≤ Rows.uptoBulk d := by
  obtain ⟨fuel, hf⟩ := h
  rcases open_slice_pairs Tryz.underlying32 Tryz.underlying113 (by kernel_rfl) rfl rfl (by kernel_rfl) (by kernel_rfl) hf with ⟨hcs, hx⟩ | ⟨a, len, cap, m, n', V0, V1, D0, D1, P0, P1, hcs, _, hl, hm, hmm, hx, hi⟩
  · simp [Value.cells] at hcs
    obtain ⟨rfl, rfl, rfl⟩ := hcs
    exact Nat.zero_le _
  · simp [Value.cells] at hcs
    obtain ⟨rfl, rfl, rfl⟩ := hcs
    simp only [Prod.mk.injEq] at hx
    rw [hx.1]
    have hb := aggs_bulk D0 D1 (List.range n)
    rw [List.length_range] at hb
    simp only [Rows.uptoBulk]
    omega
theorem amR_bulk {H : Type} (S0 S1 : Nat → ByteArray) (D0 D1 : Nat → DataW H) : ∀ is : List Nat, (∀ i ∈ is, D0 i = .lit (.string (S0 i).data.toList) ∧ D1 i = .lit (.string (S1 i).data.toList)) →
    amR (is.map fun i => (S0 i, S1 i)) ≤ Rows.uptoBulkAll (is.map fun i => DataW.agg [D0 i, D1 i])
  | [], _ => by simp [amR]
  | i :: is, h => by
    have ih := amR_bulk S0 S1 D0 D1 is fun j hj => h j (List.mem_cons_of_mem _ hj)
    obtain ⟨h0, h1⟩ := h i (by simp)
    rw [List.map_cons, List.map_cons, amR_cons]
    simp only [Rows.uptoBulkAll, Rows.uptoBulk, h0, h1]
    have e0 : (S0 i).data.toList.length = (S0 i).size := rfl
    have e1 : (S1 i).data.toList.length = (S1 i).size := rfl
    rw [e0, e1]
    omega

theorem open_recsU {H : Type} {enc : TypeId × Value → H} {W : World} {A : Option Addr} {n c : Nat} {d : DataW H} {p : List MemPlace} (h : DataW.Trod enc Tryz.prog W 0 (fun _ => true) true 33 (.slice A n c) d p) :
    ∃ l : List R2, l.length = n ∧ Px.RdR W W.heap.size A l ∧ amR l ≤ Rows.uptoBulk d := by
  obtain ⟨fuel, hf⟩ := h
  rcases open_slice_pairs Tryz.underlying33 Tryz.underlying47 (by kernel_rfl) rfl rfl (by kernel_rfl) (by kernel_rfl) hf with ⟨hcs, hx⟩ | ⟨a, len, cap, m, n', V0, V1, D0, D1, P0, P1, hcs, _, hl, hm, hmm, hx, hi⟩
  · simp [Value.cells] at hcs
    obtain ⟨rfl, rfl, rfl⟩ := hcs
    exact ⟨[], rfl, Px.RdR.none_, by simp [amR]⟩
  · simp [Value.cells] at hcs
    obtain ⟨rfl, rfl, rfl⟩ := hcs
    have hm' : m = c := by simpa using hmm
    have hs : ∀ i, i < n → ∃ q : ByteArray × ByteArray, W.cell? (a.add (i * 2)) = some (.string q.1) ∧ W.cell? (a.add (i * 2 + 1)) = some (.string q.2) ∧ D0 i = .lit (.string q.1.data.toList) ∧ D1 i = .lit (.string q.2.data.toList) := by
      intro i hin
      obtain ⟨hc0, hc1, ht0, ht1⟩ := hi i (by omega)
      obtain ⟨s, e0, x0, _⟩ := DataW.trod_string Tryz.underlying9 ht0
      obtain ⟨t, e1, x1, _⟩ := DataW.trod_string Tryz.underlying9 ht1
      injection e0 with e0
      injection e1 with e1
      simp only [Prod.mk.injEq] at x0 x1
      exact ⟨(s, t), by rw [hc0, e0], by rw [hc1, e1], x0.1, x1.1⟩
    obtain ⟨S, hS⟩ := choose_lt hs
    refine ⟨(List.range n).map fun i => ((S i).1, (S i).2), by simp, fun hn => ?_, ?_⟩
    · have hn' : 0 < n := by simpa using hn
      obtain ⟨b, off, spot⟩ := a
      have hc := (hS 0 hn').1
      have hspot : spot = none := by simpa [Addr.add] using World.cell?_spot hc
      subst hspot
      have hb : b < W.heap.size := by
        have hc' := hc
        rw [add_plain'] at hc'
        exact World.block_lt_of_cell? _ _ hc'
      refine ⟨b, off, rfl, hb, fun k r hr => ?_⟩
      obtain ⟨hk, hr⟩ := List.getElem?_eq_some_iff.1 hr
      have hkn : k < n := by simpa using hk
      simp only [List.getElem_map, List.getElem_range] at hr
      subst hr
      obtain ⟨g0, g1, _, _⟩ := hS k hkn
      rw [add_plain'] at g0 g1
      exact ⟨g0, by rw [Nat.add_assoc]; exact g1⟩
    · simp only [Prod.mk.injEq] at hx
      rw [hx.1]
      have hb := amR_bulk (fun i => (S i).1) (fun i => (S i).2) D0 D1 (List.range n) fun i hin => by
        obtain ⟨_, _, h0, h1⟩ := hS i (List.mem_range.1 hin)
        exact ⟨h0, h1⟩
      simp only [Rows.uptoBulk]
      omega

set_option maxRecDepth 100000 in
set_option maxHeartbeats 4000000 in
theorem open_metaC {H : Type} {enc : TypeId × Value → H} {W : World} {c0 c1 c2 c3 c4 c5 c6 c7 c8 c9 c10 c11 c12 c13 c14 c15 c16 : Value} {d : DataW H} {p : List MemPlace} (h : DataW.Trod enc Tryz.prog W 0 (fun _ => true) true 35 (.agg #[c0, c1, c2, c3, c4, c5, c6, c7, c8, c9, c10, c11, c12, c13, c14, c15, c16]) d p) :
    ∃ (m : M.Met) (P E : Option Addr) (pc ec : Nat), (Value.agg #[c0, c1, c2, c3, c4, c5, c6, c7, c8, c9, c10, c11, c12, c13, c14, c15, c16]) = .agg (mcells m (.slice P m.parts.length pc) (.slice E m.extra.length ec)) ∧ MRaw W m (.slice P m.parts.length pc) (.slice E m.extra.length ec) ∧ m.parts.length + m.name.size + m.link.size + m.user.size + m.group.size + amR m.extra ≤ Rows.uptoBulk d := by
  obtain ⟨fuel, hf⟩ := h
  obtain ⟨xs, n, _, hx, _, hlen, hf⟩ := DataW.trod_struct Tryz.underlying35 hf
  have at_ : ∀ i (hi : i < 16), ∃ y, xs[i]? = some y := fun i hi => ⟨xs[i]'(by rw [hlen]; exact hi), List.getElem?_eq_getElem _⟩
  obtain ⟨y0, hy0⟩ := at_ 0 (by decide)
  have h0 : DataW.trod enc Tryz.prog W 0 (fun _ => true) true n 9 (([c0, c1, c2, c3, c4, c5, c6, c7, c8, c9, c10, c11, c12, c13, c14, c15, c16].drop 0).take (Tryz.prog.cellsOf 9)) = some y0 := (hf 0 _ rfl).trans hy0
  rw [cells_str] at h0
  replace h0 : DataW.trod enc Tryz.prog W 0 (fun _ => true) true n 9 [c0] = some y0 := h0
  obtain ⟨y1, hy1⟩ := at_ 1 (by decide)
  have h1 : DataW.trod enc Tryz.prog W 0 (fun _ => true) true n 9 (([c0, c1, c2, c3, c4, c5, c6, c7, c8, c9, c10, c11, c12, c13, c14, c15, c16].drop 1).take (Tryz.prog.cellsOf 9)) = some y1 := (hf 1 _ rfl).trans hy1
  rw [cells_str] at h1
  replace h1 : DataW.trod enc Tryz.prog W 0 (fun _ => true) true n 9 [c1] = some y1 := h1
  obtain ⟨y2, hy2⟩ := at_ 2 (by decide)
  have h2 : DataW.trod enc Tryz.prog W 0 (fun _ => true) true n 5 (([c0, c1, c2, c3, c4, c5, c6, c7, c8, c9, c10, c11, c12, c13, c14, c15, c16].drop 2).take (Tryz.prog.cellsOf 5)) = some y2 := (hf 2 _ rfl).trans hy2
  rw [cells_u8] at h2
  replace h2 : DataW.trod enc Tryz.prog W 0 (fun _ => true) true n 5 [c2] = some y2 := h2
  obtain ⟨y3, hy3⟩ := at_ 3 (by decide)
  have h3 : DataW.trod enc Tryz.prog W 0 (fun _ => true) true n 3 (([c0, c1, c2, c3, c4, c5, c6, c7, c8, c9, c10, c11, c12, c13, c14, c15, c16].drop 3).take (Tryz.prog.cellsOf 3)) = some y3 := (hf 3 _ rfl).trans hy3
  rw [cells_int] at h3
  replace h3 : DataW.trod enc Tryz.prog W 0 (fun _ => true) true n 3 [c3] = some y3 := h3
  obtain ⟨y4, hy4⟩ := at_ 4 (by decide)
  have h4 : DataW.trod enc Tryz.prog W 0 (fun _ => true) true n 3 (([c0, c1, c2, c3, c4, c5, c6, c7, c8, c9, c10, c11, c12, c13, c14, c15, c16].drop 4).take (Tryz.prog.cellsOf 3)) = some y4 := (hf 4 _ rfl).trans hy4
  rw [cells_int] at h4
  replace h4 : DataW.trod enc Tryz.prog W 0 (fun _ => true) true n 3 [c4] = some y4 := h4
  obtain ⟨y5, hy5⟩ := at_ 5 (by decide)
  have h5 : DataW.trod enc Tryz.prog W 0 (fun _ => true) true n 3 (([c0, c1, c2, c3, c4, c5, c6, c7, c8, c9, c10, c11, c12, c13, c14, c15, c16].drop 5).take (Tryz.prog.cellsOf 3)) = some y5 := (hf 5 _ rfl).trans hy5
  rw [cells_int] at h5
  replace h5 : DataW.trod enc Tryz.prog W 0 (fun _ => true) true n 3 [c5] = some y5 := h5
  obtain ⟨y6, hy6⟩ := at_ 6 (by decide)
  have h6 : DataW.trod enc Tryz.prog W 0 (fun _ => true) true n 9 (([c0, c1, c2, c3, c4, c5, c6, c7, c8, c9, c10, c11, c12, c13, c14, c15, c16].drop 6).take (Tryz.prog.cellsOf 9)) = some y6 := (hf 6 _ rfl).trans hy6
  rw [cells_str] at h6
  replace h6 : DataW.trod enc Tryz.prog W 0 (fun _ => true) true n 9 [c6] = some y6 := h6
  obtain ⟨y7, hy7⟩ := at_ 7 (by decide)
  have h7 : DataW.trod enc Tryz.prog W 0 (fun _ => true) true n 9 (([c0, c1, c2, c3, c4, c5, c6, c7, c8, c9, c10, c11, c12, c13, c14, c15, c16].drop 7).take (Tryz.prog.cellsOf 9)) = some y7 := (hf 7 _ rfl).trans hy7
  rw [cells_str] at h7
  replace h7 : DataW.trod enc Tryz.prog W 0 (fun _ => true) true n 9 [c7] = some y7 := h7
  obtain ⟨y8, hy8⟩ := at_ 8 (by decide)
  have h8 : DataW.trod enc Tryz.prog W 0 (fun _ => true) true n 31 (([c0, c1, c2, c3, c4, c5, c6, c7, c8, c9, c10, c11, c12, c13, c14, c15, c16].drop 8).take (Tryz.prog.cellsOf 31)) = some y8 := (hf 8 _ rfl).trans hy8
  rw [cells_time] at h8
  replace h8 : DataW.trod enc Tryz.prog W 0 (fun _ => true) true n 31 [c8, c9] = some y8 := h8
  obtain ⟨y9, hy9⟩ := at_ 9 (by decide)
  have h9 : DataW.trod enc Tryz.prog W 0 (fun _ => true) true n 3 (([c0, c1, c2, c3, c4, c5, c6, c7, c8, c9, c10, c11, c12, c13, c14, c15, c16].drop 10).take (Tryz.prog.cellsOf 3)) = some y9 := (hf 9 _ rfl).trans hy9
  rw [cells_int] at h9
  replace h9 : DataW.trod enc Tryz.prog W 0 (fun _ => true) true n 3 [c10] = some y9 := h9
  obtain ⟨y10, hy10⟩ := at_ 10 (by decide)
  have h10 : DataW.trod enc Tryz.prog W 0 (fun _ => true) true n 3 (([c0, c1, c2, c3, c4, c5, c6, c7, c8, c9, c10, c11, c12, c13, c14, c15, c16].drop 11).take (Tryz.prog.cellsOf 3)) = some y10 := (hf 10 _ rfl).trans hy10
  rw [cells_int] at h10
  replace h10 : DataW.trod enc Tryz.prog W 0 (fun _ => true) true n 3 [c11] = some y10 := h10
  obtain ⟨y11, hy11⟩ := at_ 11 (by decide)
  have h11 : DataW.trod enc Tryz.prog W 0 (fun _ => true) true n 3 (([c0, c1, c2, c3, c4, c5, c6, c7, c8, c9, c10, c11, c12, c13, c14, c15, c16].drop 12).take (Tryz.prog.cellsOf 3)) = some y11 := (hf 11 _ rfl).trans hy11
  rw [cells_int] at h11
  replace h11 : DataW.trod enc Tryz.prog W 0 (fun _ => true) true n 3 [c12] = some y11 := h11
  obtain ⟨y12, hy12⟩ := at_ 12 (by decide)
  have h12 : DataW.trod enc Tryz.prog W 0 (fun _ => true) true n 3 (([c0, c1, c2, c3, c4, c5, c6, c7, c8, c9, c10, c11, c12, c13, c14, c15, c16].drop 13).take (Tryz.prog.cellsOf 3)) = some y12 := (hf 12 _ rfl).trans hy12
  rw [cells_int] at h12
  replace h12 : DataW.trod enc Tryz.prog W 0 (fun _ => true) true n 3 [c13] = some y12 := h12
  obtain ⟨y13, hy13⟩ := at_ 13 (by decide)
  have h13 : DataW.trod enc Tryz.prog W 0 (fun _ => true) true n 4 (([c0, c1, c2, c3, c4, c5, c6, c7, c8, c9, c10, c11, c12, c13, c14, c15, c16].drop 14).take (Tryz.prog.cellsOf 4)) = some y13 := (hf 13 _ rfl).trans hy13
  rw [cells_bool] at h13
  replace h13 : DataW.trod enc Tryz.prog W 0 (fun _ => true) true n 4 [c14] = some y13 := h13
  obtain ⟨y14, hy14⟩ := at_ 14 (by decide)
  have h14 : DataW.trod enc Tryz.prog W 0 (fun _ => true) true n 32 (([c0, c1, c2, c3, c4, c5, c6, c7, c8, c9, c10, c11, c12, c13, c14, c15, c16].drop 15).take (Tryz.prog.cellsOf 32)) = some y14 := (hf 14 _ rfl).trans hy14
  rw [cells_parts] at h14
  replace h14 : DataW.trod enc Tryz.prog W 0 (fun _ => true) true n 32 [c15] = some y14 := h14
  obtain ⟨y15, hy15⟩ := at_ 15 (by decide)
  have h15 : DataW.trod enc Tryz.prog W 0 (fun _ => true) true n 33 (([c0, c1, c2, c3, c4, c5, c6, c7, c8, c9, c10, c11, c12, c13, c14, c15, c16].drop 16).take (Tryz.prog.cellsOf 33)) = some y15 := (hf 15 _ rfl).trans hy15
  rw [cells_recs] at h15
  replace h15 : DataW.trod enc Tryz.prog W 0 (fun _ => true) true n 33 [c16] = some y15 := h15
  clear hf at_
  obtain ⟨v0, e0, x0, _⟩ := DataW.trod_string Tryz.underlying9 h0
  injection e0 with e0
  subst e0
  obtain ⟨v1, e1, x1, _⟩ := DataW.trod_string Tryz.underlying9 h1
  injection e1 with e1
  subst e1
  obtain ⟨v2, e2, _, w2⟩ := DataW.trod_int Tryz.underlying5 h2
  injection e2 with e2
  subst e2
  obtain ⟨v3, e3, _, w3⟩ := DataW.trod_int Tryz.underlying3 h3
  injection e3 with e3
  subst e3
  obtain ⟨v4, e4, _, w4⟩ := DataW.trod_int Tryz.underlying3 h4
  injection e4 with e4
  subst e4
  obtain ⟨v5, e5, _, w5⟩ := DataW.trod_int Tryz.underlying3 h5
  injection e5 with e5
  subst e5
  obtain ⟨v6, e6, x6, _⟩ := DataW.trod_string Tryz.underlying9 h6
  injection e6 with e6
  subst e6
  obtain ⟨v7, e7, x7, _⟩ := DataW.trod_string Tryz.underlying9 h7
  injection e7 with e7
  subst e7
  obtain ⟨z0, z1, nn, _, _, g0, g1⟩ := trod_struct2 Tryz.underlying31 h8
  replace g0 : DataW.trod enc Tryz.prog W 0 (fun _ => true) true nn 3 ([c8, c9].take (Tryz.prog.cellsOf 3)) = some z0 := g0
  replace g1 : DataW.trod enc Tryz.prog W 0 (fun _ => true) true nn 3 ([c9].take (Tryz.prog.cellsOf 3)) = some z1 := g1
  rw [cells_int] at g0 g1
  obtain ⟨v8, e8, _, w8⟩ := DataW.trod_int Tryz.underlying3 (show DataW.trod enc Tryz.prog W 0 (fun _ => true) true nn 3 [c8] = some z0 from g0)
  obtain ⟨v9, e9, _, w9⟩ := DataW.trod_int Tryz.underlying3 (show DataW.trod enc Tryz.prog W 0 (fun _ => true) true nn 3 [c9] = some z1 from g1)
  injection e8 with e8
  injection e9 with e9
  subst e8 e9
  obtain ⟨v10, e10, _, w10⟩ := DataW.trod_int Tryz.underlying3 h9
  injection e10 with e10
  subst e10
  obtain ⟨v11, e11, _, w11⟩ := DataW.trod_int Tryz.underlying3 h10
  injection e11 with e11
  subst e11
  obtain ⟨v12, e12, _, w12⟩ := DataW.trod_int Tryz.underlying3 h11
  injection e12 with e12
  subst e12
  obtain ⟨v13, e13, _, w13⟩ := DataW.trod_int Tryz.underlying3 h12
  injection e13 with e13
  subst e13
  obtain ⟨v14, e14, _⟩ := DataW.trod_bool Tryz.underlying4 h13
  injection e14 with e14
  subst e14
  obtain ⟨A15, l15, k15, e15⟩ := slice_form Tryz.underlying32 h14
  obtain ⟨A16, l16, k16, e16⟩ := slice_form Tryz.underlying33 h15
  injection e15 with e15
  injection e16 with e16
  subst e15 e16
  have hq14 := parts_bulk ⟨n, (show DataW.trod enc Tryz.prog W 0 (fun _ => true) true n 32 (Value.slice A15 l15 k15).cells.toList = some y14 from h14)⟩
  obtain ⟨P, hP, hPi, _⟩ := open_parts ⟨n, (show DataW.trod enc Tryz.prog W 0 (fun _ => true) true n 32 (Value.slice A15 l15 k15).cells.toList = some y14 from h14)⟩
  obtain ⟨R, hl, hR, hq15⟩ := open_recsU ⟨n, (show DataW.trod enc Tryz.prog W 0 (fun _ => true) true n 33 (Value.slice A16 l16 k16).cells.toList = some y15 from h15)⟩
  have hPl := hP.len
  subst hPl hl
  refine ⟨⟨v0, v1, v2, v3, v4, v5, v6, v7, v8, v9, v10, v11, v12, v13, v14, P, R⟩, A15, A16, k15, k16, rfl, ?_, ?_⟩
  · exact ⟨⟨_, _, rfl, hP⟩, ⟨_, _, rfl, hR⟩, hPi, bounds_u8 w2, bounds_i64 w3, bounds_i64 w4, bounds_i64 w5, bounds_i64 w8, bounds_i64 w9, bounds_i64 w10, bounds_i64 w11, bounds_i64 w12, bounds_i64 w13⟩
  · have hxe : xs = [y0, y1, y2, y3, y4, y5, y6, y7, y8, y9, y10, y11, y12, y13, y14, y15] := by
      apply List.ext_getElem?
      intro k
      rcases Nat.lt_or_ge k 16 with hk | hk
      · have : k = 0 ∨ k = 1 ∨ k = 2 ∨ k = 3 ∨ k = 4 ∨ k = 5 ∨ k = 6 ∨ k = 7 ∨ k = 8 ∨ k = 9 ∨ k = 10 ∨ k = 11 ∨ k = 12 ∨ k = 13 ∨ k = 14 ∨ k = 15 := by omega
        rcases this with rfl | rfl | rfl | rfl | rfl | rfl | rfl | rfl | rfl | rfl | rfl | rfl | rfl | rfl | rfl | rfl <;> assumption
      · rw [List.getElem?_eq_none (by rw [hlen]; exact hk), List.getElem?_eq_none (by exact hk)]
    have hd : d = .agg (xs.map (·.1)) := congrArg Prod.fst hx
    rw [hd, hxe]
    subst x0 x1 x6 x7
    simp only [List.map_cons, List.map_nil, Rows.uptoBulk, Rows.uptoBulkAll]
    have s0 : v0.data.toList.length = v0.size := rfl
    have s1 : v1.data.toList.length = v1.size := rfl
    have s6 : v6.data.toList.length = v6.size := rfl
    have s7 : v7.data.toList.length = v7.size := rfl
    rw [s0, s1, s6, s7]
    show P.length + v0.size + v1.size + v6.size + v7.size + amR R ≤ _
    omega

theorem array18 {α : Type} {cs : Array α} (h : cs.size = 18) : ∃ c0 c1 c2 c3 c4 c5 c6 c7 c8 c9 c10 c11 c12 c13 c14 c15 c16 c17, cs = #[c0, c1, c2, c3, c4, c5, c6, c7, c8, c9, c10, c11, c12, c13, c14, c15, c16, c17] := by
  obtain ⟨l⟩ := cs
  match l, h with
  | [c0, c1, c2, c3, c4, c5, c6, c7, c8, c9, c10, c11, c12, c13, c14, c15, c16, c17], _ => exact ⟨c0, c1, c2, c3, c4, c5, c6, c7, c8, c9, c10, c11, c12, c13, c14, c15, c16, c17, rfl⟩
theorem cells_mem : Tryz.prog.cellsOf 37 = 18 := by kernel_rfl
theorem cells_bytes : Tryz.prog.cellsOf 22 = 1 := by kernel_rfl
theorem mem_types : (Tryz.prog.cellTypes Tryz.prog.depth 37).map (fun ts => (ts.length, ts[17]?)) = some (18, some 22) := by kernel_rfl
set_option maxRecDepth 100000 in
/-- A member's bytes lie in a block that there is. -/
theorem mem_place {W : World} {b0 : Nat} {cs : Array Value} (hv : Value.okWide Tryz.prog W .any b0 37 (.agg cs)) {a : Addr} {len cap : Nat} (h17 : cs[17]? = some (.slice (some a) len cap)) : a.block < W.heap.size := by
  simp only [Value.okWide, Tryz.underlying37] at hv
  obtain ⟨cs', hcs, _, ts, hts, _, hrow⟩ := hv
  injection hcs with hcs
  subst hcs
  have ht := mem_types
  rw [hts] at ht
  simp only [Option.map_some, Option.some.injEq, Prod.mk.injEq] at ht
  obtain ⟨u, hu, hc⟩ := hrow 17 _ h17
  rw [ht.1] at hu
  have hu' : ts[17]? = some u := hu
  rw [ht.2] at hu'
  injection hu' with hu'
  subst hu'
  simp only [Cell.okWide, Cell.ok, Tryz.underlying22] at hc
  obtain ⟨_, _, _, _, row, cells, hsh, _⟩ := hc
  unfold World.shape? at hsh
  rcases Nat.lt_or_ge a.block W.heap.size with h | h
  · exact h
  · rw [Array.getElem?_eq_none h] at hsh
    simp at hsh
theorem lits_bulk {H : Type} (k : IntKind) : ∀ zs : List Int, Rows.uptoBulkAll (lits (H := H) k zs) = zs.length
  | [] => rfl
  | z :: zs => by
    have := lits_bulk (H := H) k zs
    show 1 + Rows.uptoBulkAll (lits (H := H) k zs) = zs.length + 1
    omega
set_option maxRecDepth 100000 in
set_option maxHeartbeats 4000000 in
theorem open_memU {H : Type} {enc : TypeId × Value → H} {W : World} {b0 : Nat} {v : Value} {d : DataW H} {p : List MemPlace} (hv : Value.okWide Tryz.prog W .any b0 37 v) (h : DataW.Trod enc Tryz.prog W 0 (fun _ => true) true 37 v d p) (hb : Rows.uptoBulk d ≤ 1048576) :
    ∃ x : Mb, v = .agg x.cells ∧ WRaw W x := by
  obtain ⟨cs, rfl, hsz⟩ := okWide_struct Tryz.underlying37 hv
  obtain ⟨c0, c1, c2, c3, c4, c5, c6, c7, c8, c9, c10, c11, c12, c13, c14, c15, c16, c17, rfl⟩ := array18 (hsz.trans cells_mem)
  obtain ⟨fuel, hf⟩ := h
  obtain ⟨y0, y1, nn, hx, _, g0, g1⟩ := trod_struct2 Tryz.underlying37 hf
  replace g0 : DataW.trod enc Tryz.prog W 0 (fun _ => true) true nn 35 (([c0, c1, c2, c3, c4, c5, c6, c7, c8, c9, c10, c11, c12, c13, c14, c15, c16, c17].drop 0).take (Tryz.prog.cellsOf 35)) = some y0 := g0
  replace g1 : DataW.trod enc Tryz.prog W 0 (fun _ => true) true nn 22 (([c0, c1, c2, c3, c4, c5, c6, c7, c8, c9, c10, c11, c12, c13, c14, c15, c16, c17].drop 17).take (Tryz.prog.cellsOf 22)) = some y1 := g1
  rw [cells_meta] at g0
  rw [cells_bytes] at g1
  obtain ⟨m, P, E, pc, ec, hm, hraw, hbm⟩ := open_metaC ⟨nn, (show DataW.trod enc Tryz.prog W 0 (fun _ => true) true nn 35 (Value.agg #[c0, c1, c2, c3, c4, c5, c6, c7, c8, c9, c10, c11, c12, c13, c14, c15, c16]).cells.toList = some (y0.1, y0.2) from g0)⟩
  injection hm with hm
  have hm' := congrArg Array.toList hm
  simp only [mcells, List.cons.injEq] at hm'
  obtain ⟨rfl, rfl, rfl, rfl, rfl, rfl, rfl, rfl, rfl, rfl, rfl, rfl, rfl, rfl, rfl, rfl, rfl, _⟩ := hm'
  have hd : d = .agg [y0.1, y1.1] := congrArg Prod.fst hx
  rw [hd] at hb
  simp only [Rows.uptoBulk, Rows.uptoBulkAll] at hb
  replace g1 : DataW.trod enc Tryz.prog W 0 (fun _ => true) true nn 22 [c17] = some y1 := g1
  obtain ⟨A, l, c, e17⟩ := slice_form Tryz.underlying22 g1
  injection e17 with e17
  subst e17
  have hplace := fun a (ha : A = some a) => mem_place hv (a := a) (len := l) (cap := c) (by rw [← ha]; rfl)
  rcases open_ints Tryz.underlying22 Tryz.underlying5 (by kernel_rfl) g1 with ⟨hcs, _⟩ | ⟨x, l', c', zs, hcs, _, hl, hmx, hz, hx1, hcell, hwz⟩
  · injection hcs with hcs
    injection hcs with e1 e2 e3
    subst e1 e2 e3
    exact ⟨⟨m, .slice P m.parts.length pc, .slice E m.extra.length ec, .slice none 0 0, []⟩, rfl, hraw, ⟨none, 0, rfl, Sp.Rd.none_, fun a ha => nomatch ha⟩, (show m.parts.length ≤ 1048576 ∧ (m.name.size ≤ 1048576 ∧ m.link.size ≤ 1048576 ∧ m.user.size ≤ 1048576 ∧ m.group.size ≤ 1048576) ∧ amR m.extra ≤ 1048576 ∧ 0 ≤ 1048576 from ⟨by omega, ⟨by omega, by omega, by omega, by omega⟩, by omega, by omega⟩)⟩
  · injection hcs with hcs
    injection hcs with e1 e2 e3
    subst e1 e2 e3
    have hz' : zs.length = c := by simpa using hz
    have hr := rd_of_row (w := W) (a := some x) (len := l) (cap := c) (zs := zs) (.inr ⟨x, rfl, hl, hmx, hz', hcell, hwz⟩)
    have hb1 : y1.1 = .slice (lits .u8 (zs.take l)) (lits .u8 (zs.drop l)) := congrArg Prod.fst hx1
    rw [hb1] at hb
    simp only [Rows.uptoBulk, lits_bulk] at hb
    have hlen : (zs.take l).length = l := by rw [List.length_take]; omega
    rw [hlen] at hb
    exact ⟨⟨m, .slice P m.parts.length pc, .slice E m.extra.length ec, .slice (some x) l c, zs.take l⟩, rfl, hraw, ⟨some x, c, by rw [hlen], by rw [hlen]; exact hr.1, hplace⟩, (show m.parts.length ≤ 1048576 ∧ (m.name.size ≤ 1048576 ∧ m.link.size ≤ 1048576 ∧ m.user.size ≤ 1048576 ∧ m.group.size ≤ 1048576) ∧ amR m.extra ≤ 1048576 ∧ (zs.take l).length ≤ 1048576 from ⟨by omega, ⟨by omega, by omega, by omega, by omega⟩, by omega, by rw [hlen]; omega⟩)⟩
end Go.Proofs.YtgbgngdakkiclaaGreatDoor
