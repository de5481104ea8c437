/-
  What came in: a header's cells, and records with their sizes.
-/
import Derived.Test.YtcedcfagfklohaaSumRow
import Derived.Test.YtcedcfagfklohaaKX
import Derived.Test.YtcedcfagfklohaaKhHdPrintW
import Derived.Deep.SlicePairs
import Derived.Stop.Joined
import Derived.Lib.SmallJoins
set_option linter.unusedVariables false
set_option linter.unusedSimpArgs false
namespace Go.Proofs.Ytcedcfagfklohaa
open Go.RowKit Go.WideShapes Go.ChangeShapes Go.Deep Go.Joins
open Px (R2)

theorem add_plain' (b off n : Nat) : Addr.add ⟨b, off, none⟩ n = ⟨b, off + n, none⟩ := by
  unfold Addr.add
  split
  · rename_i h; subst h; rfl
  · rfl
theorem open_recsF {H : Type} {enc : TypeId × Value → H} {W : World} {A : Option Addr} {n c : Nat} {d : DataW H} {p : List MemPlace} (h : DataW.Trod enc Try.prog W 0 (fun _ => true) true 25 (.slice A n c) d p) :
    ∃ l : List R2, l.length = n ∧ Px.RdR W W.heap.size A l ∧ n ≤ maxLen ∧ Px.Fits l := by
  obtain ⟨fuel, hf⟩ := h
  rcases open_slice_pairs Try.underlying25 Try.underlying24 (by kernel_rfl) rfl rfl (by kernel_rfl) (by kernel_rfl) hf with ⟨hcs, hx⟩ | ⟨a, len, cap, m, n', V0, V1, D0, D1, P0, P1, hcs, _, hl, hm, hmm, hx, hi⟩
  · simp [Value.cells] at hcs
    obtain ⟨rfl, rfl, rfl⟩ := hcs
    exact ⟨[], rfl, Px.RdR.none_, Nat.zero_le _, fun r hr => by cases hr⟩
  · simp [Value.cells] at hcs
    obtain ⟨rfl, rfl, rfl⟩ := hcs
    have hm' : m = c := by simpa using hmm
    have hs : ∀ i, i < n → ∃ q : ByteArray × ByteArray, W.cell? (a.add (i * 2)) = some (.string q.1) ∧ W.cell? (a.add (i * 2 + 1)) = some (.string q.2) ∧ D0 i = .lit (.string q.1.data.toList) ∧ D1 i = .lit (.string q.2.data.toList) ∧ q.1.size ≤ maxLen ∧ q.2.size ≤ maxLen := by
      intro i hin
      obtain ⟨hc0, hc1, ht0, ht1⟩ := hi i (by omega)
      obtain ⟨s, e0, x0, z0⟩ := DataW.trod_string Try.underlying9 ht0
      obtain ⟨t, e1, x1, z1⟩ := DataW.trod_string Try.underlying9 ht1
      injection e0 with e0
      injection e1 with e1
      simp only [Prod.mk.injEq] at x0 x1
      exact ⟨(s, t), by rw [hc0, e0], by rw [hc1, e1], x0.1, x1.1, z0, z1⟩
    obtain ⟨S, hS⟩ := choose_lt hs
    refine ⟨(List.range n).map fun i => ((S i).1, (S i).2), by simp, fun hn => ?_, ?_, ?_⟩
    · have hn' : 0 < n := by simpa using hn
      obtain ⟨b, off, spot⟩ := a
      have hc := (hS 0 hn').1
      have hspot : spot = none := by simpa [Addr.add] using World.cell?_spot hc
      subst hspot
      have hb : b < W.heap.size := by
        have hc' := hc
        rw [add_plain'] at hc'
        exact World.block_lt_of_cell? _ _ hc'
      refine ⟨b, off, rfl, hb, fun k r hr => ?_⟩
      obtain ⟨hk, hr⟩ := List.getElem?_eq_some_iff.1 hr
      have hkn : k < n := by simpa using hk
      simp only [List.getElem_map, List.getElem_range] at hr
      subst hr
      obtain ⟨g0, g1, _, _, _, _⟩ := hS k hkn
      rw [add_plain'] at g0 g1
      exact ⟨g0, by rw [Nat.add_assoc]; exact g1⟩
    · exact Nat.le_trans hl hm
    · intro r hr
      obtain ⟨i, hi1, rfl⟩ := List.mem_map.1 hr
      have hin : i < n := List.mem_range.1 hi1
      obtain ⟨_, _, _, _, u0, u1⟩ := hS i hin
      exact ⟨u0, u1⟩
theorem array17 {α : Type} {cs : Array α} (h : cs.size = 17) : ∃ c0 c1 c2 c3 c4 c5 c6 c7 c8 c9 c10 c11 c12 c13 c14 c15 c16, cs = #[c0, c1, c2, c3, c4, c5, c6, c7, c8, c9, c10, c11, c12, c13, c14, c15, c16] := by
  obtain ⟨l⟩ := cs
  match l, h with
  | [c0, c1, c2, c3, c4, c5, c6, c7, c8, c9, c10, c11, c12, c13, c14, c15, c16], _ => exact ⟨c0, c1, c2, c3, c4, c5, c6, c7, c8, c9, c10, c11, c12, c13, c14, c15, c16, rfl⟩
theorem cells_hdr : Try.prog.cellsOf 28 = 17 := by kernel_rfl
theorem cells_str : Try.prog.cellsOf 9 = 1 := by kernel_rfl
theorem cells_int : Try.prog.cellsOf 3 = 1 := by kernel_rfl
theorem cells_u8 : Try.prog.cellsOf 5 = 1 := by kernel_rfl
theorem cells_bool : Try.prog.cellsOf 4 = 1 := by kernel_rfl
theorem cells_parts : Try.prog.cellsOf 26 = 1 := by kernel_rfl
set_option maxRecDepth 100000 in
set_option maxHeartbeats 4000000 in
theorem open_hdr {H : Type} {enc : TypeId × Value → H} {W : World} {b0 : Nat} {v : Value} {d : DataW H} {p : List MemPlace} (hv : Value.okWide Try.prog W .any b0 28 v) (h : DataW.Trod enc Try.prog W 0 (fun _ => true) true 28 v d p) :
    ∃ (h : Hd.M.Hdr) (P : Option Addr) (pn pc : Nat), v = .agg (Hd.hcells h (.slice P pn pc)) ∧ h.name.size ≤ maxLen := by
  obtain ⟨cs, rfl, hsz⟩ := okWide_struct Try.underlying28 hv
  obtain ⟨c0, c1, c2, c3, c4, c5, c6, c7, c8, c9, c10, c11, c12, c13, c14, c15, c16, rfl⟩ := array17 (hsz.trans cells_hdr)
  obtain ⟨fuel, hf⟩ := h
  obtain ⟨xs, n, _, hx, _, hlen, hf⟩ := DataW.trod_struct Try.underlying28 hf
  have at_ : ∀ i (hi : i < 17), ∃ y, xs[i]? = some y := fun i hi => ⟨xs[i]'(by rw [hlen]; exact hi), List.getElem?_eq_getElem _⟩
  obtain ⟨y0, hy0⟩ := at_ 0 (by decide)
  have h0 : DataW.trod enc Try.prog W 0 (fun _ => true) true n 9 (([c0, c1, c2, c3, c4, c5, c6, c7, c8, c9, c10, c11, c12, c13, c14, c15, c16].drop 0).take (Try.prog.cellsOf 9)) = some y0 := (hf 0 _ rfl).trans hy0
  rw [cells_str] at h0
  replace h0 : DataW.trod enc Try.prog W 0 (fun _ => true) true n 9 [c0] = some y0 := h0
  obtain ⟨y1, hy1⟩ := at_ 1 (by decide)
  have h1 : DataW.trod enc Try.prog W 0 (fun _ => true) true n 3 (([c0, c1, c2, c3, c4, c5, c6, c7, c8, c9, c10, c11, c12, c13, c14, c15, c16].drop 1).take (Try.prog.cellsOf 3)) = some y1 := (hf 1 _ rfl).trans hy1
  rw [cells_int] at h1
  replace h1 : DataW.trod enc Try.prog W 0 (fun _ => true) true n 3 [c1] = some y1 := h1
  obtain ⟨y2, hy2⟩ := at_ 2 (by decide)
  have h2 : DataW.trod enc Try.prog W 0 (fun _ => true) true n 3 (([c0, c1, c2, c3, c4, c5, c6, c7, c8, c9, c10, c11, c12, c13, c14, c15, c16].drop 2).take (Try.prog.cellsOf 3)) = some y2 := (hf 2 _ rfl).trans hy2
  rw [cells_int] at h2
  replace h2 : DataW.trod enc Try.prog W 0 (fun _ => true) true n 3 [c2] = some y2 := h2
  obtain ⟨y3, hy3⟩ := at_ 3 (by decide)
  have h3 : DataW.trod enc Try.prog W 0 (fun _ => true) true n 3 (([c0, c1, c2, c3, c4, c5, c6, c7, c8, c9, c10, c11, c12, c13, c14, c15, c16].drop 3).take (Try.prog.cellsOf 3)) = some y3 := (hf 3 _ rfl).trans hy3
  rw [cells_int] at h3
  replace h3 : DataW.trod enc Try.prog W 0 (fun _ => true) true n 3 [c3] = some y3 := h3
  obtain ⟨y4, hy4⟩ := at_ 4 (by decide)
  have h4 : DataW.trod enc Try.prog W 0 (fun _ => true) true n 3 (([c0, c1, c2, c3, c4, c5, c6, c7, c8, c9, c10, c11, c12, c13, c14, c15, c16].drop 4).take (Try.prog.cellsOf 3)) = some y4 := (hf 4 _ rfl).trans hy4
  rw [cells_int] at h4
  replace h4 : DataW.trod enc Try.prog W 0 (fun _ => true) true n 3 [c4] = some y4 := h4
  obtain ⟨y5, hy5⟩ := at_ 5 (by decide)
  have h5 : DataW.trod enc Try.prog W 0 (fun _ => true) true n 3 (([c0, c1, c2, c3, c4, c5, c6, c7, c8, c9, c10, c11, c12, c13, c14, c15, c16].drop 5).take (Try.prog.cellsOf 3)) = some y5 := (hf 5 _ rfl).trans hy5
  rw [cells_int] at h5
  replace h5 : DataW.trod enc Try.prog W 0 (fun _ => true) true n 3 [c5] = some y5 := h5
  obtain ⟨y6, hy6⟩ := at_ 6 (by decide)
  have h6 : DataW.trod enc Try.prog W 0 (fun _ => true) true n 5 (([c0, c1, c2, c3, c4, c5, c6, c7, c8, c9, c10, c11, c12, c13, c14, c15, c16].drop 6).take (Try.prog.cellsOf 5)) = some y6 := (hf 6 _ rfl).trans hy6
  rw [cells_u8] at h6
  replace h6 : DataW.trod enc Try.prog W 0 (fun _ => true) true n 5 [c6] = some y6 := h6
  obtain ⟨y7, hy7⟩ := at_ 7 (by decide)
  have h7 : DataW.trod enc Try.prog W 0 (fun _ => true) true n 9 (([c0, c1, c2, c3, c4, c5, c6, c7, c8, c9, c10, c11, c12, c13, c14, c15, c16].drop 7).take (Try.prog.cellsOf 9)) = some y7 := (hf 7 _ rfl).trans hy7
  rw [cells_str] at h7
  replace h7 : DataW.trod enc Try.prog W 0 (fun _ => true) true n 9 [c7] = some y7 := h7
  obtain ⟨y8, hy8⟩ := at_ 8 (by decide)
  have h8 : DataW.trod enc Try.prog W 0 (fun _ => true) true n 3 (([c0, c1, c2, c3, c4, c5, c6, c7, c8, c9, c10, c11, c12, c13, c14, c15, c16].drop 8).take (Try.prog.cellsOf 3)) = some y8 := (hf 8 _ rfl).trans hy8
  rw [cells_int] at h8
  replace h8 : DataW.trod enc Try.prog W 0 (fun _ => true) true n 3 [c8] = some y8 := h8
  obtain ⟨y9, hy9⟩ := at_ 9 (by decide)
  have h9 : DataW.trod enc Try.prog W 0 (fun _ => true) true n 9 (([c0, c1, c2, c3, c4, c5, c6, c7, c8, c9, c10, c11, c12, c13, c14, c15, c16].drop 9).take (Try.prog.cellsOf 9)) = some y9 := (hf 9 _ rfl).trans hy9
  rw [cells_str] at h9
  replace h9 : DataW.trod enc Try.prog W 0 (fun _ => true) true n 9 [c9] = some y9 := h9
  obtain ⟨y10, hy10⟩ := at_ 10 (by decide)
  have h10 : DataW.trod enc Try.prog W 0 (fun _ => true) true n 9 (([c0, c1, c2, c3, c4, c5, c6, c7, c8, c9, c10, c11, c12, c13, c14, c15, c16].drop 10).take (Try.prog.cellsOf 9)) = some y10 := (hf 10 _ rfl).trans hy10
  rw [cells_str] at h10
  replace h10 : DataW.trod enc Try.prog W 0 (fun _ => true) true n 9 [c10] = some y10 := h10
  obtain ⟨y11, hy11⟩ := at_ 11 (by decide)
  have h11 : DataW.trod enc Try.prog W 0 (fun _ => true) true n 3 (([c0, c1, c2, c3, c4, c5, c6, c7, c8, c9, c10, c11, c12, c13, c14, c15, c16].drop 11).take (Try.prog.cellsOf 3)) = some y11 := (hf 11 _ rfl).trans hy11
  rw [cells_int] at h11
  replace h11 : DataW.trod enc Try.prog W 0 (fun _ => true) true n 3 [c11] = some y11 := h11
  obtain ⟨y12, hy12⟩ := at_ 12 (by decide)
  have h12 : DataW.trod enc Try.prog W 0 (fun _ => true) true n 3 (([c0, c1, c2, c3, c4, c5, c6, c7, c8, c9, c10, c11, c12, c13, c14, c15, c16].drop 12).take (Try.prog.cellsOf 3)) = some y12 := (hf 12 _ rfl).trans hy12
  rw [cells_int] at h12
  replace h12 : DataW.trod enc Try.prog W 0 (fun _ => true) true n 3 [c12] = some y12 := h12
  obtain ⟨y13, hy13⟩ := at_ 13 (by decide)
  have h13 : DataW.trod enc Try.prog W 0 (fun _ => true) true n 9 (([c0, c1, c2, c3, c4, c5, c6, c7, c8, c9, c10, c11, c12, c13, c14, c15, c16].drop 13).take (Try.prog.cellsOf 9)) = some y13 := (hf 13 _ rfl).trans hy13
  rw [cells_str] at h13
  replace h13 : DataW.trod enc Try.prog W 0 (fun _ => true) true n 9 [c13] = some y13 := h13
  obtain ⟨y14, hy14⟩ := at_ 14 (by decide)
  have h14 : DataW.trod enc Try.prog W 0 (fun _ => true) true n 26 (([c0, c1, c2, c3, c4, c5, c6, c7, c8, c9, c10, c11, c12, c13, c14, c15, c16].drop 14).take (Try.prog.cellsOf 26)) = some y14 := (hf 14 _ rfl).trans hy14
  rw [cells_parts] at h14
  replace h14 : DataW.trod enc Try.prog W 0 (fun _ => true) true n 26 [c14] = some y14 := h14
  obtain ⟨y15, hy15⟩ := at_ 15 (by decide)
  have h15 : DataW.trod enc Try.prog W 0 (fun _ => true) true n 4 (([c0, c1, c2, c3, c4, c5, c6, c7, c8, c9, c10, c11, c12, c13, c14, c15, c16].drop 15).take (Try.prog.cellsOf 4)) = some y15 := (hf 15 _ rfl).trans hy15
  rw [cells_bool] at h15
  replace h15 : DataW.trod enc Try.prog W 0 (fun _ => true) true n 4 [c15] = some y15 := h15
  obtain ⟨y16, hy16⟩ := at_ 16 (by decide)
  have h16 : DataW.trod enc Try.prog W 0 (fun _ => true) true n 3 (([c0, c1, c2, c3, c4, c5, c6, c7, c8, c9, c10, c11, c12, c13, c14, c15, c16].drop 16).take (Try.prog.cellsOf 3)) = some y16 := (hf 16 _ rfl).trans hy16
  rw [cells_int] at h16
  replace h16 : DataW.trod enc Try.prog W 0 (fun _ => true) true n 3 [c16] = some y16 := h16
  clear hf at_
  obtain ⟨v0, e0, _, z0⟩ := DataW.trod_string Try.underlying9 h0
  injection e0 with e0
  subst e0
  obtain ⟨v1, e1, _, _⟩ := DataW.trod_int Try.underlying3 h1
  injection e1 with e1
  subst e1
  obtain ⟨v2, e2, _, _⟩ := DataW.trod_int Try.underlying3 h2
  injection e2 with e2
  subst e2
  obtain ⟨v3, e3, _, _⟩ := DataW.trod_int Try.underlying3 h3
  injection e3 with e3
  subst e3
  obtain ⟨v4, e4, _, _⟩ := DataW.trod_int Try.underlying3 h4
  injection e4 with e4
  subst e4
  obtain ⟨v5, e5, _, _⟩ := DataW.trod_int Try.underlying3 h5
  injection e5 with e5
  subst e5
  obtain ⟨v6, e6, _, _⟩ := DataW.trod_int Try.underlying5 h6
  injection e6 with e6
  subst e6
  obtain ⟨v7, e7, _, z7⟩ := DataW.trod_string Try.underlying9 h7
  injection e7 with e7
  subst e7
  obtain ⟨v8, e8, _, _⟩ := DataW.trod_int Try.underlying3 h8
  injection e8 with e8
  subst e8
  obtain ⟨v9, e9, _, z9⟩ := DataW.trod_string Try.underlying9 h9
  injection e9 with e9
  subst e9
  obtain ⟨v10, e10, _, z10⟩ := DataW.trod_string Try.underlying9 h10
  injection e10 with e10
  subst e10
  obtain ⟨v11, e11, _, _⟩ := DataW.trod_int Try.underlying3 h11
  injection e11 with e11
  subst e11
  obtain ⟨v12, e12, _, _⟩ := DataW.trod_int Try.underlying3 h12
  injection e12 with e12
  subst e12
  obtain ⟨v13, e13, _, z13⟩ := DataW.trod_string Try.underlying9 h13
  injection e13 with e13
  subst e13
  obtain ⟨P, pn, pc, e14⟩ := slice_form Try.underlying26 h14
  injection e14 with e14
  subst e14
  obtain ⟨v15, e15, _⟩ := DataW.trod_bool Try.underlying4 h15
  injection e15 with e15
  subst e15
  obtain ⟨v16, e16, _, _⟩ := DataW.trod_int Try.underlying3 h16
  injection e16 with e16
  subst e16
  exact ⟨{ name := v0, mode := v1, uid := v2, gid := v3, size := v4, mtime := v5, kind := v6, link := v7, way := v8, user := v9, group := v10, major := v11, minor := v12, pre := v13, parts := [], more := v15, real := v16 }, P, pn, pc, rfl, z0⟩
end Go.Proofs.Ytcedcfagfklohaa
