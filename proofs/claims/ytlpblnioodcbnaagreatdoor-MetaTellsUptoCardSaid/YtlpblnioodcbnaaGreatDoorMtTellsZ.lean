/-
  Texts of one chapter, merged.
-/
import Derived.Test.YtlpblnioodcbnaaGreatDoorKS
import Derived.Test.YtlpblnioodcbnaaGreatDoorRows
import Derived.WalkKit
import Derived.ProofKit
import Derived.OpenShut
import Derived.ShutString
import Derived.ChangeOld
import Derived.ChangeSame
import Derived.LaidMore
import Derived.Lib.LaidTab
import Derived.MakeChecks
import Derived.Stop.LaidErr
import Derived.Test.YtlpblnioodcbnaaGreatDoorMtTextZ
import Derived.Test.YtlpblnioodcbnaaGreatDoorKX
import Derived.Deep.SlicePairs
import Derived.Stop.Joined
import Derived.Lib.SmallJoins
import Derived.Test.YtlpblnioodcbnaaGreatDoorMtRefL
import Derived.Test.YtlpblnioodcbnaaGreatDoorMtRefZ
import Derived.Test.YtlpblnioodcbnaaGreatDoorMtRefE
import Derived.Test.YtlpblnioodcbnaaGreatDoorMtFin
import Derived.Test.YtlpblnioodcbnaaGreatDoorMtTo
import Derived.Test.YtlpblnioodcbnaaGreatDoorMtKnown
import Derived.Laws.StructEq
import Derived.Test.YtlpblnioodcbnaaGreatDoorMtName
import Derived.Test.YtlpblnioodcbnaaGreatDoorMtParts
import Derived.Test.YtlpblnioodcbnaaGreatDoorRegRows
import Derived.Deep.CutRange
import Derived.Deep.CutBlock
import Derived.BigQuiet
set_option linter.unusedVariables false
set_option linter.unusedSimpArgs false
/-! What every frame takes; what came in of a member that is known: what it is. (MtRow in it.) -/
namespace Go.Proofs.YtlpblnioodcbnaaGreatDoor
open Go.RowKit Go.WideShapes Go.ChangeShapes

section
variable {H : Type} {enc : TypeId × Value → H} {P : Program}
theorem post_of_below {f : Func} {s : ChangeSpec} {apart fresh handsOn again : Bool} {W W' : World} {args : Array Value} {v : Value} {ds gs : List (DataW H)} {before pa pv : List MemPlace}
    (hW : DataW.Whole enc P f.params.toList s.vars apart W args.toList ds gs before)
    (hres : ∀ (b : Nat) (sp : Nat → Bool) (hd : Bool), DataW.TrodAll enc P W' b sp hd f.resultTypes.toList (v.resultList f.resultTypes.size) (s.fn H (ds ++ gs)).results [])
    (hargs : ∀ sp : Nat → Bool, (∀ p ∈ before, sp p.block = true) → DataW.TrodAll enc P W' 0 sp true f.params.toList args.toList (s.fn H (ds ++ gs)).args pa)
    (hvars : ∀ sp : Nat → Bool, (∀ p ∈ before, sp p.block = true) → DataW.TrodVars enc P W' sp s.vars (s.fn H (ds ++ gs)).vars pv)
    (hps : before = pa ++ pv) (hb : Below W.heap.size W W')
    (hok : ∀ (j : Nat) (t : TypeId) (r : Value), f.resultTypes[j]? = some t → (v.resultList f.resultTypes.size)[j]? = some r → Value.okWide P W' .any 0 t r) :
    s.post enc P f apart fresh handsOn again W args v W' := by
  have hlt : ∀ p ∈ before, p.block < W.heap.size := fun p hp => hW.lt p hp
  have hold : ∀ p ∈ before, (fun b => decide (b < W.heap.size)) p.block = true := fun p hp => by simpa using hlt p hp
  refine ⟨ds, gs, before, [], pa, pv, hW, hres _ _ _, hargs _ hold, hvars _ hold, World.keptBut_mono (fun p hp => ⟨hp, ?_⟩) (hb.frame (· ∈ before)), fun _ => ?_⟩
  · rw [hps, List.mem_append] at hp
    exact Or.inr hp
  · obtain ⟨_, _, _, _, _, hz, hn⟩ := hW
    refine ⟨hok, _, _, ([] ++ pa) ++ pv, ⟨[] ++ pa, pv, trodAll_append (hargs _ (fun _ _ => rfl)) (hres _ _ _), hvars _ (fun _ _ => rfl), rfl, ?_, ?_⟩, ?_⟩
    · intro b off hp
      have hin : MemPlace.cell b off ∈ before := by rw [hps]; simpa using hp
      rw [hb.frozen (hlt _ hin)]
      exact hz b off hin
    · intro ha
      have := hn ha
      rw [hps] at this
      simpa using this
    · intro p hp _
      rw [hps]
      simpa using hp
end

theorem rd_of_row {w : World} {a : Option Addr} {len cap : Nat} {zs : List Int}
    (h : (a = none ∧ len = 0 ∧ cap = 0 ∧ zs = []) ∨
      ∃ x, a = some x ∧ len ≤ cap ∧ cap ≤ maxLen ∧ zs.length = cap ∧ (∀ i, i < zs.length → w.cell? (x.add i) = some (.int .u8 (zs.getD i 0))) ∧ ∀ n ∈ zs, (Lit.int .u8 n).wf = true) :
    Sp.Rd w w.heap.size a len (zs.take len) ∧ len ≤ cap ∧ cap ≤ maxLen := by
  rcases h with ⟨rfl, rfl, rfl, rfl⟩ | ⟨x, rfl, hl, hm, hz, hcell, hwz⟩
  · exact ⟨Sp.Rd.none_, Nat.le_refl _, Nat.zero_le _⟩
  · refine ⟨⟨by rw [List.length_take]; omega, fun z hz' => bounds_u8 (hwz z (List.mem_of_mem_take hz')), fun hn => ?_⟩, hl, hm⟩
    obtain ⟨b, off, spot⟩ := x
    have hc := hcell 0 (by omega)
    have hspot : spot = none := by simpa [Addr.add] using World.cell?_spot hc
    subst hspot
    have hb : b < w.heap.size := by
      have hc' := hc
      rw [show (⟨b, off, none⟩ : Addr).add 0 = ⟨b, off, none⟩ from by simp [Addr.add]] at hc'
      exact World.block_lt_of_cell? _ _ hc'
    refine ⟨b, off, rfl, hb, fun j z hj => ?_⟩
    rw [List.getElem?_take] at hj
    split at hj
    · rename_i hjl
      have hjz : j < zs.length := by omega
      have hcj := hcell j hjz
      have e : (⟨b, off, none⟩ : Addr).add j = ⟨b, off + j, none⟩ := by
        unfold Addr.add
        split
        · rename_i h0
          subst h0
          rfl
        · rfl
      rw [e, List.getD_eq_getElem?_getD, hj] at hcj
      exact hcj
    · cases hj

abbrev EV (B : Nat) (w : World) : Prop := Sp.EV B w
theorem star_ : "*" ++ "errors.errorString" = "*errors.errorString" := by decide
theorem ev_of (w : World) (laid : List (String × DataW Unit)) (a b c : String × DataW Unit) (t1 t2 : List UInt8) (rest : List (String × DataW Unit))
    (hl : laid = a :: b :: ("internal/strconv.uint64pow10", Lib.tabData .u64 Lib.pow10Tab) :: c :: ("strconv.ErrRange", .iface "*errors.errorString" (.ptr (.agg [.lit (.string t1)]))) :: ("strconv.ErrSyntax", .iface "*errors.errorString" (.ptr (.agg [.lit (.string t2)]))) :: rest)
    (hn : (laid.all fun x => x.2.handleName?.isNone) = true) (h : laidMetH Tryz.prog laid w) : EV w.heap.size w := by
  rw [MakeChecks.laidMetH_plain _ _ _ hn, hl] at h
  have h2 := laidMet.tail (laidMet.tail h)
  have h4 := laidMet.tail (laidMet.tail h2)
  have h5 := laidMet.tail h4
  have hrow : ∀ u, Tryz.prog.typeName? 3 u = some "*errors.errorString" → u = 242 := fun u h =>
    typeName_ptr_named (nm := "errors.errorString") (by rw [star_]; kernel_rfl) (by kernel_rfl) (by decide) u (by rw [star_]; exact h)
  obtain ⟨a1, s1, hv1, _⟩ := laid_sentinel h4 (g := 3) (ti := 164) (tp := 242) (te := 244) (ts := 9) (by kernel_rfl) (by kernel_rfl) Tryz.underlying164 hrow Tryz.underlying242 Tryz.underlying244 rfl rfl Tryz.underlying9 (by kernel_rfl) (by kernel_rfl)
  obtain ⟨a2, s2, hv2, _⟩ := laid_sentinel h5 (g := 2) (ti := 164) (tp := 242) (te := 244) (ts := 9) (by kernel_rfl) (by kernel_rfl) Tryz.underlying164 hrow Tryz.underlying242 Tryz.underlying244 rfl rfl Tryz.underlying9 (by kernel_rfl) (by kernel_rfl)
  have c1 := World.var?_cell (g := 3) (by kernel_rfl) hv1 0
  have c2 := World.var?_cell (g := 2) (by kernel_rfl) hv2 0
  exact ⟨Lib.tabBelow_of_tabIs (Lib.tabIs_of_head (g := 0) (by kernel_rfl) (by kernel_rfl) Tryz.underlying198 Tryz.underlying178 (by kernel_rfl) (by kernel_rfl) h2),
    ⟨World.block_lt_of_cell? _ _ c2, _, _, c2⟩, ⟨World.block_lt_of_cell? _ _ c1, _, _, c1⟩⟩
end Go.Proofs.YtlpblnioodcbnaaGreatDoor

namespace Go.Proofs.YtlpblnioodcbnaaGreatDoor
open Go.RowKit Go.WideShapes Go.ChangeShapes Go.Deep Go.Joins
open Px (R2)

theorem add_plain' (b off n : Nat) : Addr.add ⟨b, off, none⟩ n = ⟨b, off + n, none⟩ := by
  unfold Addr.add
  split
  · rename_i h; subst h; rfl
  · rfl
theorem open_parts {H : Type} {enc : TypeId × Value → H} {W : World} {A : Option Addr} {n c : Nat} {d : DataW H} {p : List MemPlace} (h : DataW.Trod enc Tryz.prog W 0 (fun _ => true) true 24 (.slice A n c) d p) :
    ∃ l : List (Int × Int), Sp.RdP W W.heap.size A n l ∧ Sp.M.i64s l ∧ n ≤ maxLen := by
  obtain ⟨fuel, hf⟩ := h
  rcases open_slice_pairs Tryz.underlying24 Tryz.underlying61 (by kernel_rfl) rfl rfl (by kernel_rfl) (by kernel_rfl) hf with ⟨hcs, hx⟩ | ⟨a, len, cap, m, n', V0, V1, D0, D1, P0, P1, hcs, _, hl, hm, hmm, hx, hi⟩
  · simp [Value.cells] at hcs
    obtain ⟨rfl, rfl, rfl⟩ := hcs
    exact ⟨[], Sp.RdP.none_, (fun p hp => absurd hp (by simp)), Nat.zero_le _⟩
  · simp [Value.cells] at hcs
    obtain ⟨rfl, rfl, rfl⟩ := hcs
    have hm' : m = c := by simpa using hmm
    have hs : ∀ i, i < n → ∃ q : Int × Int, W.cell? (a.add (i * 2)) = some (.int .i64 q.1) ∧ W.cell? (a.add (i * 2 + 1)) = some (.int .i64 q.2) ∧ (Lit.int .i64 q.1).wf = true ∧ (Lit.int .i64 q.2).wf = true := by
      intro i hin
      obtain ⟨hc0, hc1, ht0, ht1⟩ := hi i (by omega)
      obtain ⟨s, e0, _, w0⟩ := DataW.trod_int Tryz.underlying3 ht0
      obtain ⟨t, e1, _, w1⟩ := DataW.trod_int Tryz.underlying3 ht1
      injection e0 with e0
      injection e1 with e1
      exact ⟨(s, t), by rw [hc0, e0], by rw [hc1, e1], w0, w1⟩
    obtain ⟨S, hS⟩ := choose_lt hs
    refine ⟨(List.range n).map S, ⟨by simp, fun hn => ?_⟩, ?_, Nat.le_trans hl hm⟩
    · obtain ⟨b, off, spot⟩ := a
      have hc := (hS 0 hn).1
      have hspot : spot = none := by simpa [Addr.add] using World.cell?_spot hc
      subst hspot
      have hadd : ∀ k : Nat, (⟨b, off, none⟩ : Addr).add k = ⟨b, off + k, none⟩ := by
        intro k
        unfold Addr.add
        split
        · rename_i h0; subst h0; rfl
        · rfl
      have hb : b < W.heap.size := by
        have hc' := hc
        rw [hadd] at hc'
        exact World.block_lt_of_cell? _ _ hc'
      refine ⟨b, off, rfl, hb, fun k r hr => ?_⟩
      obtain ⟨hk, hr⟩ := List.getElem?_eq_some_iff.1 hr
      have hkn : k < n := by simpa using hk
      simp only [List.getElem_map, List.getElem_range] at hr
      subst hr
      obtain ⟨g0, g1, _, _⟩ := hS k hkn
      rw [hadd] at g0 g1
      exact ⟨g0, by rw [Nat.add_assoc]; exact g1⟩
    · intro q hq
      obtain ⟨i, hin, rfl⟩ := List.mem_map.1 hq
      obtain ⟨_, _, w0, w1⟩ := hS i (List.mem_range.1 hin)
      exact ⟨bounds_i64 w0, bounds_i64 w1⟩
theorem open_recs {H : Type} {enc : TypeId × Value → H} {W : World} {A : Option Addr} {n c : Nat} {d : DataW H} {p : List MemPlace} (h : DataW.Trod enc Tryz.prog W 0 (fun _ => true) true 25 (.slice A n c) d p) :
    ∃ l : List R2, l.length = n ∧ Px.RdR W W.heap.size A l ∧ n ≤ maxLen := by
  obtain ⟨fuel, hf⟩ := h
  rcases open_slice_pairs Tryz.underlying25 Tryz.underlying30 (by kernel_rfl) rfl rfl (by kernel_rfl) (by kernel_rfl) hf with ⟨hcs, hx⟩ | ⟨a, len, cap, m, n', V0, V1, D0, D1, P0, P1, hcs, _, hl, hm, hmm, hx, hi⟩
  · simp [Value.cells] at hcs
    obtain ⟨rfl, rfl, rfl⟩ := hcs
    exact ⟨[], rfl, Px.RdR.none_, Nat.zero_le _⟩
  · simp [Value.cells] at hcs
    obtain ⟨rfl, rfl, rfl⟩ := hcs
    have hm' : m = c := by simpa using hmm
    have hs : ∀ i, i < n → ∃ q : ByteArray × ByteArray, W.cell? (a.add (i * 2)) = some (.string q.1) ∧ W.cell? (a.add (i * 2 + 1)) = some (.string q.2) ∧ D0 i = .lit (.string q.1.data.toList) ∧ D1 i = .lit (.string q.2.data.toList) := by
      intro i hin
      obtain ⟨hc0, hc1, ht0, ht1⟩ := hi i (by omega)
      obtain ⟨s, e0, x0, _⟩ := DataW.trod_string Tryz.underlying9 ht0
      obtain ⟨t, e1, x1, _⟩ := DataW.trod_string Tryz.underlying9 ht1
      injection e0 with e0
      injection e1 with e1
      simp only [Prod.mk.injEq] at x0 x1
      exact ⟨(s, t), by rw [hc0, e0], by rw [hc1, e1], x0.1, x1.1⟩
    obtain ⟨S, hS⟩ := choose_lt hs
    refine ⟨(List.range n).map fun i => ((S i).1, (S i).2), by simp, fun hn => ?_, ?_⟩
    · have hn' : 0 < n := by simpa using hn
      obtain ⟨b, off, spot⟩ := a
      have hc := (hS 0 hn').1
      have hspot : spot = none := by simpa [Addr.add] using World.cell?_spot hc
      subst hspot
      have hb : b < W.heap.size := by
        have hc' := hc
        rw [add_plain'] at hc'
        exact World.block_lt_of_cell? _ _ hc'
      refine ⟨b, off, rfl, hb, fun k r hr => ?_⟩
      obtain ⟨hk, hr⟩ := List.getElem?_eq_some_iff.1 hr
      have hkn : k < n := by simpa using hk
      simp only [List.getElem_map, List.getElem_range] at hr
      subst hr
      obtain ⟨g0, g1, _, _⟩ := hS k hkn
      rw [add_plain'] at g0 g1
      exact ⟨g0, by rw [Nat.add_assoc]; exact g1⟩
    · exact Nat.le_trans hl hm

theorem array17 {α : Type} {cs : Array α} (h : cs.size = 17) : ∃ c0 c1 c2 c3 c4 c5 c6 c7 c8 c9 c10 c11 c12 c13 c14 c15 c16, cs = #[c0, c1, c2, c3, c4, c5, c6, c7, c8, c9, c10, c11, c12, c13, c14, c15, c16] := by
  obtain ⟨l⟩ := cs
  match l, h with
  | [c0, c1, c2, c3, c4, c5, c6, c7, c8, c9, c10, c11, c12, c13, c14, c15, c16], _ => exact ⟨c0, c1, c2, c3, c4, c5, c6, c7, c8, c9, c10, c11, c12, c13, c14, c15, c16, rfl⟩
theorem cells_meta : Tryz.prog.cellsOf 27 = 17 := by kernel_rfl
theorem cells_str : Tryz.prog.cellsOf 9 = 1 := by kernel_rfl
theorem cells_int : Tryz.prog.cellsOf 3 = 1 := by kernel_rfl
theorem cells_u8 : Tryz.prog.cellsOf 5 = 1 := by kernel_rfl
theorem cells_bool : Tryz.prog.cellsOf 4 = 1 := by kernel_rfl
theorem cells_time : Tryz.prog.cellsOf 23 = 2 := by kernel_rfl
theorem cells_parts : Tryz.prog.cellsOf 24 = 1 := by kernel_rfl
theorem cells_recs : Tryz.prog.cellsOf 25 = 1 := by kernel_rfl

set_option maxRecDepth 100000 in
set_option maxHeartbeats 4000000 in
theorem open_meta {H : Type} {enc : TypeId × Value → H} {W : World} {b0 : Nat} {v : Value} {d : DataW H} {p : List MemPlace} (hv : Value.okWide Tryz.prog W .any b0 27 v) (h : DataW.Trod enc Tryz.prog W 0 (fun _ => true) true 27 v d p) :
    ∃ (m : M.Met) (P E : Option Addr) (pc ec : Nat), v = .agg (mcells m (.slice P m.parts.length pc) (.slice E m.extra.length ec)) ∧ Sp.RdP W W.heap.size P m.parts.length m.parts ∧ Px.RdR W W.heap.size E m.extra ∧ m.parts.length ≤ maxLen ∧ m.extra.length ≤ maxLen := by
  obtain ⟨cs, rfl, hsz⟩ := okWide_struct Tryz.underlying27 hv
  obtain ⟨c0, c1, c2, c3, c4, c5, c6, c7, c8, c9, c10, c11, c12, c13, c14, c15, c16, rfl⟩ := array17 (hsz.trans cells_meta)
  obtain ⟨fuel, hf⟩ := h
  obtain ⟨xs, n, _, hx, _, hlen, hf⟩ := DataW.trod_struct Tryz.underlying27 hf
  have at_ : ∀ i (hi : i < 16), ∃ y, xs[i]? = some y := fun i hi => ⟨xs[i]'(by rw [hlen]; exact hi), List.getElem?_eq_getElem _⟩
  obtain ⟨y0, hy0⟩ := at_ 0 (by decide)
  have h0 : DataW.trod enc Tryz.prog W 0 (fun _ => true) true n 9 (([c0, c1, c2, c3, c4, c5, c6, c7, c8, c9, c10, c11, c12, c13, c14, c15, c16].drop 0).take (Tryz.prog.cellsOf 9)) = some y0 := (hf 0 _ rfl).trans hy0
  rw [cells_str] at h0
  replace h0 : DataW.trod enc Tryz.prog W 0 (fun _ => true) true n 9 [c0] = some y0 := h0
  obtain ⟨y1, hy1⟩ := at_ 1 (by decide)
  have h1 : DataW.trod enc Tryz.prog W 0 (fun _ => true) true n 9 (([c0, c1, c2, c3, c4, c5, c6, c7, c8, c9, c10, c11, c12, c13, c14, c15, c16].drop 1).take (Tryz.prog.cellsOf 9)) = some y1 := (hf 1 _ rfl).trans hy1
  rw [cells_str] at h1
  replace h1 : DataW.trod enc Tryz.prog W 0 (fun _ => true) true n 9 [c1] = some y1 := h1
  obtain ⟨y2, hy2⟩ := at_ 2 (by decide)
  have h2 : DataW.trod enc Tryz.prog W 0 (fun _ => true) true n 5 (([c0, c1, c2, c3, c4, c5, c6, c7, c8, c9, c10, c11, c12, c13, c14, c15, c16].drop 2).take (Tryz.prog.cellsOf 5)) = some y2 := (hf 2 _ rfl).trans hy2
  rw [cells_u8] at h2
  replace h2 : DataW.trod enc Tryz.prog W 0 (fun _ => true) true n 5 [c2] = some y2 := h2
  obtain ⟨y3, hy3⟩ := at_ 3 (by decide)
  have h3 : DataW.trod enc Tryz.prog W 0 (fun _ => true) true n 3 (([c0, c1, c2, c3, c4, c5, c6, c7, c8, c9, c10, c11, c12, c13, c14, c15, c16].drop 3).take (Tryz.prog.cellsOf 3)) = some y3 := (hf 3 _ rfl).trans hy3
  rw [cells_int] at h3
  replace h3 : DataW.trod enc Tryz.prog W 0 (fun _ => true) true n 3 [c3] = some y3 := h3
  obtain ⟨y4, hy4⟩ := at_ 4 (by decide)
  have h4 : DataW.trod enc Tryz.prog W 0 (fun _ => true) true n 3 (([c0, c1, c2, c3, c4, c5, c6, c7, c8, c9, c10, c11, c12, c13, c14, c15, c16].drop 4).take (Tryz.prog.cellsOf 3)) = some y4 := (hf 4 _ rfl).trans hy4
  rw [cells_int] at h4
  replace h4 : DataW.trod enc Tryz.prog W 0 (fun _ => true) true n 3 [c4] = some y4 := h4
  obtain ⟨y5, hy5⟩ := at_ 5 (by decide)
  have h5 : DataW.trod enc Tryz.prog W 0 (fun _ => true) true n 3 (([c0, c1, c2, c3, c4, c5, c6, c7, c8, c9, c10, c11, c12, c13, c14, c15, c16].drop 5).take (Tryz.prog.cellsOf 3)) = some y5 := (hf 5 _ rfl).trans hy5
  rw [cells_int] at h5
  replace h5 : DataW.trod enc Tryz.prog W 0 (fun _ => true) true n 3 [c5] = some y5 := h5
  obtain ⟨y6, hy6⟩ := at_ 6 (by decide)
  have h6 : DataW.trod enc Tryz.prog W 0 (fun _ => true) true n 9 (([c0, c1, c2, c3, c4, c5, c6, c7, c8, c9, c10, c11, c12, c13, c14, c15, c16].drop 6).take (Tryz.prog.cellsOf 9)) = some y6 := (hf 6 _ rfl).trans hy6
  rw [cells_str] at h6
  replace h6 : DataW.trod enc Tryz.prog W 0 (fun _ => true) true n 9 [c6] = some y6 := h6
  obtain ⟨y7, hy7⟩ := at_ 7 (by decide)
  have h7 : DataW.trod enc Tryz.prog W 0 (fun _ => true) true n 9 (([c0, c1, c2, c3, c4, c5, c6, c7, c8, c9, c10, c11, c12, c13, c14, c15, c16].drop 7).take (Tryz.prog.cellsOf 9)) = some y7 := (hf 7 _ rfl).trans hy7
  rw [cells_str] at h7
  replace h7 : DataW.trod enc Tryz.prog W 0 (fun _ => true) true n 9 [c7] = some y7 := h7
  obtain ⟨y8, hy8⟩ := at_ 8 (by decide)
  have h8 : DataW.trod enc Tryz.prog W 0 (fun _ => true) true n 23 (([c0, c1, c2, c3, c4, c5, c6, c7, c8, c9, c10, c11, c12, c13, c14, c15, c16].drop 8).take (Tryz.prog.cellsOf 23)) = some y8 := (hf 8 _ rfl).trans hy8
  rw [cells_time] at h8
  replace h8 : DataW.trod enc Tryz.prog W 0 (fun _ => true) true n 23 [c8, c9] = some y8 := h8
  obtain ⟨y9, hy9⟩ := at_ 9 (by decide)
  have h9 : DataW.trod enc Tryz.prog W 0 (fun _ => true) true n 3 (([c0, c1, c2, c3, c4, c5, c6, c7, c8, c9, c10, c11, c12, c13, c14, c15, c16].drop 10).take (Tryz.prog.cellsOf 3)) = some y9 := (hf 9 _ rfl).trans hy9
  rw [cells_int] at h9
  replace h9 : DataW.trod enc Tryz.prog W 0 (fun _ => true) true n 3 [c10] = some y9 := h9
  obtain ⟨y10, hy10⟩ := at_ 10 (by decide)
  have h10 : DataW.trod enc Tryz.prog W 0 (fun _ => true) true n 3 (([c0, c1, c2, c3, c4, c5, c6, c7, c8, c9, c10, c11, c12, c13, c14, c15, c16].drop 11).take (Tryz.prog.cellsOf 3)) = some y10 := (hf 10 _ rfl).trans hy10
  rw [cells_int] at h10
  replace h10 : DataW.trod enc Tryz.prog W 0 (fun _ => true) true n 3 [c11] = some y10 := h10
  obtain ⟨y11, hy11⟩ := at_ 11 (by decide)
  have h11 : DataW.trod enc Tryz.prog W 0 (fun _ => true) true n 3 (([c0, c1, c2, c3, c4, c5, c6, c7, c8, c9, c10, c11, c12, c13, c14, c15, c16].drop 12).take (Tryz.prog.cellsOf 3)) = some y11 := (hf 11 _ rfl).trans hy11
  rw [cells_int] at h11
  replace h11 : DataW.trod enc Tryz.prog W 0 (fun _ => true) true n 3 [c12] = some y11 := h11
  obtain ⟨y12, hy12⟩ := at_ 12 (by decide)
  have h12 : DataW.trod enc Tryz.prog W 0 (fun _ => true) true n 3 (([c0, c1, c2, c3, c4, c5, c6, c7, c8, c9, c10, c11, c12, c13, c14, c15, c16].drop 13).take (Tryz.prog.cellsOf 3)) = some y12 := (hf 12 _ rfl).trans hy12
  rw [cells_int] at h12
  replace h12 : DataW.trod enc Tryz.prog W 0 (fun _ => true) true n 3 [c13] = some y12 := h12
  obtain ⟨y13, hy13⟩ := at_ 13 (by decide)
  have h13 : DataW.trod enc Tryz.prog W 0 (fun _ => true) true n 4 (([c0, c1, c2, c3, c4, c5, c6, c7, c8, c9, c10, c11, c12, c13, c14, c15, c16].drop 14).take (Tryz.prog.cellsOf 4)) = some y13 := (hf 13 _ rfl).trans hy13
  rw [cells_bool] at h13
  replace h13 : DataW.trod enc Tryz.prog W 0 (fun _ => true) true n 4 [c14] = some y13 := h13
  obtain ⟨y14, hy14⟩ := at_ 14 (by decide)
  have h14 : DataW.trod enc Tryz.prog W 0 (fun _ => true) true n 24 (([c0, c1, c2, c3, c4, c5, c6, c7, c8, c9, c10, c11, c12, c13, c14, c15, c16].drop 15).take (Tryz.prog.cellsOf 24)) = some y14 := (hf 14 _ rfl).trans hy14
  rw [cells_parts] at h14
  replace h14 : DataW.trod enc Tryz.prog W 0 (fun _ => true) true n 24 [c15] = some y14 := h14
  obtain ⟨y15, hy15⟩ := at_ 15 (by decide)
  have h15 : DataW.trod enc Tryz.prog W 0 (fun _ => true) true n 25 (([c0, c1, c2, c3, c4, c5, c6, c7, c8, c9, c10, c11, c12, c13, c14, c15, c16].drop 16).take (Tryz.prog.cellsOf 25)) = some y15 := (hf 15 _ rfl).trans hy15
  rw [cells_recs] at h15
  replace h15 : DataW.trod enc Tryz.prog W 0 (fun _ => true) true n 25 [c16] = some y15 := h15
  clear hf at_
  obtain ⟨v0, e0, _, _⟩ := DataW.trod_string Tryz.underlying9 h0
  injection e0 with e0
  subst e0
  obtain ⟨v1, e1, _, _⟩ := DataW.trod_string Tryz.underlying9 h1
  injection e1 with e1
  subst e1
  obtain ⟨v2, e2, _, _⟩ := DataW.trod_int Tryz.underlying5 h2
  injection e2 with e2
  subst e2
  obtain ⟨v3, e3, _, _⟩ := DataW.trod_int Tryz.underlying3 h3
  injection e3 with e3
  subst e3
  obtain ⟨v4, e4, _, _⟩ := DataW.trod_int Tryz.underlying3 h4
  injection e4 with e4
  subst e4
  obtain ⟨v5, e5, _, _⟩ := DataW.trod_int Tryz.underlying3 h5
  injection e5 with e5
  subst e5
  obtain ⟨v6, e6, _, _⟩ := DataW.trod_string Tryz.underlying9 h6
  injection e6 with e6
  subst e6
  obtain ⟨v7, e7, _, _⟩ := DataW.trod_string Tryz.underlying9 h7
  injection e7 with e7
  subst e7
  obtain ⟨z0, z1, nn, _, _, g0, g1⟩ := trod_struct2 Tryz.underlying23 h8
  replace g0 : DataW.trod enc Tryz.prog W 0 (fun _ => true) true nn 3 ([c8, c9].take (Tryz.prog.cellsOf 3)) = some z0 := g0
  replace g1 : DataW.trod enc Tryz.prog W 0 (fun _ => true) true nn 3 ([c9].take (Tryz.prog.cellsOf 3)) = some z1 := g1
  rw [cells_int] at g0 g1
  obtain ⟨v8, e8, _, _⟩ := DataW.trod_int Tryz.underlying3 (show DataW.trod enc Tryz.prog W 0 (fun _ => true) true nn 3 [c8] = some z0 from g0)
  obtain ⟨v9, e9, _, _⟩ := DataW.trod_int Tryz.underlying3 (show DataW.trod enc Tryz.prog W 0 (fun _ => true) true nn 3 [c9] = some z1 from g1)
  injection e8 with e8
  injection e9 with e9
  subst e8 e9
  obtain ⟨v10, e10, _, _⟩ := DataW.trod_int Tryz.underlying3 h9
  injection e10 with e10
  subst e10
  obtain ⟨v11, e11, _, _⟩ := DataW.trod_int Tryz.underlying3 h10
  injection e11 with e11
  subst e11
  obtain ⟨v12, e12, _, _⟩ := DataW.trod_int Tryz.underlying3 h11
  injection e12 with e12
  subst e12
  obtain ⟨v13, e13, _, _⟩ := DataW.trod_int Tryz.underlying3 h12
  injection e13 with e13
  subst e13
  obtain ⟨v14, e14, _⟩ := DataW.trod_bool Tryz.underlying4 h13
  injection e14 with e14
  subst e14
  obtain ⟨A15, l15, k15, e15⟩ := slice_form Tryz.underlying24 h14
  obtain ⟨A16, l16, k16, e16⟩ := slice_form Tryz.underlying25 h15
  injection e15 with e15
  injection e16 with e16
  subst e15 e16
  obtain ⟨P, hP, _, hPn⟩ := open_parts ⟨n, (show DataW.trod enc Tryz.prog W 0 (fun _ => true) true n 24 (Value.slice A15 l15 k15).cells.toList = some y14 from h14)⟩
  obtain ⟨R, hl, hR, hRn⟩ := open_recs ⟨n, (show DataW.trod enc Tryz.prog W 0 (fun _ => true) true n 25 (Value.slice A16 l16 k16).cells.toList = some y15 from h15)⟩
  have hPl := hP.len
  subst hPl hl
  exact ⟨⟨v0, v1, v2, v3, v4, v5, v6, v7, v8, v9, v10, v11, v12, v13, v14, P, R⟩, A15, A16, k15, k16, rfl, hP, hR, hPn, hRn⟩
end Go.Proofs.YtlpblnioodcbnaaGreatDoor

/-! The document's To. -/
namespace Go.Proofs.YtlpblnioodcbnaaGreatDoor
open Go.RowKit Go.Lib
open Px (R2 tl)

theorem results_to10 {tmps : Array Value} {g : Nat} {h : M.Hdr} {pv v u : Value} {w : World} (hb : HB w g h pv) (h2 : tmps.getD 2 undef = .pointer (some ⟨g, 0, none⟩)) (h3 : tmps.getD 3 undef = v) (h4 : tmps.getD 4 undef = u) :
    (results Tryz.f15 tmps).run Tryz.prog w = .ok (.tuple #[.agg (hcells h pv), v, u]) w := by
  rw [Array.getD_eq_getD_getElem?] at h2 h3 h4
  have hl := hb.load
  simp [results, Tryz.results15, h2, h3, h4, asAddr, hl]
theorem run_loadHdr {w : World} {g : Nat} {h : M.Hdr} {pv rv : Value} (hb : TK w g h pv rv) : (loadVar 36 ⟨g, 0, none⟩).run Tryz.prog w = .ok (.agg (hcells h pv)) w := by
  have hl' : (loadCells ⟨g, 0, none⟩ (hcells h pv).toList.length).run Tryz.prog w = .ok (hcells h pv).toList.toArray w :=
    run_loadCells_list (P := Tryz.prog) w ⟨g, 0, none⟩ (hcells h pv).toList (fun j v hv => by
      have e : (⟨g, 0, none⟩ : Addr).add j = ⟨g, j, none⟩ := by rw [add_plain, Nat.zero_add]
      rw [e]
      refine TK.cell hb ?_
      have hj : (hcells h pv)[j]? = some v := by simpa using hv
      have hlt : j < 17 := by
        have := (Array.getElem?_eq_some_iff.1 hj).1
        simpa [hcells] using this
      rw [← hj]
      have : j = 0 ∨ j = 1 ∨ j = 2 ∨ j = 3 ∨ j = 4 ∨ j = 5 ∨ j = 6 ∨ j = 7 ∨ j = 8 ∨ j = 9 ∨ j = 10 ∨ j = 11 ∨ j = 12 ∨ j = 13 ∨ j = 14 ∨ j = 15 ∨ j = 16 := by omega
      rcases this with rfl | rfl | rfl | rfl | rfl | rfl | rfl | rfl | rfl | rfl | rfl | rfl | rfl | rfl | rfl | rfl | rfl <;> rfl)
  have hagg : (isAgg 36).run Tryz.prog w = .ok true w := by
    unfold isAgg
    rw [Sem.run_bind, run_underlying Tryz.underlying36 w]
    rfl
  cases hq : Tryz.prog.info? 36 with
  | none => have := hdr_size; simp [hq] at this
  | some i =>
    have hs : i.size = 17 := by have := hdr_size; simpa [hq] using this
    have hl2 : (hcells h pv).toList.length = 17 := rfl
    rw [hl2] at hl'
    simp [loadVar, Sem.run_bind, hagg, sizeOf, typeInfo, hq, hs, hl']
theorem wpList_load_hdrT {ops : Array Oper} {rest : List Oper} {o : Oper} {a : Act} {w : World} {Q : Exit → Act → World → Prop} (hgd : o.guard = none) (x : Operand) (ho : o.op = .load 36 x)
    {g : Nat} (hx : a.eval x = .pointer (some ⟨g, 0, none⟩)) {h0 : M.Hdr} {pv rv : Value} (hb : TK w g h0 pv rv)
    (h : wpList Tryz.prog ops Q rest (a.put o.dst (.agg (hcells h0 pv))) w) : wpList Tryz.prog ops Q (o :: rest) a w := by
  refine wpList_plain hgd fun K hK => ?_
  unfold Oper.wp execOp
  simp only [ho, hx, Instr.loadAt, Instr.sureAddr, Sem.run_bind, Sem.run_pure, Result.andThen_ok, run_loadHdr hb]
  exact hK _ _ h
def ToIs10 (m : M.Met) (w : World) (e : Ending) (w' : World) : Prop :=
  ∃ A c, e = .returned (.tuple #[.agg (hcells (M.toH m) (.slice none 0 0)), .slice A (M.toR m).length c, .int .i64 (M.toE m : Nat)]) ∧ Px.RdR w' w'.heap.size A ((M.toR m).map M.mk) ∧ Below w.heap.size w w'
structure Td (w W : World) (m : M.Met) (pv ev : Value) : Prop where
  below : Below w.heap.size w W
  met : MB W w.heap.size m pv ev
  res : HB W (w.heap.size + 1) {} (.slice none 0 0)
theorem Td.later {w W W' : World} {m : M.Met} {pv ev : Value} (p : Td w W m pv ev) (hb : Below W.heap.size W W') : Td w W' m pv ev :=
  ⟨p.below.trans (hb.mono p.below.size), p.met.below hb p.met.lt, p.res.below hb p.res.lt⟩
theorem Td.low {w W W' : World} {m : M.Met} {pv ev : Value} {B : Nat} (p : Td w W m pv ev) (hb : Below B W W') (hB : w.heap.size + 2 ≤ B) : Td w W' m pv ev :=
  ⟨p.below.trans (hb.mono (by omega)), p.met.below hb (by omega), p.res.below hb (by omega)⟩
theorem td_new (w : World) (m : M.Met) (pv ev : Value) : Td w ((w.alloc (.cells (mcells m pv ev) 27)).alloc (.cells #[.string ⟨#[]⟩, .int .i64 0, .int .i64 0, .int .i64 0, .int .i64 0, .int .i64 0, .int .u8 0, .string ⟨#[]⟩, .int .i64 0, .string ⟨#[]⟩, .string ⟨#[]⟩, .int .i64 0, .int .i64 0, .string ⟨#[]⟩, .slice none 0 0, .bool false, .int .i64 0] 36)) m pv ev where
  below := ((Below.refl w.heap.size w).alloc (Nat.le_refl _) _).alloc (by simp) _
  met := (MB.new w m pv ev).alloc _
  res := by
    have t := HB.new (w.alloc (.cells (mcells m pv ev) 27)) {} (.slice none 0 0)
    rw [World.size_alloc] at t
    exact t
theorem wrong10 (m : M.Met) : M.wrong m = if M.within m.kind 48 54 = false then 31 else if M.hasTexts m = false then 33 else if M.hasNumbers m = false then 32 else if (M.isExtra [] m.extra && (!m.holes || M.hasHoles m)) = false then 34 else 0 := by
  unfold M.wrong
  have e : (M.isExtra [] m.extra = false ∨ (m.holes = true ∧ M.hasHoles m = false)) ↔ (M.isExtra [] m.extra && (!m.holes || M.hasHoles m)) = false := by
    cases M.isExtra [] m.extra <;> cases m.holes <;> cases M.hasHoles m <;> simp
  simp only [e]
set_option maxRecDepth 100000 in
set_option maxHeartbeats 8000000 in
theorem to10_any (m : M.Met) (pv ev : Value) (B : Nat) (w : World) (hm : MIn w m pv ev) (hB : B ≤ w.heap.size) (ht : Sp.EV B w) :
    Calls Tryz.prog 15 #[.agg (mcells m pv ev)] w (ToIs10 m w) := by
  have HT := hid (fun (V : World) (hV : Below w.heap.size w V) => And.intro (Nat.le_trans hB hV.size) (ht.on (hV.mono hB)))
  have HI := hid (fun (V : World) (hV : Below w.heap.size w V) => MIn.later hm hV)
  have HF := hid hm.fits
  have HNX := hid hm.nextra
  obtain ⟨Ae, ce, rfl, hre⟩ := hm.extra
  have HRE := hid (fun (V : World) (hV : Below w.heap.size w V) => (hre.below hV).more hV.size)
  have D0 := hid (td_new w m pv (.slice Ae m.extra.length ce))
  have hs0 : ((w.alloc (.cells (mcells m pv (.slice Ae m.extra.length ce)) 27)).alloc (.cells #[.string ⟨#[]⟩, .int .i64 0, .int .i64 0, .int .i64 0, .int .i64 0, .int .i64 0, .int .u8 0, .string ⟨#[]⟩, .int .i64 0, .string ⟨#[]⟩, .string ⟨#[]⟩, .int .i64 0, .int .i64 0, .string ⟨#[]⟩, .slice none 0 0, .bool false, .int .i64 0] 36)).heap.size = w.heap.size + 2 := by simp
  have HWR := hid (wrong10 m)
  clear hm hre ht hB
  go_enter Tryz.func15, Tryz.ntmps15
  go_upto_region 1 with fail
  generalize World.alloc (World.alloc w _) _ = W at *
  clear hs0
  go_upto_region 2 with fail
  go_cut [18] from 11 to 18 (fun v wx => v = .bool (!M.within m.kind 48 54) ∧ Hid (Td w wx m pv (.slice Ae m.extra.length ce)))
  case first =>
    have k2 := D0.out.met.cell (i := 2) (v := .int .u8 m.kind) rfl
    have hwt : M.within m.kind 48 54 = (decide (48 ≤ m.kind) && decide (m.kind ≤ 54)) := rfl
    rcases Int.lt_or_le m.kind 48 with hk | hk
    · have d0 : decide (m.kind < 48) = true := by rw [decide_eq_true_eq]; exact hk
      have e0 : decide (48 ≤ m.kind) = false := by rw [decide_eq_false_iff_not]; omega
      go_wp2_with fail
      go_meet
      case rel => exact ⟨by rw [hwt, e0]; rfl, D0⟩
    · have d0 : decide (m.kind < 48) = false := by rw [decide_eq_false_iff_not]; omega
      have e0 : decide (48 ≤ m.kind) = true := by rw [decide_eq_true_eq]; exact hk
      rcases Int.lt_or_le 54 m.kind with hk2 | hk2
      · have d1 : decide (m.kind > 54) = true := by rw [decide_eq_true_eq]; exact hk2
        have e1 : decide (m.kind ≤ 54) = false := by rw [decide_eq_false_iff_not]; omega
        go_wp2_with fail
        go_meet
        case rel => exact ⟨by rw [hwt, e0, e1]; rfl, D0⟩
      · have d1 : decide (m.kind > 54) = false := by rw [decide_eq_false_iff_not]; omega
        have e1 : decide (m.kind ≤ 54) = true := by rw [decide_eq_true_eq]; exact hk2
        go_wp2_with fail
        go_meet
        case rel => exact ⟨by rw [hwt, e0, e1]; rfl, D0⟩
  obtain ⟨rfl, D1⟩ := hcut
  clear D0
  obtain ⟨b1, hb1⟩ : ∃ b, M.within m.kind 48 54 = b := ⟨_, rfl⟩
  rw [hb1] at HWR ⊢
  clear hb1
  obtain ⟨b2, hb2⟩ : ∃ b, M.hasTexts m = b := ⟨_, rfl⟩
  obtain ⟨b3, hb3⟩ : ∃ b, M.hasNumbers m = b := ⟨_, rfl⟩
  obtain ⟨b4, hb4⟩ : ∃ b, (M.isExtra [] m.extra && (!m.holes || M.hasHoles m)) = b := ⟨_, rfl⟩
  have T2 := hid (fun (V : World) (hV : Below w.heap.size w V) => texts10_any m pv (.slice Ae m.extra.length ce) V (HI.out V hV))
  have T3 := hid (fun (V : World) (hV : Below w.heap.size w V) => numbers10_any m pv (.slice Ae m.extra.length ce) V (HI.out V hV))
  have T4 := hid (fun (V : World) (hV : Below w.heap.size w V) => extra10_any m pv (.slice Ae m.extra.length ce) V (HI.out V hV))
  rw [hb2] at T2 HWR
  rw [hb3] at T3 HWR
  rw [hb4] at T4 HWR
  clear hb2 hb3 hb4
  obtain ⟨n, hn⟩ : ∃ n, M.wrong m = n := ⟨_, rfl⟩
  rw [hn] at HWR
  have HN := hid hn
  clear hn
  obtain ⟨nb, hnb⟩ : ∃ b, (!b1) = b := ⟨_, rfl⟩
  rw [hnb]
  have HNB := hid hnb
  clear hnb
  go_upto_if 18 with fail
  go_cut [5] from 19 to 27 (fun v wx => v = .int .i64 (n : Nat) ∧ Hid (Td w wx m pv (.slice Ae m.extra.length ce)))
  case first =>
    have hb := HNB.out
    cases b1 with
    | false =>
      obtain rfl : nb = true := hb.symm
      obtain rfl : n = 31 := by rw [HWR.out]; rfl
      clear hb HNB
      go_wp2_with fail
      go_meet
      case rel => exact ⟨rfl, D1⟩
    | true =>
      obtain rfl : nb = false := hb.symm
      clear hb HNB
      go_wp2_with (refine wpList_load_row rfl 27 (.tmp 1) rfl w.heap.size (by rfl) 27 (mcells m pv (.slice Ae m.extra.length ce)) (0, 0) _ D1.out.met Tryz.underlying27 rfl met_size ?_)
      (with_reducible refine (T2.out _ D1.out.below).mono ?_)
      rintro e w2 ⟨rfl, q2⟩
      have D2 := hid (D1.out.later q2)
      clear D1 q2 T2
      cases b2 with
      | false =>
        obtain rfl : n = 33 := by rw [HWR.out]; rfl
        go_wp2_with fail
        go_meet
        case rel => exact ⟨rfl, D2⟩
      | true =>
        go_wp2_with (refine wpList_load_row rfl 27 (.tmp 1) rfl w.heap.size (by rfl) 27 (mcells m pv (.slice Ae m.extra.length ce)) (0, 0) _ D2.out.met Tryz.underlying27 rfl met_size ?_)
        (with_reducible refine (T3.out _ D2.out.below).mono ?_)
        rintro e w3 ⟨rfl, q3⟩
        have D3 := hid (D2.out.later q3)
        clear D2 q3 T3
        cases b3 with
        | false =>
          obtain rfl : n = 32 := by rw [HWR.out]; rfl
          go_wp2_with fail
          go_meet
          case rel => exact ⟨rfl, D3⟩
        | true =>
          go_wp2_with (refine wpList_load_row rfl 27 (.tmp 1) rfl w.heap.size (by rfl) 27 (mcells m pv (.slice Ae m.extra.length ce)) (0, 0) _ D3.out.met Tryz.underlying27 rfl met_size ?_)
          (with_reducible refine (T4.out _ D3.out.below).mono ?_)
          rintro e w4 ⟨rfl, q4⟩
          have D4 := hid (D3.out.later q4)
          clear D3 q4 T4
          cases b4 with
          | false =>
            obtain rfl : n = 34 := by rw [HWR.out]; rfl
            go_wp2_with fail
            go_meet
            case rel => exact ⟨rfl, D4⟩
          | true =>
            obtain rfl : n = 0 := by rw [HWR.out]; rfl
            go_wp2_with fail
            go_meet
            case rel => exact ⟨rfl, D4⟩
  obtain ⟨rfl, D5⟩ := hcut
  clear D1 T2 T3 T4 HWR HNB
  by_cases hn0 : n = 0
  case neg =>
    have dn : ((n : Int) != 0) = true := by rw [bne_iff_ne]; omega
    have HE := hid (show M.toE m = n from by unfold M.toE; rw [HN.out, if_pos hn0])
    have HH := hid (show M.toH m = {} from by unfold M.toH; rw [HE.out, if_neg hn0])
    have HR := hid (show M.toR m = [] from by unfold M.toR; rw [HE.out, if_neg hn0])
    clear hn0
    go_wp2_with (refine wpList_store_row rfl 36 (.tmp 2) (.tmp 30) rfl (w.heap.size + 1) (hcells {} (.slice none 0 0)) (by rfl) (by rfl) 36 _ D5.out.res hdr_size rfl (hcells_one _ rfl) ?_)
    have HRw := hid (show HB (wc.setRow (w.heap.size + 1) (hcells {} (.slice none 0 0))) (w.heap.size + 1) {} (.slice none 0 0) from setRow_heap _ _ _ _ _ _ D5.out.res)
    refine bodyPost_ret (results_to10 HRw.out rfl rfl rfl) rfl ?_
    refine ⟨none, 0, by rw [HE.out, HH.out, HR.out]; rfl, by rw [HR.out]; exact Px.RdR.none_, below_setRow D5.out.below (g := w.heap.size + 1) (by omega) _⟩
  subst hn0
  have R := M.right_of HN.out
  have HRt := hid R
  go_wp2_with (refine wpList_load_row rfl 27 (.tmp 1) rfl w.heap.size (by rfl) 27 (mcells m pv (.slice Ae m.extra.length ce)) (0, 0) _ D5.out.met Tryz.underlying27 rfl met_size ?_)
  refine (laid10_any m pv (.slice Ae m.extra.length ce) B wc (HI.out _ D5.out.below) R (HT.out _ D5.out.below).1 (HT.out _ D5.out.below).2).mono ?_
  rintro e w6 ⟨v6, rfl, o6, q6⟩
  clear R
  have D6 := hid (D5.out.later q6)
  have HO6 := hid o6
  obtain ⟨A6, n6, c6, rfl⟩ : ∃ A n c, v6 = .slice A n c := by obtain ⟨A, c, e, _⟩ := o6.rd; exact ⟨A, _, c, e⟩
  have hn6 : n6 = ((M.gives m).map M.mk).length := by obtain ⟨A', c', e, _⟩ := o6.rd; injection e
  have HN6 := hid hn6
  clear D5 q6 o6 hn6
  go_upto_region 13 with (refine wpList_store_row rfl 89 (.tmp 6) (.tmp 33) rfl w6.heap.size (tcells (M.head m) (.slice none 0 0) (.slice A6 n6 c6)) (by rfl) (by rfl) 89 _ (heap_alloc_new w6 _) t_size rfl (tcells_one _ rfl rfl) ?_; rw [World.setRow_alloc_new])
  have q7 := (Below.refl w6.heap.size w6).alloc (Nat.le_refl _) (.cells (tcells (M.head m) (.slice none 0 0) (.slice A6 n6 c6)) 89)
  have K7 := hid (TK.new w6 (M.head m) (.slice none 0 0) (.slice A6 n6 c6))
  have D7 := hid (D6.out.later q7)
  have HR7 := hid (ownR_rd (HO6.out.alloc (.cells (tcells (M.head m) (.slice none 0 0) (.slice A6 n6 c6)) 89)))
  clear D6 HO6 q7
  generalize World.alloc w6 _ = w7 at *
  generalize w6.heap.size = g6 at *
  have k17 := K7.out.cell (i := 17) (v := .slice A6 n6 c6) rfl
  have HGL := hid (M.gives_len m)
  have hgl : ((M.gives m).map M.mk).length ≤ 10 := by rw [List.length_map]; exact HGL.out
  obtain ⟨gv, hgv⟩ : ∃ g, (M.gives m).map M.mk = g := ⟨_, rfl⟩
  rw [hgv] at HR7 HN6 hgl
  have HGV := hid hgv
  clear hgv HGL
  go_upto_region 15 with (at_builtin; refine Px.wpList_appRs rfl (.tmp 34) (.tmp 36) rfl w7.heap.size (.slice none 0 0) [] gv rfl (Px.OwnR.nil _ _) (Nat.le_refl _) A6 c6 (by show Value.slice A6 n6 c6 = _; rw [HN6.out]) w7.heap.size HR7.out (by simp; omega) ?_)
  intro v8 w8 l8 HL8 hn8 o8 b8 _
  obtain rfl : l8 = gv := HL8.out
  have D8 := hid (D7.out.later b8)
  have K8 := hid (K7.out.below b8 K7.out.lt)
  have hs8 : w7.heap.size ≤ w8.heap.size := b8.size
  have k16 := D8.out.met.cell (i := 16) (v := .slice Ae m.extra.length ce) rfl
  have HRE8 := hid (HRE.out _ D8.out.below)
  have hnx := HNX.out
  have hg7 : g6 < w7.heap.size := K7.out.lt
  have hw7 : w.heap.size + 2 ≤ w7.heap.size := D7.out.res.lt
  clear D7 K7 HR7 b8 k17 hn8
  go_upto_region 16 with (at_builtin; refine Px.wpList_appRs rfl (.tmp 38) (.tmp 40) rfl w7.heap.size v8 l8 m.extra rfl o8 hs8 Ae ce rfl w8.heap.size HRE8.out (by omega) ?_)
  intro v9 w9 l9 HL9 hn9 o9 b9 _
  have D9 := hid (D8.out.low b9 hw7)
  have K9 := hid (K8.out.below b9 hg7)
  have hl9 : l9.length ≤ 1000000 := by omega
  have b9s : w7.heap.size ≤ w9.heap.size := Nat.le_trans hs8 b9.size
  have hrc : Px.rcs l9 = M.gives m ++ m.extra.map M.rc := by
    rw [HL9.out, ← HGV.out, show Px.rcs ((M.gives m).map M.mk ++ m.extra) = Px.rcs ((M.gives m).map M.mk) ++ Px.rcs m.extra from List.map_append, rcs_mk]
    rfl
  have hap : M.Apart (Px.rcs l9) := by rw [hrc]; exact M.all_apart HRt.out
  obtain ⟨A9, c9, rfl, hr9, _, _⟩ := o9.rd
  have HRC := hid hrc
  have HS9 := hid (sorted10_any A9 c9 l9 hl9 hap w9 hr9)
  clear D8 K8 k16 HRE8 hn9 o9 b9 hrc hap hr9 o8 hs8
  go_wp2_with fail
  refine HS9.out.mono ?_
  rintro e w10 ⟨v10, L, rfl, HE10, o10, hL10, b10⟩
  have D10 := hid (D9.out.later b10)
  have K10 := hid (K9.out.below b10 K9.out.lt)
  have hrl : Px.rcs L = M.recsOf m := by rw [HE10.out, HRC.out]; exact M.puts_recs HRt.out
  have hLm : L = (M.recsOf m).map M.mk := by rw [← hrl]; exact (M.map_mk_rc L).symm
  have HRL := hid hrl
  have HLM := hid hLm
  have hsh : Px.Short L := fun r hr => by
    have h1 : M.rc r ∈ M.recsOf m := by rw [← hrl]; exact List.mem_map_of_mem hr
    rcases M.merge_mem h1 with h2 | h2
    · have h3 := M.gives_short HRt.out _ h2
      have h4 : (tl r.1).length ≤ 100 ∧ (tl r.2).length ≤ 1000000 := h3
      show (tl r.1).length + (tl r.2).length ≤ _
      omega
    · obtain ⟨q, hq, he⟩ := List.mem_map.1 h2
      have h5 := HF.out q hq
      have e1 : tl q.1 = tl r.1 := congrArg Prod.fst he
      have e2 : tl q.2 = tl r.2 := congrArg Prod.snd he
      have h6 : (tl q.1).length = q.1.size := rfl
      have h7 : (tl q.2).length = q.2.size := rfl
      show (tl r.1).length + (tl r.2).length ≤ _
      rw [← e1, ← e2]
      omega
  obtain ⟨A10, c10, rfl, hr10, _, _⟩ := o10.rd
  have hLn : L.length ≤ 1000000 := by omega
  have HPR := hid (Px.refPrint_any A10 c10 L hLn hsh B w10 (HT.out _ D10.out.below).1 (HT.out _ D10.out.below).2.tens hr10)
  have HO10 := hid o10
  clear D9 K9 HS9 HE10 hrl hLm hsh hr10 o10 b10 HRC hL10
  go_wp2_with fail
  refine HPR.out.mono ?_
  rintro e w11 ⟨v11, rfl, _, b11⟩
  have D11 := hid (D10.out.later b11)
  have K11 := hid (K10.out.below b11 K10.out.lt)
  have HO11 := hid (HO10.out.below b11)
  have HEE := hid (show Px.M.printE (Px.rcs L) = M.toE m from by rw [HRL.out]; unfold M.toE; rw [HN.out, if_neg (by simp)])
  clear D10 K10 HPR HO10 b11
  obtain ⟨f, hf⟩ : ∃ f, Px.M.printE (Px.rcs L) = f := ⟨_, rfl⟩
  rw [hf] at HEE ⊢
  clear hf
  by_cases hf0 : f = 0
  case neg =>
    have dn : ((f : Int) != 0) = true := by rw [bne_iff_ne]; omega
    have HH := hid (show M.toH m = {} from by unfold M.toH; rw [← HEE.out, if_neg hf0])
    have HR := hid (show M.toR m = [] from by unfold M.toR; rw [← HEE.out, if_neg hf0])
    clear hf0
    go_wp2_with (refine wpList_store_row rfl 36 (.tmp 2) (.tmp 51) rfl (w.heap.size + 1) (hcells {} (.slice none 0 0)) (by rfl) (by rfl) 36 _ D11.out.res hdr_size rfl (hcells_one _ rfl) ?_)
    have HRw := hid (show HB (w11.setRow (w.heap.size + 1) (hcells {} (.slice none 0 0))) (w.heap.size + 1) {} (.slice none 0 0) from setRow_heap _ _ _ _ _ _ D11.out.res)
    refine bodyPost_ret (results_to10 HRw.out rfl rfl rfl) rfl ?_
    refine ⟨none, 0, by rw [← HEE.out, HH.out, HR.out]; rfl, by rw [HR.out]; exact Px.RdR.none_, below_setRow D11.out.below (g := w.heap.size + 1) (by omega) _⟩
  subst hf0
  have HE1 := hid (show M.toE m = 0 from HEE.out.symm)
  have HH := hid (show M.toH m = M.head m from by unfold M.toH; rw [HE1.out, if_pos rfl])
  have HR := hid (show (M.toR m).map M.mk = L from by unfold M.toR; rw [HE1.out, if_pos rfl]; exact HLM.out.symm)
  go_wp2_with (first | (refine wpList_load_hdrT rfl (.tmp 53) rfl (by rfl) K11.out ?_) | refine wpList_store_row rfl 36 (.tmp 2) (.tmp 54) rfl (w.heap.size + 1) (hcells (M.head m) (.slice none 0 0)) (by rfl) (by rfl) 36 _ D11.out.res hdr_size rfl (hcells_one _ rfl) ?_)
  have HRw := hid (show HB (w11.setRow (w.heap.size + 1) (hcells (M.head m) (.slice none 0 0))) (w.heap.size + 1) (M.head m) (.slice none 0 0) from setRow_heap _ _ _ _ _ _ D11.out.res)
  refine bodyPost_ret (results_to10 HRw.out rfl rfl rfl) rfl ?_
  have hlr : L.length = (M.toR m).length := by rw [← HR.out, List.length_map]
  have hw11 : w.heap.size + 1 < w9.heap.size := Nat.lt_of_lt_of_le hw7 b9s
  refine ⟨A10, c10, by rw [HE1.out, HH.out, ← hlr]; rfl, ?_, below_setRow D11.out.below (g := w.heap.size + 1) (by omega) _⟩
  rw [HR.out]
  exact ownR_rd (ownR_row HO11.out (g := w.heap.size + 1) hw11 _)
end Go.Proofs.YtlpblnioodcbnaaGreatDoor

/-! To of one that is known is what the chapter says: the program's answer and the document's, held against each other. -/
namespace Go.Proofs.YtlpblnioodcbnaaGreatDoor
open Go.RowKit Go.Lib
open Px (R2 tl)

theorem one8 {W : World} {m : M.Met} {pv ev : Value} (h : MIn W m pv ev) : pv.oneCell' = true ∧ ev.oneCell' = true := by
  obtain ⟨P, p, rfl, _⟩ := h.parts
  obtain ⟨E, c, rfl, _⟩ := h.extra
  exact ⟨rfl, rfl⟩
set_option maxRecDepth 100000 in
set_option maxHeartbeats 2000000 in
theorem sameH10 (h : M.Hdr) (w : World) :
    Calls Tryz.prog 16 #[.agg (hcells h (.slice none 0 0)), .agg (hcells h (.slice none 0 0))] w fun e w' => e = .returned (.bool true) ∧ Below w.heap.size w w' := by
  have hb1 : Below w.heap.size w ((w.alloc (.cells (hcells h (.slice none 0 0)) 36)).alloc (.cells (hcells h (.slice none 0 0)) 36)) :=
    ((Below.refl _ _).alloc (Nat.le_refl _) _).alloc (by simp) _
  have T1 := hid ((HB.new w h (.slice none 0 0)).alloc (.cells (hcells h (.slice none 0 0)) 36))
  have t2 := HB.new (w.alloc (.cells (hcells h (.slice none 0 0)) 36)) h (.slice none 0 0)
  rw [World.size_alloc] at t2
  have T2 := hid t2
  have HW := hid hb1
  clear t2 hb1
  have k14 := HB.cell T1.out (i := 14) (v := .slice none 0 0) rfl
  have l14 := HB.cell T2.out (i := 14) (v := .slice none 0 0) rfl
  go_enter Tryz.func16, Tryz.ntmps16
  go_wp2_with fail
  generalize (World.alloc (World.alloc w _) _) = W at *
  go_loopw [5] (fun i wr => i = .int .i64 0 ∧ W = wr) (fun i _ => 1)
  case atStart => exact ⟨rfl, rfl⟩
  case round =>
    obtain ⟨rfl, rfl⟩ := hrel
    have k0 := HB.cell T1.out (i := 0) (v := .string h.name) rfl
    have k1 := HB.cell T1.out (i := 1) (v := .int .i64 h.mode) rfl
    have k2 := HB.cell T1.out (i := 2) (v := .int .i64 h.uid) rfl
    have k3 := HB.cell T1.out (i := 3) (v := .int .i64 h.gid) rfl
    have k4 := HB.cell T1.out (i := 4) (v := .int .i64 h.size) rfl
    have k5 := HB.cell T1.out (i := 5) (v := .int .i64 h.mtime) rfl
    have k6 := HB.cell T1.out (i := 6) (v := .int .u8 h.kind) rfl
    have k7 := HB.cell T1.out (i := 7) (v := .string h.link) rfl
    have k8 := HB.cell T1.out (i := 8) (v := .int .i64 h.way) rfl
    have k9 := HB.cell T1.out (i := 9) (v := .string h.user) rfl
    have k10 := HB.cell T1.out (i := 10) (v := .string h.group) rfl
    have k11 := HB.cell T1.out (i := 11) (v := .int .i64 h.major) rfl
    have k12 := HB.cell T1.out (i := 12) (v := .int .i64 h.minor) rfl
    have k13 := HB.cell T1.out (i := 13) (v := .string h.pre) rfl
    have k15 := HB.cell T1.out (i := 15) (v := .bool h.more) rfl
    have k16 := HB.cell T1.out (i := 16) (v := .int .i64 h.real) rfl
    have l0 := HB.cell T2.out (i := 0) (v := .string h.name) rfl
    have l1 := HB.cell T2.out (i := 1) (v := .int .i64 h.mode) rfl
    have l2 := HB.cell T2.out (i := 2) (v := .int .i64 h.uid) rfl
    have l3 := HB.cell T2.out (i := 3) (v := .int .i64 h.gid) rfl
    have l4 := HB.cell T2.out (i := 4) (v := .int .i64 h.size) rfl
    have l5 := HB.cell T2.out (i := 5) (v := .int .i64 h.mtime) rfl
    have l6 := HB.cell T2.out (i := 6) (v := .int .u8 h.kind) rfl
    have l7 := HB.cell T2.out (i := 7) (v := .string h.link) rfl
    have l8 := HB.cell T2.out (i := 8) (v := .int .i64 h.way) rfl
    have l9 := HB.cell T2.out (i := 9) (v := .string h.user) rfl
    have l10 := HB.cell T2.out (i := 10) (v := .string h.group) rfl
    have l11 := HB.cell T2.out (i := 11) (v := .int .i64 h.major) rfl
    have l12 := HB.cell T2.out (i := 12) (v := .int .i64 h.minor) rfl
    have l13 := HB.cell T2.out (i := 13) (v := .string h.pre) rfl
    have l15 := HB.cell T2.out (i := 15) (v := .bool h.more) rfl
    have l16 := HB.cell T2.out (i := 16) (v := .int .i64 h.real) rfl
    clear T1 T2
    go_wp2_with fail
    go_ret
    exact ⟨rfl, HW.out⟩
theorem toE_le (m : M.Met) : M.toE m ≤ 34 := by
  unfold M.toE M.wrong Px.M.printE
  split <;> (repeat' split) <;> omega
set_option maxRecDepth 100000 in
set_option maxHeartbeats 4000000 in
theorem tells10_any (m : M.Met) (pv ev : Value) (B : Nat) (w : World) (hm : MIn w m pv ev) (hB : B ≤ w.heap.size) (ht : Sp.EV B w) :
    Calls Tryz.prog 6 #[.agg (mcells m pv ev)] w fun e w' => e = .returned (.bool true) ∧ Below w.heap.size w w' := by
  have HT := hid (fun (V : World) (hV : Below w.heap.size w V) => And.intro (Nat.le_trans hB hV.size) (ht.on (hV.mono hB)))
  have HI := hid (fun (V : World) (hV : Below w.heap.size w V) => MIn.later hm hV)
  have HP := hid (one8 hm)
  have HW := hid ((Below.refl w.heap.size w).alloc (Nat.le_refl _) (.cells (mcells m pv ev) 27))
  have M1 := hid (MB.new w m pv ev)
  clear hm ht hB
  go_enter Tryz.func6, Tryz.ntmps6
  go_upto_region 1 with fail
  have hs0 : w.heap.size < (World.alloc w (.cells (mcells m pv ev) 27)).heap.size := by rw [World.size_alloc]; exact Nat.lt_succ_self _
  generalize World.alloc w _ = W at *
  go_wp2_with (refine wpList_load_row rfl 27 (.tmp 1) rfl w.heap.size (by rfl) 27 (mcells m pv ev) (0, 0) _ M1.out Tryz.underlying27 rfl met_size ?_)
  (with_reducible refine (to_any m pv ev B W (HI.out _ HW.out) (HT.out _ HW.out).1 (HT.out _ HW.out).2).mono ?_)
  rintro e w2 ⟨A2, c2, rfl, hr2, _, b2⟩
  have HB2 := hid (HW.out.trans (b2.mono HW.out.size))
  have M2 := hid (M1.out.below b2 hs0)
  have HR2 := hid hr2
  have hs2 : w.heap.size < w2.heap.size := Nat.lt_of_lt_of_le hs0 b2.size
  clear HW M1 hr2 b2 hs0
  go_upto_region 2 with (refine wpList_store_row rfl 36 (.tmp 3) (.tmp 13) rfl w2.heap.size (hcells (M.toH m) (.slice none 0 0)) (by simp [Act.eval]) (by simp [Act.eval]) 36 (hcells {} (.slice none 0 0)) (heap_alloc_new w2 _) hdr_size rfl (hcells_one _ rfl) ?_; rw [World.setRow_alloc_new])
  have b3 := (Below.refl w2.heap.size w2).alloc (Nat.le_refl _) (.cells (hcells (M.toH m) (.slice none 0 0)) 36)
  have H3 := hid (HB.new w2 (M.toH m) (.slice none 0 0))
  have HB3 := hid (HB2.out.trans (b3.mono HB2.out.size))
  have M3 := hid (M2.out.below b3 hs2)
  have HR3 := hid ((HR2.out.below b3).more b3.size)
  have hs3 : w2.heap.size < (World.alloc w2 (.cells (hcells (M.toH m) (.slice none 0 0)) 36)).heap.size := by rw [World.size_alloc]; exact Nat.lt_succ_self _
  clear HB2 M2 HR2 b3
  generalize World.alloc w2 _ = w3 at *
  generalize w2.heap.size = g2 at *
  go_wp2_with (refine wpList_load_row rfl 27 (.tmp 1) rfl w.heap.size (by rfl) 27 (mcells m pv ev) (0, 0) _ M3.out Tryz.underlying27 rfl met_size ?_)
  (with_reducible refine (to10_any m pv ev B w3 (HI.out _ HB3.out) (HT.out _ HB3.out).1 (HT.out _ HB3.out).2).mono ?_)
  rintro e w4 ⟨A4, c4, rfl, hr4, b4⟩
  have HB4 := hid (HB3.out.trans (b4.mono HB3.out.size))
  have H4 := hid (H3.out.below b4 hs3)
  have HR4 := hid ((HR3.out.below b4).more b4.size)
  have HQ4 := hid hr4
  have hs4 : g2 < w4.heap.size := Nat.lt_of_lt_of_le hs3 b4.size
  clear HB3 M3 H3 HR3 hr4 b4 hs3 HI
  go_upto_region 3 with (refine wpList_store_row rfl 36 (.tmp 6) (.tmp 19) rfl w4.heap.size (hcells (M.toH m) (.slice none 0 0)) (by simp [Act.eval]) (by simp [Act.eval]) 36 (hcells {} (.slice none 0 0)) (heap_alloc_new w4 _) hdr_size rfl (hcells_one _ rfl) ?_; rw [World.setRow_alloc_new])
  have b5 := (Below.refl w4.heap.size w4).alloc (Nat.le_refl _) (.cells (hcells (M.toH m) (.slice none 0 0)) 36)
  have G5 := hid (HB.new w4 (M.toH m) (.slice none 0 0))
  have H5 := hid (H4.out.below b5 hs4)
  have HB5 := hid (HB4.out.trans (b5.mono HB4.out.size))
  have HR5 := hid ((HR4.out.below b5).more b5.size)
  have HQ5 := hid ((HQ4.out.below b5).more b5.size)
  clear HB4 H4 HR4 HQ4 b5 hs4
  generalize World.alloc w4 _ = w5 at *
  generalize w4.heap.size = g4 at *
  go_wp2_with (first
    | (refine wpList_load_row rfl 36 (.tmp 3) rfl g2 (by rfl) 36 (hcells (M.toH m) (.slice none 0 0)) (0, 0) _ H5.out Tryz.underlying36 rfl hdr_size ?_)
    | (refine wpList_load_row rfl 36 (.tmp 6) rfl g4 (by rfl) 36 (hcells (M.toH m) (.slice none 0 0)) (0, 0) _ G5.out Tryz.underlying36 rfl hdr_size ?_))
  (with_reducible refine (sameH10 (M.toH m) w5).mono ?_)
  rintro e w6 ⟨rfl, b6⟩
  have HB6 := hid (HB5.out.trans (b6.mono HB5.out.size))
  have hlr : ((M.toR m).map M.mk).length = (M.toR m).length := List.length_map _
  have hl8 : (M.toR m).length ≤ 1000000 := by
    unfold M.toR
    split
    · rename_i h
      have h2 := recs_len (l := M.recsOf m) (by
        unfold M.toE at h
        split at h
        · rename_i h1; exact absurd h h1
        · exact h)
      omega
    · simp
  have HS := hid (Px.same_any A2 c2 ((M.toR m).map M.mk) A4 c4 ((M.toR m).map M.mk) (by rw [hlr]; exact hl8) (by rw [hlr]; exact hl8) w6.heap.size w6 ((HR5.out.below b6).more b6.size) ((HQ5.out.below b6).more b6.size))
  rw [hlr] at HS
  clear H5 G5 HB5 HR5 HQ5 b6 hlr hl8
  generalize (M.toR m).length = nr at *
  have her := toE_le m
  generalize (M.toE m : Nat) = er at *
  have hwe : wrap64 (er : Int) = (er : Int) := by unfold wrap64; omega
  go_wp2_with fail
  refine HS.out.mono ?_
  rintro e w7 ⟨rfl, b7⟩
  have HB7 := hid (HB6.out.trans (b7.mono HB6.out.size))
  clear HS b7 HB6
  simp only [decide_true]
  go_wp2_with fail
  go_ret
  exact ⟨rfl, HB7.out⟩
end Go.Proofs.YtlpblnioodcbnaaGreatDoor

/-! What is known of a member, as choices say. -/
namespace Go.Proofs.YtlpblnioodcbnaaGreatDoor
open Go.RowKit Go.Lib
open Px (R2 tl)

structure MBut (g r : Nat) (w w' : World) : Prop where
  os : w'.os = w.os
  tape : w'.tape = w.tape
  output : w'.output = w.output
  size : w.heap.size ≤ w'.heap.size
  block : ∀ k, k < w.heap.size → k ≠ g → k ≠ r → w'.heap[k]? = w.heap[k]?
theorem MBut.refl (g r : Nat) (w : World) : MBut g r w w := ⟨rfl, rfl, rfl, Nat.le_refl _, fun _ _ _ _ => rfl⟩
theorem MBut.trans {g r : Nat} {a b c : World} (h : MBut g r a b) (k : MBut g r b c) : MBut g r a c :=
  ⟨k.os.trans h.os, k.tape.trans h.tape, k.output.trans h.output, Nat.le_trans h.size k.size, fun i hi hg hr => (k.block i (Nat.lt_of_lt_of_le hi h.size) hg hr).trans (h.block i hi hg hr)⟩
theorem MBut.of_below {g r : Nat} {w w' : World} (h : Below w.heap.size w w') : MBut g r w w' := ⟨h.os, h.tape, h.output, h.size, fun k hk _ _ => h.block k hk⟩
theorem MBut.set (g : Nat) {r : Nat} (w : World) (i : Nat) (v : Value) : MBut g r w (w.setCell ⟨g, i, none⟩ v) := ⟨rfl, rfl, rfl, by simp [World.setCell], fun k _ hk _ => Below.heap_setCell _ _ _ _ hk⟩
theorem MBut.row (g r : Nat) (w : World) (cs : Array Value) : MBut g r w (w.setRow r cs) := ⟨rfl, rfl, rfl, by simp, fun k _ _ hk => setRow_other w r k cs hk⟩
structure MQ (nb : Nat) (w W : World) (g : Nat) : Prop where
  ex : ∃ m pv ev, MB W g m pv ev ∧ (∀ W', MBut g w.heap.size W W' → MIn W' m pv ev) ∧ (1 ≤ m.name.size ∧ m.name.size ≤ nb)
  res : MB W w.heap.size {} (.slice none 0 0) (.slice none 0 0)
  low : w.heap.size < g
  below : Below w.heap.size w W
theorem MQ.lt {nb : Nat} {w W : World} {g : Nat} (q : MQ nb w W g) : g < W.heap.size := by obtain ⟨m, pv, ev, h, _⟩ := q.ex; exact h.lt
theorem MQ.later {nb : Nat} {w W W' : World} {g : Nat} (q : MQ nb w W g) (hb : Below W.heap.size W W') : MQ nb w W' g := by
  obtain ⟨m, pv, ev, h1, h2, h3⟩ := q.ex
  exact ⟨⟨m, pv, ev, h1.below hb h1.lt, fun W2 h => h2 W2 ((MBut.of_below hb).trans h), h3⟩, q.res.below hb q.res.lt, q.low, q.below.trans (hb.mono q.below.size)⟩
theorem MQ.set {nb : Nat} {w W : World} {g : Nat} (q : MQ nb w W g) (i : Nat) (v : Value) (up : M.Met → M.Met) (e : ∀ m pv ev, (mcells m pv ev).set! i v = mcells (up m) pv ev) (hup : ∀ W m pv ev, MIn W m pv ev → MIn W (up m) pv ev)
    (hn : ∀ m : M.Met, 1 ≤ m.name.size ∧ m.name.size ≤ nb → 1 ≤ (up m).name.size ∧ (up m).name.size ≤ nb) : MQ nb w (W.setCell ⟨g, i, none⟩ v) g := by
  obtain ⟨m, pv, ev, h1, h2, h3⟩ := q.ex
  refine ⟨⟨up m, pv, ev, h1.set i v (e m pv ev), fun W2 h => hup _ _ _ _ (h2 W2 ((MBut.set g W i v).trans h)), hn m h3⟩, q.res.other (by have := q.low; show w.heap.size ≠ g; omega) v, q.low, q.below.setCell (p := ⟨g, i, none⟩) (Nat.le_of_lt q.low) v⟩
theorem MQ.size {nb : Nat} {w W : World} {g : Nat} (q : MQ nb w W g) : w.heap.size ≤ W.heap.size := q.below.size
theorem MQ.at_ {nb : Nat} {w W : World} {g : Nat} (q : MQ nb w W g) (i : Nat) (hi : i < 17) : ∃ v, W.cell? ⟨g, i, none⟩ = some v ∧ W.frozen? ⟨g, i, none⟩ = false := by
  obtain ⟨m, pv, ev, h1, _⟩ := q.ex
  have hs : i < (mcells m pv ev).size := hi
  exact ⟨(mcells m pv ev)[i], h1.cell (Array.getElem?_eq_getElem hs), h1.frozen i⟩
theorem MQ.kind {nb : Nat} {w W : World} {g : Nat} (q : MQ nb w W g) : ∃ z : Int, W.cell? ⟨g, 2, none⟩ = some (.int .u8 z) := by
  obtain ⟨m, pv, ev, h1, _⟩ := q.ex
  exact ⟨m.kind, h1.cell rfl⟩
theorem MQ.name {nb : Nat} {w W : World} {g : Nat} (q : MQ nb w W g) : ∃ s : ByteArray, W.cell? ⟨g, 0, none⟩ = some (.string s) ∧ W.frozen? ⟨g, 0, none⟩ = false ∧ 1 ≤ s.size ∧ s.size ≤ nb := by
  obtain ⟨m, pv, ev, h1, _, h3⟩ := q.ex
  exact ⟨m.name, h1.cell rfl, h1.frozen 0, h3⟩
section
variable {W : World} {m : M.Met} {pv ev : Value}
theorem MIn.nan_ {x : Int} (hx : -9223372036854775808 ≤ x ∧ x ≤ 9223372036854775807) (h : MIn W m pv ev) : MIn W { m with nan := x } pv ev :=
  ⟨h.parts, h.extra, h.nparts, h.nextra, h.i64s, h.fits, h.kind, h.texts, ⟨h.ints.1, h.ints.2.1, h.ints.2.2.1, h.ints.2.2.2.1, hx, h.ints.2.2.2.2.2⟩⟩
theorem MIn.mode_ {x : Int} (hx : -9223372036854775808 ≤ x ∧ x ≤ 9223372036854775807) (h : MIn W m pv ev) : MIn W { m with mode := x } pv ev :=
  ⟨h.parts, h.extra, h.nparts, h.nextra, h.i64s, h.fits, h.kind, h.texts, ⟨hx, h.ints.2⟩⟩
theorem MIn.major_ {x : Int} (hx : -9223372036854775808 ≤ x ∧ x ≤ 9223372036854775807) (h : MIn W m pv ev) : MIn W { m with major := x } pv ev :=
  ⟨h.parts, h.extra, h.nparts, h.nextra, h.i64s, h.fits, h.kind, h.texts, ⟨h.ints.1, h.ints.2.1, h.ints.2.2.1, h.ints.2.2.2.1, h.ints.2.2.2.2.1, hx, h.ints.2.2.2.2.2.2⟩⟩
theorem MIn.minor_ {x : Int} (hx : -9223372036854775808 ≤ x ∧ x ≤ 9223372036854775807) (h : MIn W m pv ev) : MIn W { m with minor := x } pv ev :=
  ⟨h.parts, h.extra, h.nparts, h.nextra, h.i64s, h.fits, h.kind, h.texts, ⟨h.ints.1, h.ints.2.1, h.ints.2.2.1, h.ints.2.2.2.1, h.ints.2.2.2.2.1, h.ints.2.2.2.2.2.1, hx, h.ints.2.2.2.2.2.2.2⟩⟩
theorem MIn.size_ {x : Int} (hx : -9223372036854775808 ≤ x ∧ x ≤ 9223372036854775807) (h : MIn W m pv ev) : MIn W { m with size := x } pv ev :=
  ⟨h.parts, h.extra, h.nparts, h.nextra, h.i64s, h.fits, h.kind, h.texts, ⟨h.ints.1, h.ints.2.1, h.ints.2.2.1, h.ints.2.2.2.1, h.ints.2.2.2.2.1, h.ints.2.2.2.2.2.1, h.ints.2.2.2.2.2.2.1, hx, h.ints.2.2.2.2.2.2.2.2⟩⟩
theorem MIn.real_ {x : Int} (hx : -9223372036854775808 ≤ x ∧ x ≤ 9223372036854775807) (h : MIn W m pv ev) : MIn W { m with real := x } pv ev :=
  ⟨h.parts, h.extra, h.nparts, h.nextra, h.i64s, h.fits, h.kind, h.texts, ⟨h.ints.1, h.ints.2.1, h.ints.2.2.1, h.ints.2.2.2.1, h.ints.2.2.2.2.1, h.ints.2.2.2.2.2.1, h.ints.2.2.2.2.2.2.1, h.ints.2.2.2.2.2.2.2.1, hx⟩⟩
theorem MIn.name_ {s : ByteArray} (hx : s.size ≤ 1000000) (h : MIn W m pv ev) : MIn W { m with name := s } pv ev :=
  ⟨h.parts, h.extra, h.nparts, h.nextra, h.i64s, h.fits, h.kind, ⟨hx, h.texts.2⟩, h.ints⟩
theorem MIn.link_ {s : ByteArray} (hx : s.size ≤ 1000000) (h : MIn W m pv ev) : MIn W { m with link := s } pv ev :=
  ⟨h.parts, h.extra, h.nparts, h.nextra, h.i64s, h.fits, h.kind, ⟨h.texts.1, hx, h.texts.2.2⟩, h.ints⟩
theorem MIn.holes_ (b : Bool) (h : MIn W m pv ev) : MIn W { m with holes := b } pv ev :=
  ⟨h.parts, h.extra, h.nparts, h.nextra, h.i64s, h.fits, h.kind, h.texts, h.ints⟩
theorem oneP (h : MIn W m pv ev) : pv.oneCell' = true ∧ ev.oneCell' = true := by
  obtain ⟨A, c, e1, _⟩ := h.parts
  obtain ⟨A', c', e2, _⟩ := h.extra
  rw [e1, e2]; exact ⟨rfl, rfl⟩
end
theorem results_law {tmps : Array Value} {g : Nat} {m : M.Met} {pv ev : Value} {w : World} (hb : MB w g m pv ev) (h2 : tmps.getD 2 undef = .pointer (some ⟨g, 0, none⟩)) :
    (results Tryz.f7 tmps).run Tryz.prog w = .ok (.agg (mcells m pv ev)) w := by
  rw [Array.getD_eq_getD_getElem?] at h2
  have hl := run_loadVar_row (P := Tryz.prog) w g 27 27 (mcells m pv ev) (0, 0) _ hb Tryz.underlying27 rfl met_size
  simp [results, Tryz.results7, h2, asAddr, hl]
theorem MQ.weak {nb nc : Nat} {w W : World} {g : Nat} (q : MQ nb w W g) (h : nb ≤ nc) : MQ nc w W g := by
  obtain ⟨m, pv, ev, h1, h2, h3⟩ := q.ex
  exact ⟨⟨m, pv, ev, h1, h2, h3.1, Nat.le_trans h3.2 h⟩, q.res, q.low, q.below⟩
theorem MQ.rename {nb : Nat} {w W : World} {g : Nat} (q : MQ nb w W g) (nc : Nat) (s : ByteArray) (h : 1 ≤ s.size ∧ s.size ≤ nc) (hc : nc ≤ 1000000) : MQ nc w (W.setCell ⟨g, 0, none⟩ (.string s)) g := by
  obtain ⟨m, pv, ev, h1, h2, h3⟩ := q.ex
  refine ⟨⟨{ m with name := s }, pv, ev, h1.set 0 (.string s) rfl, fun W2 hW => (h2 W2 ((MBut.set g W 0 (.string s)).trans hW)).name_ (Nat.le_trans h.2 hc), h⟩, q.res.other (by have := q.low; show w.heap.size ≠ g; omega) (.string s), q.low, q.below.setCell (p := ⟨g, 0, none⟩) (Nat.le_of_lt q.low) (.string s)⟩
theorem MQ.sz {nb : Nat} {w W : World} {g : Nat} (q : MQ nb w W g) : ∃ z : Int, W.cell? ⟨g, 12, none⟩ = some (.int .i64 z) ∧ -9223372036854775808 ≤ z ∧ z ≤ 9223372036854775807 := by
  obtain ⟨m, pv, ev, h1, h2, h3⟩ := q.ex
  exact ⟨m.size, h1.cell rfl, (h2 W (MBut.refl _ _ _)).ints.2.2.2.2.2.2.2.1⟩
theorem own_but {g : Nat} {W W' : World} {base : Nat} {e : TypeId} {size : Nat} {v : Value} {n : Nat} {xs : List Value} (h : W.ownsRow base e size v n xs) (hb : g < base) {r : Nat} (hr : r < base) (hw : MBut g r W W') : W'.ownsRow base e size v n xs := by
  refine ⟨h.1, ?_⟩
  rcases h.2 with hn | ⟨k, cap, cur, hv, hbk, hh, rest⟩
  · exact .inl hn
  · exact .inr ⟨k, cap, cur, hv, hbk, (hw.block k (Array.getElem?_eq_some_iff.1 hh).1 (by omega) (by omega)).trans hh, rest⟩
theorem MQ.parts {nb : Nat} {w W : World} {g : Nat} (q : MQ nb w W g) (A : Option Addr) (c : Nat) (l : List Sp.M.Pt) (b : Nat) (ho : Sp.OwnP W b (.slice A l.length c) l) (hb : g < b) (hl : l.length ≤ 1000000) (hi : Sp.M.i64s l) :
    MQ nb w (W.setCell ⟨g, 15, none⟩ (.slice A l.length c)) g := by
  obtain ⟨m, pv, ev, h1, h2, h3⟩ := q.ex
  refine ⟨⟨{ m with parts := l }, .slice A l.length c, ev, h1.set 15 (.slice A l.length c) rfl, fun W2 hW => ?_, h3⟩, q.res.other (by have := q.low; show w.heap.size ≠ g; omega) _, q.low, q.below.setCell (p := ⟨g, 15, none⟩) (Nat.le_of_lt q.low) _⟩
  have hB := (MBut.set g W 15 (.slice A l.length c)).trans hW
  have h := h2 W2 hB
  have ho2 : Sp.OwnP W2 b (.slice A l.length c) l := own_but ho hb (Nat.lt_trans q.low hb) hB
  obtain ⟨A', c', hv, hr, _⟩ := ho2.rd
  injection hv with a1 a2 a3
  exact ⟨⟨A, c, rfl, by rw [a1]; exact hr⟩, h.extra, hl, h.nextra, hi, h.fits, h.kind, h.texts, h.ints⟩
theorem MQ.extra {nb : Nat} {w W : World} {g : Nat} (q : MQ nb w W g) (b : Nat) (t : TypeId) (s1 s2 s3 s4 : ByteArray) (hh : W.heap[b]? = some (.cells #[.string s1, .string s2, .string s3, .string s4] t (0, 0))) (hb : g < b)
    (hs : (s1.size ≤ 1000000 ∧ s2.size ≤ 1000000) ∧ s3.size ≤ 1000000 ∧ s4.size ≤ 1000000) : MQ nb w (W.setCell ⟨g, 16, none⟩ (.slice (some ⟨b, 0, none⟩) 2 2)) g := by
  obtain ⟨m, pv, ev, h1, h2, h3⟩ := q.ex
  refine ⟨⟨{ m with extra := [(s1, s2), (s3, s4)] }, pv, .slice (some ⟨b, 0, none⟩) 2 2, h1.set 16 _ rfl, fun W2 hW => ?_, h3⟩, q.res.other (by have := q.low; show w.heap.size ≠ g; omega) _, q.low, q.below.setCell (p := ⟨g, 16, none⟩) (Nat.le_of_lt q.low) _⟩
  have hB := (MBut.set g W 16 (.slice (some ⟨b, 0, none⟩) 2 2)).trans hW
  have h := h2 W2 hB
  have hlt := (Array.getElem?_eq_some_iff.1 hh).1
  have hh2 := (hB.block b hlt (by omega) (by have := q.low; omega)).trans hh
  refine ⟨h.parts, ⟨some ⟨b, 0, none⟩, 2, rfl, fun _ => ⟨b, 0, rfl, Nat.lt_of_lt_of_le hlt hB.size, fun k r hr => ?_⟩⟩, h.nparts, by show (2 : Nat) ≤ 500000; decide, h.i64s, ?_, h.kind, h.texts, h.ints⟩
  · match k, hr with
    | 0, hr => cases hr; exact ⟨(cell_of_row _ _ _ _ _ (0, 0) hh2).trans rfl, (cell_of_row _ _ _ _ _ (0, 0) hh2).trans rfl⟩
    | 1, hr => cases hr; exact ⟨(cell_of_row _ _ _ _ _ (0, 0) hh2).trans rfl, (cell_of_row _ _ _ _ _ (0, 0) hh2).trans rfl⟩
    | k + 2, hr => simp at hr
  · intro r hr
    rcases List.mem_cons.1 hr with rfl | hr
    · exact hs.1
    · rcases List.mem_singleton.1 hr with rfl
      exact hs.2
set_option maxRecDepth 100000 in
set_option maxHeartbeats 4000000 in
theorem lawMeta_any (A : Option Addr) (n c : Nat) (zs : List Int) (w : World) (hr : Sp.Rd w w.heap.size A n zs) (hc : n ≤ c) (hcm : c ≤ maxLen) :
    Calls Tryz.prog 7 #[.slice A n c] w fun e w' => ∃ m pv ev, e = .returned (.agg (mcells m pv ev)) ∧ MIn w' m pv ev ∧ Below w.heap.size w w' := by
  have HPt := hid (fun (A2 : Option Addr) (n2 c2 : Nat) (zs2 : List Int) (W : World) (hW : Below w.heap.size w W) (h2 : Sp.Rd w w.heap.size A2 n2 zs2) (h3 : n2 ≤ maxLen) => Sp.lawParts_any A2 n2 c2 zs2 W ((h2.below hW).more hW.size) h3)
  have HC1 := hid hr
  have HC2 := hid (show 10 < n → Sp.Rd w w.heap.size (A.map (·.add 10)) (n - 10) (zs.drop 10) from fun h => by have := hr.cut (c := c) (k := 10) (by omega) hc; unfold Sp.cutA at this; rwa [if_neg (by omega)] at this)
  have HC3 := hid (show n ≤ maxLen from Nat.le_trans hc hcm)
  unfold maxLen at hcm
  have HG := hid (fun (i : Nat) (hi : i ≤ 1000) => (⟨(gz zs i).toNat, by have := gz_bd hr.2.1 i; omega, fun (W : World) (hW : Below w.heap.size w W) => by
    have h := g_any A n c zs i (by omega) hi W w.heap.size (hr.below hW)
    rwa [show gz zs i = (((gz zs i).toNat : Nat) : Int) by have := gz_bd hr.2.1 i; omega] at h⟩ : ∃ k : Nat, k ≤ 255 ∧ ∀ W, Below w.heap.size w W → Calls Tryz.prog 19 #[.slice A n c, .int .i64 i] W (fun e w' => e = .returned (.int .i64 (k : Int)) ∧ Below W.heap.size W w')))
  obtain ⟨k0, hk0, g0⟩ := HG.out 0 (by decide)
  have G0 := hid (show ∀ W, Below w.heap.size w W → Calls Tryz.prog 19 #[.slice A n c, .int .i64 0] W (fun e w' => e = .returned (.int .i64 (k0 : Int)) ∧ Below W.heap.size W w') from g0)
  clear g0
  obtain ⟨k1, hk1, g1⟩ := HG.out 1 (by decide)
  have G1 := hid (show ∀ W, Below w.heap.size w W → Calls Tryz.prog 19 #[.slice A n c, .int .i64 1] W (fun e w' => e = .returned (.int .i64 (k1 : Int)) ∧ Below W.heap.size W w') from g1)
  clear g1
  obtain ⟨k2, hk2, g2⟩ := HG.out 2 (by decide)
  have G2 := hid (show ∀ W, Below w.heap.size w W → Calls Tryz.prog 19 #[.slice A n c, .int .i64 2] W (fun e w' => e = .returned (.int .i64 (k2 : Int)) ∧ Below W.heap.size W w') from g2)
  clear g2
  obtain ⟨k3, hk3, g3⟩ := HG.out 3 (by decide)
  have G3 := hid (show ∀ W, Below w.heap.size w W → Calls Tryz.prog 19 #[.slice A n c, .int .i64 3] W (fun e w' => e = .returned (.int .i64 (k3 : Int)) ∧ Below W.heap.size W w') from g3)
  clear g3
  obtain ⟨k4, hk4, g4⟩ := HG.out 4 (by decide)
  have G4 := hid (show ∀ W, Below w.heap.size w W → Calls Tryz.prog 19 #[.slice A n c, .int .i64 4] W (fun e w' => e = .returned (.int .i64 (k4 : Int)) ∧ Below W.heap.size W w') from g4)
  clear g4
  obtain ⟨k5, hk5, g5⟩ := HG.out 5 (by decide)
  have G5 := hid (show ∀ W, Below w.heap.size w W → Calls Tryz.prog 19 #[.slice A n c, .int .i64 5] W (fun e w' => e = .returned (.int .i64 (k5 : Int)) ∧ Below W.heap.size W w') from g5)
  clear g5
  obtain ⟨k6, hk6, g6⟩ := HG.out 6 (by decide)
  have G6 := hid (show ∀ W, Below w.heap.size w W → Calls Tryz.prog 19 #[.slice A n c, .int .i64 6] W (fun e w' => e = .returned (.int .i64 (k6 : Int)) ∧ Below W.heap.size W w') from g6)
  clear g6
  obtain ⟨k7, hk7, g7⟩ := HG.out 7 (by decide)
  have G7 := hid (show ∀ W, Below w.heap.size w W → Calls Tryz.prog 19 #[.slice A n c, .int .i64 7] W (fun e w' => e = .returned (.int .i64 (k7 : Int)) ∧ Below W.heap.size W w') from g7)
  clear g7
  obtain ⟨k8, hk8, g8⟩ := HG.out 8 (by decide)
  have G8 := hid (show ∀ W, Below w.heap.size w W → Calls Tryz.prog 19 #[.slice A n c, .int .i64 8] W (fun e w' => e = .returned (.int .i64 (k8 : Int)) ∧ Below W.heap.size W w') from g8)
  clear g8
  obtain ⟨k9, hk9, g9⟩ := HG.out 9 (by decide)
  have G9 := hid (show ∀ W, Below w.heap.size w W → Calls Tryz.prog 19 #[.slice A n c, .int .i64 9] W (fun e w' => e = .returned (.int .i64 (k9 : Int)) ∧ Below W.heap.size W w') from g9)
  clear g9
  obtain ⟨j1, hj1⟩ : ∃ j : Nat, j = k1 % 8 := ⟨_, rfl⟩
  obtain ⟨j5, hj5⟩ : ∃ j : Nat, j = k5 % 40 := ⟨_, rfl⟩
  have hj18 : j1 < 8 := by omega
  have hj54 : j5 < 40 := by omega
  have hj1i : (j1 : Int) < 8 := by omega
  have e1a : (k1 : Int) % 8 = (j1 : Int) := by omega
  have e1b : (k1 : Int).tmod 8 = (j1 : Int) := by rw [Int.tmod_eq_emod_of_nonneg (by omega)]; exact e1a
  have e5a : (k5 : Int) % 40 = (j5 : Int) := by omega
  have e5b : (k5 : Int).tmod 40 = (j5 : Int) := by rw [Int.tmod_eq_emod_of_nonneg (by omega)]; exact e5a
  obtain ⟨kk, hkk, hkl⟩ : ∃ kk : Int, (0 ≤ kk ∧ kk ≤ 255) ∧ (#[.int .u8 48, .int .u8 48, .int .u8 48, .int .u8 53, .int .u8 50, .int .u8 49, .int .u8 51, .int .u8 54] : Array Value)[j1]? = some (.int .u8 kk) := by
    have : j1 = 0 ∨ j1 = 1 ∨ j1 = 2 ∨ j1 = 3 ∨ j1 = 4 ∨ j1 = 5 ∨ j1 = 6 ∨ j1 = 7 := by omega
    rcases this with h | h | h | h | h | h | h | h <;> rw [h] <;> exact ⟨_, by decide, rfl⟩
  have HNm := hid (fun W => name_any k0 hk0 W)
  have HTx := hid (fun W => textX_any j5 (by omega) W)
  have HNm8 := hid (fun W => name_any k8 hk8 W)
  have HS8 := hid (show (nameT k8).size ≤ 1000000 by have := (nameT_size k8 hk8).2; omega)
  have HTx7 := hid (fun W => textX_any k7 (by omega) W)
  clear hj1 hj5
  go_enter Tryz.func7, Tryz.ntmps7
  go_wp2_with fail
  generalize hw0 : World.alloc w _ = w0
  have B0 := hid (show Below w.heap.size w w0 by rw [← hw0]; exact (Below.refl _ w).alloc (Nat.le_refl _) _)
  have HRes := hid (show MB w0 w.heap.size {} (.slice none 0 0) (.slice none 0 0) by rw [← hw0]; exact MB.new w {} (.slice none 0 0) (.slice none 0 0))
  clear hw0
  refine wp_region_rows [8, 9, 10, 11, 12, 13, 14, 15, 16, 17, 18, 19, 20, 21, 22, 23, 24, 25, 26, 27, 28, 29, 30, 31, 32, 3] (by kernel_rfl) (by kernel_rfl) (by kernel_rfl) (fun (i : Nat) (v : Value) (W : World) => match i with
    | 0 => v = .slice A n c
    | 1 => v = .int .i64 (k0 : Int)
    | 2 => v = .string (nameT k0)
    | 3 => ∃ b : Nat, v = .slice (some ⟨b, 0, none⟩) 8 8 ∧ b < W.heap.size ∧ W.heap[b]? = some (.cells #[.int .u8 48, .int .u8 48, .int .u8 48, .int .u8 53, .int .u8 50, .int .u8 49, .int .u8 51, .int .u8 54] 5 (0, 0))
    | 4 => v = .slice A n c
    | 5 => v = .int .i64 (k1 : Int)
    | 6 => v = .int .i64 (j1 : Int)
    | 7 => ∃ b : Nat, v = .pointer (some ⟨b, j1, none⟩) ∧ b < W.heap.size ∧ W.cell? ⟨b, j1, none⟩ = some (.int .u8 kk)
    | 8 => v = .int .u8 kk
    | 9 => v = .slice A n c
    | 10 => v = .int .i64 (k2 : Int)
    | 11 => v = .slice A n c
    | 12 => v = .int .i64 (k3 : Int)
    | 13 => v = .slice A n c
    | 14 => v = .int .i64 (k4 : Int)
    | 15 => v = .int .i64 ((k4 : Int) * 20000)
    | 16 => v = .slice A n c
    | 17 => v = .int .i64 (k5 : Int)
    | 18 => v = .int .i64 (j5 : Int)
    | 19 => v = .string (wordT j5 j5)
    | 20 => v = .slice A n c
    | 21 => v = .int .i64 (k6 : Int)
    | 22 => v = .int .i64 ((k6 : Int) - 3)
    | 23 => v = .agg #[.int .i64 ((k6 : Int) - 3), .int .i64 0]
    | 24 => v = .agg (mcells { name := nameT k0, kind := kk, mode := k2, uid := k3, gid := (k4 : Int) * 20000, user := wordT j5 j5, group := ⟨#[103]⟩, sec := (k6 : Int) - 3 } (.slice none 0 0) (.slice none 0 0))
    | _ => ∃ g : Nat, v = .pointer (some ⟨g, 0, none⟩) ∧ w0.heap.size ≤ g ∧ g < W.heap.size ∧ MB W g {} (.slice none 0 0) (.slice none 0 0)) ?_ ?_ ?_
  · intro i hi v w1 w2 hb hR
    have h26 : i < 26 := hi
    have hi' : i = 0 ∨ i = 1 ∨ i = 2 ∨ i = 3 ∨ i = 4 ∨ i = 5 ∨ i = 6 ∨ i = 7 ∨ i = 8 ∨ i = 9 ∨ i = 10 ∨ i = 11 ∨ i = 12 ∨ i = 13 ∨ i = 14 ∨ i = 15 ∨ i = 16 ∨ i = 17 ∨ i = 18 ∨ i = 19 ∨ i = 20 ∨ i = 21 ∨ i = 22 ∨ i = 23 ∨ i = 24 ∨ i = 25 := by omega
    clear h26 hi
    rcases hi' with rfl | rfl | rfl | rfl | rfl | rfl | rfl | rfl | rfl | rfl | rfl | rfl | rfl | rfl | rfl | rfl | rfl | rfl | rfl | rfl | rfl | rfl | rfl | rfl | rfl | rfl
    · exact hR
    · exact hR
    · exact hR
    · obtain ⟨b, h1, h2, h3⟩ := hR
      exact ⟨b, h1, Nat.lt_of_lt_of_le h2 hb.size, (hb.block b h2).trans h3⟩
    · exact hR
    · exact hR
    · exact hR
    · obtain ⟨b, h1, h2, h3⟩ := hR
      exact ⟨b, h1, Nat.lt_of_lt_of_le h2 hb.size, (hb.cell (p := ⟨b, j1, none⟩) h2).trans h3⟩
    · exact hR
    · exact hR
    · exact hR
    · exact hR
    · exact hR
    · exact hR
    · exact hR
    · exact hR
    · exact hR
    · exact hR
    · exact hR
    · exact hR
    · exact hR
    · exact hR
    · exact hR
    · exact hR
    · exact hR
    · obtain ⟨b, h1, h2, h3, h4⟩ := hR
      exact ⟨b, h1, h2, Nat.lt_of_lt_of_le h3 hb.size, h4.below hb h3⟩
  · intro i hi o ho a w1 hw hpar hp
    have h26 : i < 26 := hi
    have hsl : a.eval (.tmp 0) = .slice A n c := hpar 0 (by decide)
    have hB1 := B0.out.trans (hw.mono B0.out.size)
    have hi' : i = 0 ∨ i = 1 ∨ i = 2 ∨ i = 3 ∨ i = 4 ∨ i = 5 ∨ i = 6 ∨ i = 7 ∨ i = 8 ∨ i = 9 ∨ i = 10 ∨ i = 11 ∨ i = 12 ∨ i = 13 ∨ i = 14 ∨ i = 15 ∨ i = 16 ∨ i = 17 ∨ i = 18 ∨ i = 19 ∨ i = 20 ∨ i = 21 ∨ i = 22 ∨ i = 23 ∨ i = 24 ∨ i = 25 := by omega
    clear h26 hi
    rcases hi' with rfl | rfl | rfl | rfl | rfl | rfl | rfl | rfl | rfl | rfl | rfl | rfl | rfl | rfl | rfl | rfl | rfl | rfl | rfl | rfl | rfl | rfl | rfl | rfl | rfl | rfl
    · simp only [List.getElem?_toArray, List.getElem?_cons_zero, List.getElem?_cons_succ, Option.some.injEq] at ho
      subst ho
      have hs0 := (eval_getD a 0).symm.trans hsl
      clear hp hpar hsl
      go_simp
      exact ⟨_, rfl, rfl, Below.refl _ _⟩
    · simp only [List.getElem?_toArray, List.getElem?_cons_zero, List.getElem?_cons_succ, Option.some.injEq] at ho
      subst ho
      have h0 : a.tmps[8]?.getD undef = .slice A n c := (eval_getD a 8).symm.trans (hp ⟨0, .data⟩ (by simp) rfl)
      clear hp hpar hsl
      go_simp
      (with_reducible refine (G0.out w1 hB1).mono ?_)
      rintro e w2 ⟨rfl, h2⟩
      exact ⟨_, rfl, rfl, h2⟩
    · simp only [List.getElem?_toArray, List.getElem?_cons_zero, List.getElem?_cons_succ, Option.some.injEq] at ho
      subst ho
      have h1 : a.tmps[9]?.getD undef = .int .i64 (k0 : Int) := (eval_getD a 9).symm.trans (hp ⟨1, .data⟩ (by simp) rfl)
      clear hp hpar hsl
      go_simp
      (with_reducible refine (HNm.out w1).mono ?_)
      rintro e w2 ⟨rfl, h2⟩
      exact ⟨_, rfl, rfl, h2⟩
    · simp only [List.getElem?_toArray, List.getElem?_cons_zero, List.getElem?_cons_succ, Option.some.injEq] at ho
      subst ho
      clear hp hpar hsl
      go_simp
      exact ⟨_, rfl, ⟨w1.heap.size, rfl, Nat.lt_succ_self _, heap_alloc_new w1 _⟩, (Below.refl _ _).alloc (Nat.le_refl _) _⟩
    · simp only [List.getElem?_toArray, List.getElem?_cons_zero, List.getElem?_cons_succ, Option.some.injEq] at ho
      subst ho
      have hs0 := (eval_getD a 0).symm.trans hsl
      clear hp hpar hsl
      go_simp
      exact ⟨_, rfl, rfl, Below.refl _ _⟩
    · simp only [List.getElem?_toArray, List.getElem?_cons_zero, List.getElem?_cons_succ, Option.some.injEq] at ho
      subst ho
      have h4 : a.tmps[12]?.getD undef = .slice A n c := (eval_getD a 12).symm.trans (hp ⟨4, .data⟩ (by simp) rfl)
      clear hp hpar hsl
      go_simp
      (with_reducible refine (G1.out w1 hB1).mono ?_)
      rintro e w2 ⟨rfl, h2⟩
      exact ⟨_, rfl, rfl, h2⟩
    · simp only [List.getElem?_toArray, List.getElem?_cons_zero, List.getElem?_cons_succ, Option.some.injEq] at ho
      subst ho
      have h5 : a.tmps[13]?.getD undef = .int .i64 (k1 : Int) := (eval_getD a 13).symm.trans (hp ⟨5, .data⟩ (by simp) rfl)
      clear hp hpar hsl
      go_simp
      exact ⟨_, rfl, rfl, Below.refl _ _⟩
    · simp only [List.getElem?_toArray, List.getElem?_cons_zero, List.getElem?_cons_succ, Option.some.injEq] at ho
      subst ho
      obtain ⟨b3, h3, hb3, hc3⟩ : ∃ b : Nat, a.eval (.tmp 11) = .slice (some ⟨b, 0, none⟩) 8 8 ∧ b < w1.heap.size ∧ w1.heap[b]? = some (.cells #[.int .u8 48, .int .u8 48, .int .u8 48, .int .u8 53, .int .u8 50, .int .u8 49, .int .u8 51, .int .u8 54] 5 (0, 0)) := hp ⟨3, .data⟩ (by simp) rfl
      rw [eval_getD] at h3
      have h6 : a.tmps[14]?.getD undef = .int .i64 (j1 : Int) := (eval_getD a 14).symm.trans (hp ⟨6, .data⟩ (by simp) rfl)
      clear hp hpar hsl
      go_simp
      refine ⟨_, rfl, ⟨b3, ?_, hb3, ?_⟩, Below.refl _ _⟩
      · first | rfl | simp
      · rw [cell_of_row _ _ _ _ _ (0, 0) hc3]; exact hkl
    · simp only [List.getElem?_toArray, List.getElem?_cons_zero, List.getElem?_cons_succ, Option.some.injEq] at ho
      subst ho
      obtain ⟨b7, h7, hb7, hc7⟩ : ∃ b : Nat, a.eval (.tmp 15) = .pointer (some ⟨b, j1, none⟩) ∧ b < w1.heap.size ∧ w1.cell? ⟨b, j1, none⟩ = some (.int .u8 kk) := hp ⟨7, .data⟩ (by simp) rfl
      rw [eval_getD] at h7
      clear hp hpar hsl
      go_simp
      exact ⟨_, rfl, rfl, Below.refl _ _⟩
    · simp only [List.getElem?_toArray, List.getElem?_cons_zero, List.getElem?_cons_succ, Option.some.injEq] at ho
      subst ho
      have hs0 := (eval_getD a 0).symm.trans hsl
      clear hp hpar hsl
      go_simp
      exact ⟨_, rfl, rfl, Below.refl _ _⟩
    · simp only [List.getElem?_toArray, List.getElem?_cons_zero, List.getElem?_cons_succ, Option.some.injEq] at ho
      subst ho
      have h9 : a.tmps[17]?.getD undef = .slice A n c := (eval_getD a 17).symm.trans (hp ⟨9, .data⟩ (by simp) rfl)
      clear hp hpar hsl
      go_simp
      (with_reducible refine (G2.out w1 hB1).mono ?_)
      rintro e w2 ⟨rfl, h2⟩
      exact ⟨_, rfl, rfl, h2⟩
    · simp only [List.getElem?_toArray, List.getElem?_cons_zero, List.getElem?_cons_succ, Option.some.injEq] at ho
      subst ho
      have hs0 := (eval_getD a 0).symm.trans hsl
      clear hp hpar hsl
      go_simp
      exact ⟨_, rfl, rfl, Below.refl _ _⟩
    · simp only [List.getElem?_toArray, List.getElem?_cons_zero, List.getElem?_cons_succ, Option.some.injEq] at ho
      subst ho
      have h11 : a.tmps[19]?.getD undef = .slice A n c := (eval_getD a 19).symm.trans (hp ⟨11, .data⟩ (by simp) rfl)
      clear hp hpar hsl
      go_simp
      (with_reducible refine (G3.out w1 hB1).mono ?_)
      rintro e w2 ⟨rfl, h2⟩
      exact ⟨_, rfl, rfl, h2⟩
    · simp only [List.getElem?_toArray, List.getElem?_cons_zero, List.getElem?_cons_succ, Option.some.injEq] at ho
      subst ho
      have hs0 := (eval_getD a 0).symm.trans hsl
      clear hp hpar hsl
      go_simp
      exact ⟨_, rfl, rfl, Below.refl _ _⟩
    · simp only [List.getElem?_toArray, List.getElem?_cons_zero, List.getElem?_cons_succ, Option.some.injEq] at ho
      subst ho
      have h13 : a.tmps[21]?.getD undef = .slice A n c := (eval_getD a 21).symm.trans (hp ⟨13, .data⟩ (by simp) rfl)
      clear hp hpar hsl
      go_simp
      (with_reducible refine (G4.out w1 hB1).mono ?_)
      rintro e w2 ⟨rfl, h2⟩
      exact ⟨_, rfl, rfl, h2⟩
    · simp only [List.getElem?_toArray, List.getElem?_cons_zero, List.getElem?_cons_succ, Option.some.injEq] at ho
      subst ho
      have h14 : a.tmps[22]?.getD undef = .int .i64 (k4 : Int) := (eval_getD a 22).symm.trans (hp ⟨14, .data⟩ (by simp) rfl)
      clear hp hpar hsl
      go_simp
      first | exact ⟨_, rfl, rfl, Below.refl _ _⟩ | exact ⟨_, rfl, congrArg (Value.int .i64) (IntWalk.i64_in _ (by omega)), Below.refl _ _⟩
    · simp only [List.getElem?_toArray, List.getElem?_cons_zero, List.getElem?_cons_succ, Option.some.injEq] at ho
      subst ho
      have hs0 := (eval_getD a 0).symm.trans hsl
      clear hp hpar hsl
      go_simp
      exact ⟨_, rfl, rfl, Below.refl _ _⟩
    · simp only [List.getElem?_toArray, List.getElem?_cons_zero, List.getElem?_cons_succ, Option.some.injEq] at ho
      subst ho
      have h16 : a.tmps[24]?.getD undef = .slice A n c := (eval_getD a 24).symm.trans (hp ⟨16, .data⟩ (by simp) rfl)
      clear hp hpar hsl
      go_simp
      (with_reducible refine (G5.out w1 hB1).mono ?_)
      rintro e w2 ⟨rfl, h2⟩
      exact ⟨_, rfl, rfl, h2⟩
    · simp only [List.getElem?_toArray, List.getElem?_cons_zero, List.getElem?_cons_succ, Option.some.injEq] at ho
      subst ho
      have h17 : a.tmps[25]?.getD undef = .int .i64 (k5 : Int) := (eval_getD a 25).symm.trans (hp ⟨17, .data⟩ (by simp) rfl)
      clear hp hpar hsl
      go_simp
      exact ⟨_, rfl, rfl, Below.refl _ _⟩
    · simp only [List.getElem?_toArray, List.getElem?_cons_zero, List.getElem?_cons_succ, Option.some.injEq] at ho
      subst ho
      have h18 : a.tmps[26]?.getD undef = .int .i64 (j5 : Int) := (eval_getD a 26).symm.trans (hp ⟨18, .data⟩ (by simp) rfl)
      clear hp hpar hsl
      go_simp
      (with_reducible refine (HTx.out w1).mono ?_)
      rintro e w2 ⟨rfl, h2⟩
      exact ⟨_, rfl, rfl, h2⟩
    · simp only [List.getElem?_toArray, List.getElem?_cons_zero, List.getElem?_cons_succ, Option.some.injEq] at ho
      subst ho
      have hs0 := (eval_getD a 0).symm.trans hsl
      clear hp hpar hsl
      go_simp
      exact ⟨_, rfl, rfl, Below.refl _ _⟩
    · simp only [List.getElem?_toArray, List.getElem?_cons_zero, List.getElem?_cons_succ, Option.some.injEq] at ho
      subst ho
      have h20 : a.tmps[28]?.getD undef = .slice A n c := (eval_getD a 28).symm.trans (hp ⟨20, .data⟩ (by simp) rfl)
      clear hp hpar hsl
      go_simp
      (with_reducible refine (G6.out w1 hB1).mono ?_)
      rintro e w2 ⟨rfl, h2⟩
      exact ⟨_, rfl, rfl, h2⟩
    · simp only [List.getElem?_toArray, List.getElem?_cons_zero, List.getElem?_cons_succ, Option.some.injEq] at ho
      subst ho
      have h21 : a.tmps[29]?.getD undef = .int .i64 (k6 : Int) := (eval_getD a 29).symm.trans (hp ⟨21, .data⟩ (by simp) rfl)
      clear hp hpar hsl
      go_simp
      first | exact ⟨_, rfl, rfl, Below.refl _ _⟩ | exact ⟨_, rfl, congrArg (Value.int .i64) (IntWalk.i64_in _ (by omega)), Below.refl _ _⟩
    · simp only [List.getElem?_toArray, List.getElem?_cons_zero, List.getElem?_cons_succ, Option.some.injEq] at ho
      subst ho
      have h22 : a.tmps[30]?.getD undef = .int .i64 ((k6 : Int) - 3) := (eval_getD a 30).symm.trans (hp ⟨22, .data⟩ (by simp) rfl)
      clear hp hpar hsl
      go_simp
      exact ⟨_, rfl, rfl, Below.refl _ _⟩
    · simp only [List.getElem?_toArray, List.getElem?_cons_zero, List.getElem?_cons_succ, Option.some.injEq] at ho
      subst ho
      have h2 : a.tmps[10]?.getD undef = .string (nameT k0) := (eval_getD a 10).symm.trans (hp ⟨2, .data⟩ (by simp) rfl)
      have h8 : a.tmps[16]?.getD undef = .int .u8 kk := (eval_getD a 16).symm.trans (hp ⟨8, .data⟩ (by simp) rfl)
      have h10 : a.tmps[18]?.getD undef = .int .i64 (k2 : Int) := (eval_getD a 18).symm.trans (hp ⟨10, .data⟩ (by simp) rfl)
      have h12 : a.tmps[20]?.getD undef = .int .i64 (k3 : Int) := (eval_getD a 20).symm.trans (hp ⟨12, .data⟩ (by simp) rfl)
      have h15 : a.tmps[23]?.getD undef = .int .i64 ((k4 : Int) * 20000) := (eval_getD a 23).symm.trans (hp ⟨15, .data⟩ (by simp) rfl)
      have h19 : a.tmps[27]?.getD undef = .string (wordT j5 j5) := (eval_getD a 27).symm.trans (hp ⟨19, .data⟩ (by simp) rfl)
      have h23 : a.tmps[31]?.getD undef = .agg #[.int .i64 ((k6 : Int) - 3), .int .i64 0] := (eval_getD a 31).symm.trans (hp ⟨23, .data⟩ (by simp) rfl)
      clear hp hpar hsl
      go_simp
      exact ⟨_, rfl, rfl, Below.refl _ _⟩
    · simp only [List.getElem?_toArray, List.getElem?_cons_zero, List.getElem?_cons_succ, Option.some.injEq] at ho
      subst ho
      clear hp hpar hsl
      go_simp
      exact ⟨_, rfl, ⟨w1.heap.size, rfl, hw.size, Nat.lt_succ_self _, MB.new w1 {} (.slice none 0 0) (.slice none 0 0)⟩, (Below.refl _ _).alloc (Nat.le_refl _) _⟩
  · intro o ho vs w1 hw h
    simp only [List.length_cons, List.length_nil, Nat.reduceAdd, List.getElem?_toArray, List.getElem?_cons_zero, List.getElem?_cons_succ, Option.some.injEq] at ho
    subst ho
    have e0 : vs 0 = .slice A n c := h 0 (by decide)
    have e1 : vs 1 = .int .i64 (k0 : Int) := h 1 (by decide)
    have e2 : vs 2 = .string (nameT k0) := h 2 (by decide)
    have e4 : vs 4 = .slice A n c := h 4 (by decide)
    have e5 : vs 5 = .int .i64 (k1 : Int) := h 5 (by decide)
    have e6 : vs 6 = .int .i64 (j1 : Int) := h 6 (by decide)
    have e8 : vs 8 = .int .u8 kk := h 8 (by decide)
    have e9 : vs 9 = .slice A n c := h 9 (by decide)
    have e10 : vs 10 = .int .i64 (k2 : Int) := h 10 (by decide)
    have e11 : vs 11 = .slice A n c := h 11 (by decide)
    have e12 : vs 12 = .int .i64 (k3 : Int) := h 12 (by decide)
    have e13 : vs 13 = .slice A n c := h 13 (by decide)
    have e14 : vs 14 = .int .i64 (k4 : Int) := h 14 (by decide)
    have e15 : vs 15 = .int .i64 ((k4 : Int) * 20000) := h 15 (by decide)
    have e16 : vs 16 = .slice A n c := h 16 (by decide)
    have e17 : vs 17 = .int .i64 (k5 : Int) := h 17 (by decide)
    have e18 : vs 18 = .int .i64 (j5 : Int) := h 18 (by decide)
    have e19 : vs 19 = .string (wordT j5 j5) := h 19 (by decide)
    have e20 : vs 20 = .slice A n c := h 20 (by decide)
    have e21 : vs 21 = .int .i64 (k6 : Int) := h 21 (by decide)
    have e22 : vs 22 = .int .i64 ((k6 : Int) - 3) := h 22 (by decide)
    have e23 : vs 23 = .agg #[.int .i64 ((k6 : Int) - 3), .int .i64 0] := h 23 (by decide)
    have e24 : vs 24 = .agg (mcells { name := nameT k0, kind := kk, mode := k2, uid := k3, gid := (k4 : Int) * 20000, user := wordT j5 j5, group := ⟨#[103]⟩, sec := (k6 : Int) - 3 } (.slice none 0 0) (.slice none 0 0)) := h 24 (by decide)
    have x25 : ∃ g : Nat, vs 25 = .pointer (some ⟨g, 0, none⟩) ∧ w0.heap.size ≤ g ∧ g < w1.heap.size ∧ MB w1 g {} (.slice none 0 0) (.slice none 0 0) := h 25 (by decide)
    have y25 := Classical.choose_spec x25
    generalize Classical.choose x25 = g at y25
    have e25 := y25.1
    have hg0 := hid y25.2.1
    have hg1 := hid y25.2.2.1
    have hmb := hid y25.2.2.2
    clear x25 y25
    rw [show List.length ([8, 9, 10, 11, 12, 13, 14, 15, 16, 17, 18, 19, 20, 21, 22, 23, 24, 25, 26, 27, 28, 29, 30, 31, 32, 3] : List Nat) = 26 from rfl]
    rw [putAll_at 26 25 rfl (d := 3) rfl e25]
    rw [putAll_at 25 24 rfl (d := 32) rfl e24]
    rw [putAll_at 24 23 rfl (d := 31) rfl e23]
    rw [putAll_at 23 22 rfl (d := 30) rfl e22]
    rw [putAll_at 22 21 rfl (d := 29) rfl e21]
    rw [putAll_at 21 20 rfl (d := 28) rfl e20]
    rw [putAll_at 20 19 rfl (d := 27) rfl e19]
    rw [putAll_at 19 18 rfl (d := 26) rfl e18]
    rw [putAll_at 18 17 rfl (d := 25) rfl e17]
    rw [putAll_at 17 16 rfl (d := 24) rfl e16]
    rw [putAll_at 16 15 rfl (d := 23) rfl e15]
    rw [putAll_at 15 14 rfl (d := 22) rfl e14]
    rw [putAll_at 14 13 rfl (d := 21) rfl e13]
    rw [putAll_at 13 12 rfl (d := 20) rfl e12]
    rw [putAll_at 12 11 rfl (d := 19) rfl e11]
    rw [putAll_at 11 10 rfl (d := 18) rfl e10]
    rw [putAll_at 10 9 rfl (d := 17) rfl e9]
    rw [putAll_at 9 8 rfl (d := 16) rfl e8]
    rw [putAll_at 8 7 rfl (d := 15) rfl rfl]
    rw [putAll_at 7 6 rfl (d := 14) rfl e6]
    rw [putAll_at 6 5 rfl (d := 13) rfl e5]
    rw [putAll_at 5 4 rfl (d := 12) rfl e4]
    rw [putAll_at 4 3 rfl (d := 11) rfl rfl]
    rw [putAll_at 3 2 rfl (d := 10) rfl e2]
    rw [putAll_at 2 1 rfl (d := 9) rfl e1]
    rw [putAll_at 1 0 rfl (d := 8) rfl e0]
    rw [putAll_zero]
    clear h e0 e1 e2 e4 e5 e6 e8 e9 e10 e11 e12 e13 e14 e15 e16 e17 e18 e19 e20 e21 e22 e23 e24 e25
    simp only [Act.put, List.setIfInBounds_toArray, List.set_cons_zero, List.set_cons_succ]
    refine wp_store_row 27 (.tmp 3) (.tmp 32) rfl g (mcells ({ name := nameT k0, kind := kk, mode := k2, uid := k3, gid := (k4 : Int) * 20000, user := wordT j5 j5, group := ⟨#[103]⟩, sec := (k6 : Int) - 3 } : M.Met) (.slice none 0 0) (.slice none 0 0)) (by rfl) (by rfl) 27 (mcells {} (.slice none 0 0) (.slice none 0 0)) hmb.out met_size rfl (mcells_one _ rfl rfl) ?_
    have Q1 := hid (show MQ 600 w (w1.setRow g (mcells ({ name := nameT k0, kind := kk, mode := k2, uid := k3, gid := (k4 : Int) * 20000, user := wordT j5 j5, group := ⟨#[103]⟩, sec := (k6 : Int) - 3 } : M.Met) (.slice none 0 0) (.slice none 0 0))) g from by
      have hgw : w.heap.size < g := Nat.lt_of_lt_of_le HRes.out.lt hg0.out
      have hb := B0.out.trans (hw.mono B0.out.size)
      refine ⟨⟨({ name := nameT k0, kind := kk, mode := k2, uid := k3, gid := (k4 : Int) * 20000, user := wordT j5 j5, group := ⟨#[103]⟩, sec := (k6 : Int) - 3 } : M.Met), _, _, setRow_heap _ _ _ _ _ _ hmb.out, fun W2 _ => ?_, ?_⟩, HRes.out.of_block ((setRow_other w1 g _ _ (by omega)).trans (hw.block _ HRes.out.lt)), hgw, hb.trans ⟨rfl, rfl, rfl, by simp, fun k hk => setRow_other w1 g k _ (by omega)⟩⟩
      · exact {
          parts := ⟨none, 0, rfl, Sp.RdP.none_⟩
          extra := ⟨none, 0, rfl, fun h => absurd h (Nat.lt_irrefl 0)⟩
          nparts := Nat.zero_le _
          nextra := Nat.zero_le _
          i64s := fun p hp => nomatch hp
          fits := fun r hr => nomatch hr
          kind := hkk
          texts := ⟨by have := (nameT_size k0 hk0).2; show (nameT k0).size ≤ 1000000; omega, Nat.zero_le _, by have := wordT_size j5 j5; show (wordT j5 j5).size ≤ 1000000; omega, by show (1 : Nat) ≤ 1000000; decide⟩
          ints := ⟨by show _ ≤ (k2 : Int) ∧ (k2 : Int) ≤ _; omega, by show _ ≤ (k3 : Int) ∧ (k3 : Int) ≤ _; omega, by show _ ≤ (k4 : Int) * 20000 ∧ (k4 : Int) * 20000 ≤ _; omega, by show _ ≤ (k6 : Int) - 3 ∧ (k6 : Int) - 3 ≤ _; omega, by show _ ≤ (0 : Int) ∧ (0 : Int) ≤ _; decide, by show _ ≤ (0 : Int) ∧ (0 : Int) ≤ _; decide, by show _ ≤ (0 : Int) ∧ (0 : Int) ≤ _; decide, by show _ ≤ (0 : Int) ∧ (0 : Int) ≤ _; decide, by show _ ≤ (0 : Int) ∧ (0 : Int) ≤ _; decide⟩ }
      · have := nameT_size k0 hk0
        show 1 ≤ (nameT k0).size ∧ (nameT k0).size ≤ 600
        omega)
    clear hmb hg0 hg1 hw HRes B0
    generalize w1.setRow _ _ = w2 at *
    clear e1a e1b e5a e5b hj18 hj54 hj1i hkl HNm HTx G0 G1 G4 G5
    go_wp2_with fail
    (with_reducible refine (G6.out w2 Q1.out.below).mono ?_)
    rintro e w3 ⟨rfl, b3⟩
    have Q3 := hid (Q1.out.later b3)
    clear b3 Q1
    go_upto_if 35 with fail
    generalize decide (200 < (k6 : Int)) = bt
    go_cut [] from 36 to 40 (fun wx => MQ 600 w wx g)
    case first =>
      cases bt with
      | false =>
        go_wp2_with fail
        go_meet
        case rel => exact Q3.out
      | true =>
        go_wp2_with fail
        (with_reducible refine (G7.out w3 Q3.out.below).mono ?_)
        rintro e w4 ⟨rfl, b4⟩
        have Q4 := hid (Q3.out.later b4)
        clear b4 Q3
        have x9 := Q4.out.at_ 9 (by decide)
        have y9 := Classical.choose_spec x9
        generalize Classical.choose x9 = o9 at y9
        have c9 := y9.1
        have f9 := y9.2
        clear x9 y9
        go_wp2_with fail
        go_meet
        case rel => exact Q4.out.set 9 _ (fun m => { m with nan := 1000 * (k7 : Int) }) (fun _ _ _ => rfl) (fun _ _ _ _ h => h.nan_ (by omega)) (fun _ h => h)
    case rest =>
      have Q4 := hid hcut
      clear hcut Q3
      go_upto_region 4 with fail
      go_cut [42] from 41 to 41 (fun x wx => (∃ z : Int, x = .int .u8 z) ∧ MQ 600 w wx g)
      case first =>
        have xk := Q4.out.kind
        have yk := Classical.choose_spec xk
        generalize Classical.choose xk = z at yk
        clear xk
        go_wp2_with fail
        go_meet
        case rel => exact ⟨⟨z, rfl⟩, Q4.out⟩
      case rest =>
      have Q4 := hid hcut.2
      have x42 := hcut.1
      clear hcut
      have y42 := Classical.choose_spec x42
      generalize Classical.choose x42 = z at y42
      clear x42
      subst y42
      go_upto_block 0 with fail
      go_cut [] from 43 to 102 (fun wx => MQ 601 w wx g)
      case first =>
        go_upto_if 43 with fail
        generalize (z == 48) = b0
        cases b0 with
        | true =>
          go_wp2_with fail
          (with_reducible refine (G8.out wc Q4.out.below).mono ?_)
          rintro e w5 ⟨rfl, b5⟩
          have Q5 := hid (Q4.out.later b5)
          clear b5
          have x12 := Q5.out.at_ 12 (by decide)
          have y12 := Classical.choose_spec x12
          generalize Classical.choose x12 = o12 at y12
          have c12 := y12.1
          have f12 := y12.2
          clear x12 y12
          have Q6 := hid (Q5.out.set 12 (.int .i64 (k8 : Int)) (fun m => { m with size := (k8 : Int) }) (fun _ _ _ => rfl) (fun _ _ _ _ h => h.size_ (by omega)) (fun _ h => h))
          go_upto_region 7 with fail
          clear c12 f12 Q5
          generalize w5.setCell _ _ = w6 at *
          have xz := Q6.out.sz
          have yz := Classical.choose_spec xz
          generalize Classical.choose xz = zz at yz
          have cz := yz.1
          have hz := hid yz.2
          clear xz yz
          have x13 := Q6.out.at_ 13 (by decide)
          have y13 := Classical.choose_spec x13
          generalize Classical.choose x13 = o13 at y13
          have c13 := y13.1
          have f13 := y13.2
          clear x13 y13
          have Q7 := hid (Q6.out.set 13 (.int .i64 zz) (fun m => { m with real := zz }) (fun _ _ _ => rfl) (fun _ _ _ _ h => h.real_ hz.out) (fun _ h => h))
          go_upto_region 8 with fail
          clear c13 f13 cz Q6 hz
          generalize w6.setCell _ _ = w7 at *
          have xn := Q7.out.name
          have yn := Classical.choose_spec xn
          generalize Classical.choose xn = s0 at yn
          have c0 := yn.1
          have f0 := yn.2.1
          have hn0 := hid yn.2.2
          clear xn yn
          have hs1 := hn0.out.1
          have xj : ∃ j : Nat, s0.size = j + 1 := ⟨s0.size - 1, by omega⟩
          have yj := Classical.choose_spec xj
          generalize Classical.choose xj = j at yj
          clear xj
          have ej : ((s0.size : Nat) : Int) - 1 = (j : Int) := by omega
          have ejw : IntKind.i64.wrap (j : Int) = (j : Int) := IntWalk.i64_in _ (by have := hn0.out.2; omega)
          have hjl : j < s0.size := by omega
          clear hs1 yj
          go_upto_if 58 with fail
          generalize ((s0[j].toNat : Nat) : Int) = z57
          clear hjl
          generalize (z57 == 47) = b58
          go_cut [] from 59 to 62 (fun wx => MQ 601 w wx g)
          case first =>
            cases b58 with
            | false =>
              go_wp2_with fail
              go_meet
              case rel => exact Q7.out.weak (by decide)
            | true =>
              have hs0 := hn0.out.2
              go_wp2_with fail
              go_meet
              case rel => exact Q7.out.rename 601 _ (by have := hn0.out; rw [ByteArray.size_append, show (⟨#[102]⟩ : ByteArray).size = 1 from rfl]; omega) (by decide)
          case rest =>
            have Q8 := hid hcut
            clear hcut Q7 c0 f0 hn0 ej ejw
            go_wp2_with fail
            (with_reducible refine (G9.out wc Q8.out.below).mono ?_)
            rintro e w9 ⟨rfl, b9⟩
            have Q9 := hid (Q8.out.later b9)
            clear b9 Q8
            go_upto_if 65 with fail
            generalize decide (200 < (k9 : Int)) = b65
            cases b65 with
            | false =>
              go_wp2_with fail
              go_meet
              case rel => exact Q9.out
            | true =>
              go_upto_if 68 with fail
              go_cut [4] from 69 to 70 (fun x wx => (∃ p : Option Addr × Nat × Nat × List Int, x = .slice p.1 p.2.1 p.2.2.1 ∧ Sp.Rd w w.heap.size p.1 p.2.1 p.2.2.2 ∧ p.2.1 ≤ maxLen) ∧ wx = w9)
              case first =>
                by_cases hlt : 10 < n
                · go_wp2_with fail
                  go_meet
                  case rel => exact ⟨⟨(A.map (·.add 10), n - 10, c - 10, zs.drop 10), rfl, HC2.out hlt, Nat.le_trans (Nat.sub_le _ _) HC3.out⟩, rfl⟩
                · go_wp2_with fail
                  go_meet
                  case rel => exact ⟨⟨(none, 0, 0, []), rfl, Sp.Rd.none_, Nat.zero_le _⟩, rfl⟩
              case rest =>
                have xw := hcut.2
                subst xw
                have x4 := hcut.1
                clear hcut
                have y4 := Classical.choose_spec x4
                generalize Classical.choose x4 = p4 at y4
                clear x4
                generalize p4.1 = A2 at y4
                generalize p4.2.1 = n2 at y4
                generalize p4.2.2.1 = c2 at y4
                generalize p4.2.2.2 = zs2 at y4
                have R2 := hid y4.2
                have e4 := y4.1
                clear y4
                subst e4
                go_wp2_with fail
                (with_reducible refine (HPt.out A2 n2 c2 zs2 wc Q9.out.below R2.out.1 R2.out.2).mono ?_)
                rintro e wa ⟨v5, l5, n5, a5, rfl, ho5, hf5, ba⟩
                obtain ⟨A5, c5, rfl, hr5, hc5⟩ := ho5.rd
                have O5 := hid ho5
                have F5 := hid hf5
                clear hr5 hc5 ho5 hf5
                have Qa := hid (Q9.out.later ba)
                have L5 := hid Q9.out.lt
                clear ba Q9
                have x14 := Qa.out.at_ 14 (by decide)
                have y14 := Classical.choose_spec x14
                generalize Classical.choose x14 = o14 at y14
                have c14 := y14.1
                have f14 := y14.2
                clear x14 y14
                go_upto_region 16 with fail
                have Qb := hid (Qa.out.set 14 (.bool true) (fun m => { m with holes := true }) (fun _ _ _ => rfl) (fun _ _ _ _ h => h.holes_ true) (fun _ h => h))
                have O6 := hid (O5.out.set (p := ⟨g, 14, none⟩) L5.out (.bool true))
                clear c14 f14 Qa O5
                generalize wa.setCell _ _ = wb at *
                have x15 := Qb.out.at_ 15 (by decide)
                have y15 := Classical.choose_spec x15
                generalize Classical.choose x15 = o15 at y15
                have c15 := y15.1
                have f15 := y15.2
                clear x15 y15
                go_upto_region 17 with fail
                have Qc := hid (Qb.out.parts A5 c5 l5 wc.heap.size O6.out L5.out (by have := F5.out.len; omega) F5.out.i64)
                clear c15 f15 Qb O6
                generalize wb.setCell _ _ = w12 at *
                have x12 := Qc.out.at_ 12 (by decide)
                have y12 := Classical.choose_spec x12
                generalize Classical.choose x12 = o12 at y12
                have c12 := y12.1
                have f12 := y12.2
                clear x12 y12
                go_upto_region 18 with fail
                have Qd := hid (Qc.out.set 12 (.int .i64 n5) (fun m => { m with size := n5 }) (fun _ _ _ => rfl) (fun _ _ _ _ h => h.size_ (by have := F5.out.n0; omega)) (fun _ h => h))
                clear c12 f12 Qc
                generalize w12.setCell _ _ = wd at *
                go_wp2_with fail
                (with_reducible refine (G9.out wd Qd.out.below).mono ?_)
                rintro e we ⟨rfl, be⟩
                have Qe := hid (Qd.out.later be)
                clear be Qd
                have x13 := Qe.out.at_ 13 (by decide)
                have y13 := Classical.choose_spec x13
                generalize Classical.choose x13 = o13 at y13
                have c13 := y13.1
                have f13 := y13.2
                clear x13 y13
                have e9b : (k9 : Int).tmod 9 = (k9 : Int) % 9 := Int.tmod_eq_emod_of_nonneg (by omega)
                have xm : ∃ m9 : Int, (k9 : Int) % 9 = m9 ∧ 0 ≤ m9 ∧ m9 < 9 := ⟨_, rfl, by omega, by omega⟩
                have ym := Classical.choose_spec xm
                generalize Classical.choose xm = m9 at ym
                clear xm
                have em := ym.1
                have hm9 := hid ym.2
                clear ym
                rw [em] at e9b
                clear em
                have ew9 : IntKind.i64.wrap (a5 + m9) = a5 + m9 := IntWalk.i64_in _ (by have := hm9.out; have := F5.out.e0; omega)
                go_wp2_with fail
                go_meet
                case rel => exact Qe.out.set 13 (.int .i64 (a5 + m9)) (fun m => { m with real := a5 + m9 }) (fun _ _ _ => rfl) (fun _ _ _ _ h => h.real_ (by have := hm9.out; have := F5.out.e0; omega)) (fun _ h => h)
        | false =>
          go_upto_if 88 with fail
          generalize (z == 49) = b1
          cases b1 with
          | true =>
            go_wp2_with fail
            (with_reducible refine (G8.out wc Q4.out.below).mono ?_)
            rintro e w5 ⟨rfl, b5⟩
            have Q5 := hid (Q4.out.later b5)
            clear b5
            go_wp2_with fail
            (with_reducible refine (HNm8.out w5).mono ?_)
            rintro e w6 ⟨rfl, b6⟩
            have Q6 := hid (Q5.out.later b6)
            clear b6
            have x1 := Q6.out.at_ 1 (by decide)
            have y1 := Classical.choose_spec x1
            generalize Classical.choose x1 = o1 at y1
            have c1 := y1.1
            have f1 := y1.2
            clear x1 y1
            go_wp2_with fail
            go_meet
            case rel => exact (Q6.out.set 1 _ (fun m => { m with link := nameT k8 }) (fun _ _ _ => rfl) (fun _ _ _ _ h => h.link_ HS8.out) (fun _ h => h)).weak (by decide)
          | false =>
            go_upto_region 20 with fail
            go_upto_if 88 with fail
            generalize (z == 50) = b2
            cases b2 with
            | true =>
              go_wp2_with fail
              (with_reducible refine (G8.out wc Q4.out.below).mono ?_)
              rintro e w5 ⟨rfl, b5⟩
              have Q5 := hid (Q4.out.later b5)
              clear b5
              go_wp2_with fail
              (with_reducible refine (HNm8.out w5).mono ?_)
              rintro e w6 ⟨rfl, b6⟩
              have Q6 := hid (Q5.out.later b6)
              clear b6
              have x1 := Q6.out.at_ 1 (by decide)
              have y1 := Classical.choose_spec x1
              generalize Classical.choose x1 = o1 at y1
              have c1 := y1.1
              have f1 := y1.2
              clear x1 y1
              go_wp2_with fail
              go_meet
              case rel => exact (Q6.out.set 1 _ (fun m => { m with link := nameT k8 }) (fun _ _ _ => rfl) (fun _ _ _ _ h => h.link_ HS8.out) (fun _ h => h)).weak (by decide)
            | false =>
              go_upto_if 95 with fail
              generalize (z == 51) = b3
              cases b3 with
              | false =>
                go_wp2_with fail
                go_meet
                case rel => exact Q4.out.weak (by decide)
              | true =>
                go_wp2_with fail
                (with_reducible refine (G8.out wc Q4.out.below).mono ?_)
                rintro e w5 ⟨rfl, b5⟩
                have Q5 := hid (Q4.out.later b5)
                clear b5
                have x10 := Q5.out.at_ 10 (by decide)
                have y10 := Classical.choose_spec x10
                generalize Classical.choose x10 = o10 at y10
                have c10 := y10.1
                have f10 := y10.2
                clear x10 y10
                have Q6 := hid (Q5.out.set 10 (.int .i64 (k8 : Int)) (fun m => { m with major := (k8 : Int) }) (fun _ _ _ => rfl) (fun _ _ _ _ h => h.major_ (by omega)) (fun _ h => h))
                go_upto_region 24 with fail
                clear c10 f10 Q5
                generalize w5.setCell _ _ = w6 at *
                go_wp2_with fail
                (with_reducible refine (G9.out w6 Q6.out.below).mono ?_)
                rintro e w7 ⟨rfl, b7⟩
                have Q7 := hid (Q6.out.later b7)
                clear b7
                have x11 := Q7.out.at_ 11 (by decide)
                have y11 := Classical.choose_spec x11
                generalize Classical.choose x11 = o11 at y11
                have c11 := y11.1
                have f11 := y11.2
                clear x11 y11
                go_wp2_with fail
                go_meet
                case rel => exact (Q7.out.set 11 _ (fun m => { m with minor := (k9 : Int) }) (fun _ _ _ => rfl) (fun _ _ _ _ h => h.minor_ (by omega)) (fun _ h => h)).weak (by decide)
      case rest =>
        have Q5 := hid hcut
        clear hcut Q4
        go_wp2_with fail
        (with_reducible refine (G7.out wc Q5.out.below).mono ?_)
        rintro e w5 ⟨rfl, b5⟩
        have Q6 := hid (Q5.out.later b5)
        clear b5 Q5
        go_upto_if 105 with fail
        generalize decide (180 < (k7 : Int)) = b105
        go_cut [] from 106 to 112 (fun wx => MQ 601 w wx g)
        case first =>
          cases b105 with
          | false =>
            go_wp2_with fail
            go_meet
            case rel => exact Q6.out
          | true =>
            go_wp2_with fail
            (with_reducible refine (G7.out w5 Q6.out.below).mono ?_)
            rintro e w6 ⟨rfl, b6⟩
            have Q7 := hid (Q6.out.later b6)
            clear b6 Q6
            go_wp2_with fail
            (with_reducible refine (HTx7.out w6).mono ?_)
            rintro e w7 ⟨rfl, b7⟩
            have Q8 := hid (Q7.out.later b7)
            clear b7 Q7
            have x16 := Q8.out.at_ 16 (by decide)
            have y16 := Classical.choose_spec x16
            generalize Classical.choose x16 = o16 at y16
            have c16 := y16.1
            have f16 := y16.2
            clear x16 y16
            have hg8 := Q8.out.lt
            go_wp2_with fail
            go_meet
            case rel =>
              have Qz := (Q8.out.later ((Below.refl _ w7).alloc (Nat.le_refl _) (.cells #[.string ⟨#[97, 46, 98]⟩, .string (wordT k7 k7), .string ⟨#[99, 111, 109, 109, 101, 110, 116]⟩, .string ⟨#[120]⟩] 30))).extra w7.heap.size 30 ⟨#[97, 46, 98]⟩ (wordT k7 k7) ⟨#[99, 111, 109, 109, 101, 110, 116]⟩ ⟨#[120]⟩ (heap_alloc_new w7 _) hg8 (by
                have := wordT_size k7 k7
                exact ⟨⟨by show (3 : Nat) ≤ 1000000; decide, by omega⟩, by show (7 : Nat) ≤ 1000000; decide, by show (1 : Nat) ≤ 1000000; decide⟩)
              rw [World.setCell_alloc_past _ g 16 _ hg8] at Qz
              exact Qz
        case rest =>
          have Q7 := hid hcut
          clear hcut Q6
          go_wp2_with fail
          (with_reducible refine (G2.out wc Q7.out.below).mono ?_)
          rintro e w7 ⟨rfl, b7⟩
          have Q8 := hid (Q7.out.later b7)
          clear b7 Q7
          go_upto_if 115 with fail
          generalize decide (250 < (k2 : Int)) = b115
          go_cut [] from 116 to 120 (fun wx => MQ 601 w wx g)
          case first =>
            cases b115 with
            | false =>
              go_wp2_with fail
              go_meet
              case rel => exact Q8.out
            | true =>
              go_wp2_with fail
              (with_reducible refine (G3.out w7 Q8.out.below).mono ?_)
              rintro e w8 ⟨rfl, b8⟩
              have Q9 := hid (Q8.out.later b8)
              clear b8 Q8
              have x3 := Q9.out.at_ 3 (by decide)
              have y3 := Classical.choose_spec x3
              generalize Classical.choose x3 = o3 at y3
              have c3 := y3.1
              have f3 := y3.2
              clear x3 y3
              have e3b : (k3 : Int).tmod 3 = (k3 : Int) % 3 := Int.tmod_eq_emod_of_nonneg (by omega)
              have xm : ∃ m3 : Int, (k3 : Int) % 3 = m3 ∧ 0 ≤ m3 ∧ m3 < 3 := ⟨_, rfl, by omega, by omega⟩
              have ym := Classical.choose_spec xm
              generalize Classical.choose xm = m3 at ym
              clear xm
              have em := ym.1
              have hm3 := hid ym.2
              clear ym
              rw [em] at e3b
              clear em
              have ew3 : IntKind.i64.wrap (2097150 + m3) = 2097150 + m3 := IntWalk.i64_in _ (by have := hm3.out; omega)
              go_wp2_with fail
              go_meet
              case rel => exact Q9.out.set 3 (.int .i64 (2097150 + m3)) (fun m => { m with mode := 2097150 + m3 }) (fun _ _ _ => rfl) (fun _ _ _ _ h => h.mode_ (by have := hm3.out; omega)) (fun _ h => h)
          case rest =>
            have xs := hcut.ex
            have hB9 := hid hcut.below
            have hR9 := hid hcut.res
            clear hcut Q8
            have ys := Classical.choose_spec xs
            generalize Classical.choose xs = mm at ys
            clear xs
            have zs1 := Classical.choose_spec ys
            generalize Classical.choose ys = pv at zs1
            clear ys
            have zs2 := Classical.choose_spec zs1
            generalize Classical.choose zs1 = ev at zs2
            clear zs1
            have hM := hid zs2.1
            have hI := hid zs2.2.1
            clear zs2
            have hone := hid (oneP (hI.out wc (MBut.refl _ _ _)))
            go_wp2_with (first
              | (refine wpList_load_row rfl 27 (.tmp 3) rfl g (by rfl) 27 (mcells mm pv ev) (0, 0) _ hM.out Tryz.underlying27 rfl met_size ?_)
              | (refine wpList_store_row rfl 27 (.tmp 2) (.tmp 121) rfl w.heap.size (mcells mm pv ev) (by simp [Act.eval, Act.put]) (by simp [Act.eval, Act.put]) 27 (mcells {} (.slice none 0 0) (.slice none 0 0)) hR9.out met_size rfl (mcells_one _ hone.out.1 hone.out.2) ?_))
            have HR := hid (show MB (wc.setRow w.heap.size (mcells mm pv ev)) w.heap.size mm pv ev from setRow_heap wc _ _ _ _ _ hR9.out)
            refine bodyPost_ret (results_law HR.out rfl) rfl ?_
            exact ⟨mm, pv, ev, rfl, hI.out _ (MBut.row _ _ _ _), below_setRow hB9.out (Nat.le_refl _) _⟩
end Go.Proofs.YtlpblnioodcbnaaGreatDoor

/-! To of any that is known, and of choices, is what the chapter says: the statement's walk. -/
namespace Go.Proofs.YtlpblnioodcbnaaGreatDoor
open Go.RowKit Go.Lib
open Px (R2 tl)
attribute [local go_sem ↓] add_plain
def amR (l : List R2) : Nat := (l.map fun r => 1 + (r.1.size + r.2.size)).sum
theorem amR_take {l : List R2} {i : Nat} (h : i < l.length) : amR (l.take (i + 1)) = amR (l.take i) + (1 + ((l[i]).1.size + (l[i]).2.size)) := by
  unfold amR
  rw [List.take_succ_eq_append_getElem h, List.map_append, List.sum_append]
  simp
theorem amR_le : ∀ (l : List R2) (i : Nat), amR (l.take i) ≤ amR l
  | [], i => by simp [amR]
  | r :: l, 0 => by simp [amR]
  | r :: l, i + 1 => by
    have := amR_le l i
    unfold amR at this ⊢
    simp only [List.take_succ_cons, List.map_cons, List.sum_cons]
    omega
theorem amR_one : ∀ {l : List R2} {r : R2}, r ∈ l → 1 + (r.1.size + r.2.size) ≤ amR l
  | x :: l, r, h => by
    unfold amR
    rw [List.map_cons, List.sum_cons]
    rcases List.mem_cons.1 h with rfl | h
    · omega
    · have := amR_one h
      unfold amR at this
      omega
theorem amR_len : ∀ (l : List R2), l.length ≤ amR l
  | [] => Nat.zero_le _
  | r :: l => by
    have := amR_len l
    unfold amR at this ⊢
    rw [List.map_cons, List.sum_cons, List.length_cons]
    omega
structure MRaw (w : World) (m : M.Met) (pv ev : Value) : Prop where
  parts : ∃ A c, pv = .slice A m.parts.length c ∧ Sp.RdP w w.heap.size A m.parts.length m.parts
  extra : ∃ A c, ev = .slice A m.extra.length c ∧ Px.RdR w w.heap.size A m.extra
  i64s : Sp.M.i64s m.parts
  kind : 0 ≤ m.kind ∧ m.kind ≤ 255
  ints : (-9223372036854775808 ≤ m.mode ∧ m.mode ≤ 9223372036854775807) ∧ (-9223372036854775808 ≤ m.uid ∧ m.uid ≤ 9223372036854775807) ∧ (-9223372036854775808 ≤ m.gid ∧ m.gid ≤ 9223372036854775807) ∧
    (-9223372036854775808 ≤ m.sec ∧ m.sec ≤ 9223372036854775807) ∧ (-9223372036854775808 ≤ m.nan ∧ m.nan ≤ 9223372036854775807) ∧ (-9223372036854775808 ≤ m.major ∧ m.major ≤ 9223372036854775807) ∧
    (-9223372036854775808 ≤ m.minor ∧ m.minor ≤ 9223372036854775807) ∧ (-9223372036854775808 ≤ m.size ∧ m.size ≤ 9223372036854775807) ∧ (-9223372036854775808 ≤ m.real ∧ m.real ≤ 9223372036854775807)
set_option maxRecDepth 100000 in
set_option maxHeartbeats 4000000 in
theorem metaTells_any (m : M.Met) (pv ev : Value) (A1 : Option Addr) (n1 c1 : Nat) (z1 : List Int) (B : Nat) (w : World) (hm : MRaw w m pv ev)
    (hamt : m.parts.length + m.name.size + m.link.size + m.user.size + m.group.size + amR m.extra ≤ 4611686018427387904)
    (hr1 : Sp.Rd w w.heap.size A1 n1 z1) (hc1 : n1 ≤ c1) (hcm : c1 ≤ maxLen) (hB : B ≤ w.heap.size) (ht : Sp.EV B w) :
    Calls Tryz.prog 3 #[.agg (mcells m pv ev), .slice A1 n1 c1] w fun e w' => e = .returned (.bool true) ∧ Below w.heap.size w w' := by
  have HT := hid (fun (V : World) (hV : Below w.heap.size w V) => And.intro (Nat.le_trans hB hV.size) (ht.on (hV.mono hB)))
  have HL := hid (fun (V : World) (hV : Below w.heap.size w V) => lawMeta_any A1 n1 c1 z1 V ((hr1.below hV).more hV.size) hc1 hcm)
  obtain ⟨Ap, cp, rfl, hrp⟩ := hm.parts
  obtain ⟨Ae, ce, rfl, hre⟩ := hm.extra
  have HMR := hid hm
  have hW := (Below.refl w.heap.size w).alloc (Nat.le_refl _) (.cells (mcells m (.slice Ap m.parts.length cp) (.slice Ae m.extra.length ce)) 27)
  have HW := hid hW
  have HRE := hid ((hre.below hW).more hW.size)
  have M1 := hid (MB.new w m (.slice Ap m.parts.length cp) (.slice Ae m.extra.length ce))
  have hs0 : w.heap.size < (World.alloc w (.cells (mcells m (.slice Ap m.parts.length cp) (.slice Ae m.extra.length ce)) 27)).heap.size := by rw [World.size_alloc]; exact Nat.lt_succ_self _
  have hln := amR_len m.extra
  clear hm hr1 hc1 hcm hB ht hrp hre hW
  go_enter Tryz.func3, Tryz.ntmps3
  go_upto_region 1 with fail
  generalize World.alloc w _ = W at *
  have k0 := M1.out.cell (i := 0) (v := .string m.name) rfl
  have k1 := M1.out.cell (i := 1) (v := .string m.link) rfl
  have k6 := M1.out.cell (i := 6) (v := .string m.user) rfl
  have k7 := M1.out.cell (i := 7) (v := .string m.group) rfl
  have k15 := M1.out.cell (i := 15) (v := .slice Ap m.parts.length cp) rfl
  obtain ⟨S, hS⟩ : ∃ S, m.parts.length + m.name.size + m.link.size + m.user.size + m.group.size = S := ⟨_, rfl⟩
  go_upto_region 2 with fail
  have HSS := hid hS
  have hSa : S + amR m.extra ≤ 4611686018427387904 := by omega
  clear k0 k1 k6 k7 k15 hS hamt
  go_wp2_with fail
  go_loopw [5, 6] (fun v5 iv wr => ∃ i : Nat, iv = .int .i64 i ∧ v5 = .int .i64 ((S + amR (m.extra.take i) : Nat) : Int) ∧ i ≤ m.extra.length ∧ Hid (Below W.heap.size W wr)) (fun _ iv _ => m.extra.length - (intOf iv).toNat)
  case atStart => exact ⟨0, rfl, by have h := HSS.out; show _ = Value.int .i64 ((S + 0 : Nat) : Int); rw [← h]; simp, Nat.zero_le _, hid (Below.refl _ _)⟩
  case round =>
    obtain ⟨i, rfl, rfl, hi, HB⟩ := hrel
    have htk := amR_le m.extra i
    by_cases hlt : i < m.extra.length
    · obtain ⟨b, off, rfl, hbb, hc1, hc2⟩ := HRE.out.at_ hlt
      have hnx := amR_take hlt
      have htk2 := amR_le m.extra (i + 1)
      obtain ⟨r, hr⟩ : ∃ r, m.extra[i] = r := ⟨_, rfl⟩
      rw [hr] at hc1 hc2 hnx
      obtain ⟨a0, ha0⟩ : ∃ a, amR (m.extra.take i) = a := ⟨_, rfl⟩
      rw [hnx, ha0] at htk2
      have HNX := hid hnx
      have HA0 := hid ha0
      rw [ha0] at htk ⊢
      have x1 := (HB.out.cell (p := ⟨b, off + i * 2, none⟩) hbb).trans hc1
      have x2 := (HB.out.cell (p := ⟨b, off + i * 2 + 1, none⟩) hbb).trans hc2
      have k16 := (M1.out.below HB.out M1.out.lt).cell (i := 16) (v := .slice (some ⟨b, off, none⟩) m.extra.length ce) rfl
      obtain ⟨q1, hq1⟩ : ∃ n, r.1.size = n := ⟨_, rfl⟩
      obtain ⟨q2, hq2⟩ : ∃ n, r.2.size = n := ⟨_, rfl⟩
      clear hnx ha0 hr hc1 hc2
      go_wp2_with fail
      go_quiet (fail)
      go_wp2_with fail
      go_roundw
      case rel => exact ⟨i + 1, by go_num, by rw [HNX.out, HA0.out]; go_num, by omega, hid (Px.below_drewN' HB.out _)⟩
      case measure => simp [intOf]; omega
    · obtain rfl : i = m.extra.length := by omega
      have k16 := (M1.out.below HB.out M1.out.lt).cell (i := 16) (v := .slice Ae m.extra.length ce) rfl
      rw [List.take_length]
      rw [List.take_length] at htk
      have HWB := hid (HW.out.trans (HB.out.mono HW.out.size))
      have HMB := hid (M1.out.below HB.out M1.out.lt)
      have hbw := HB.out.size
      have hwr : w.heap.size < wr.heap.size := Nat.lt_of_lt_of_le hs0 hbw
      obtain ⟨N, hN⟩ : ∃ N, S + amR m.extra = N := ⟨_, rfl⟩
      rw [hN] at hSa ⊢
      have HNN := hid hN
      clear hN htk hln hbw hs0 HB M1 HW
      by_cases h6 : 600 < N
      · have d6 : decide (600 < N) = true := by rw [decide_eq_true_eq]; exact h6
        have d7 : decide ((N : Int) > 600) = true := by rw [decide_eq_true_eq]; omega
        clear h6
        go_wp2_with fail
        (with_reducible refine (known_any B wr (HT.out _ HWB.out).1 (HT.out _ HWB.out).2).mono ?_)
        rintro e w2 ⟨rfl, b2⟩
        go_wp2_with fail
        go_ret
        exact ⟨rfl, HWB.out.trans (b2.mono HWB.out.size)⟩
      · have d6 : decide (600 < N) = false := by rw [decide_eq_false_iff_not]; exact h6
        have d7 : decide ((N : Int) > 600) = false := by rw [decide_eq_false_iff_not]; omega
        have hI : MIn w m (.slice Ap m.parts.length cp) (.slice Ae m.extra.length ce) := by
          have h1 := HSS.out
          have h2 := HNN.out
          have h3 := amR_len m.extra
          have hmr := HMR.out
          exact ⟨hmr.parts, hmr.extra, by omega, by omega, hmr.i64s, fun r hr => (by have := amR_one hr; omega), hmr.kind, by omega, hmr.ints⟩
        have HI := hid (fun (V : World) (hV : Below w.heap.size w V) => MIn.later hI hV)
        clear h6 hI HSS HNN hSa
        go_wp2_with fail
        (with_reducible refine (known_any B wr (HT.out _ HWB.out).1 (HT.out _ HWB.out).2).mono ?_)
        rintro e w2 ⟨rfl, b2⟩
        have HW2 := hid (HWB.out.trans (b2.mono HWB.out.size))
        have HM2 := hid (HMB.out.below b2 hwr)
        clear HWB HMB b2
        go_wp2_with (refine wpList_load_row rfl 27 (.tmp 2) rfl w.heap.size (by rfl) 27 (mcells m (.slice Ap m.parts.length cp) (.slice Ae m.extra.length ce)) (0, 0) _ HM2.out Tryz.underlying27 rfl met_size ?_)
        (with_reducible refine (tells10_any m (.slice Ap m.parts.length cp) (.slice Ae m.extra.length ce) B w2 (HI.out _ HW2.out) (HT.out _ HW2.out).1 (HT.out _ HW2.out).2).mono ?_)
        rintro e w3 ⟨rfl, b3⟩
        have HW3 := hid (HW2.out.trans (b3.mono HW2.out.size))
        clear HW2 HM2 b3
        go_wp2_with fail
        refine (HL.out _ HW3.out).mono ?_
        rintro e w4 ⟨m4, pv4, ev4, rfl, hI4, b4⟩
        have HW4 := hid (HW3.out.trans (b4.mono HW3.out.size))
        have HT4 := hid (tells10_any m4 pv4 ev4 B w4 hI4 (HT.out _ HW4.out).1 (HT.out _ HW4.out).2)
        clear hI4 b4 HW3
        go_wp2_with fail
        refine HT4.out.mono ?_
        rintro e w5 ⟨rfl, b5⟩
        go_wp2_with fail
        go_ret
        exact ⟨rfl, HW4.out.trans (b5.mono HW4.out.size)⟩
end Go.Proofs.YtlpblnioodcbnaaGreatDoor

/-! What came in of a member that is known: its ranges, and that its amount is at most its bulk. -/
namespace Go.Proofs.YtlpblnioodcbnaaGreatDoor
open Go.RowKit Go.WideShapes Go.ChangeShapes Go.Deep Go.Joins
open Px (R2)

theorem amR_cons (r : R2) (l : List R2) : amR (r :: l) = 1 + (r.1.size + r.2.size) + amR l := by
  unfold amR
  rw [List.map_cons, List.sum_cons]
theorem aggs_bulk {H : Type} (D0 D1 : Nat → DataW H) : ∀ is : List Nat, is.length ≤ Rows.uptoBulkAll (is.map fun i => DataW.agg [D0 i, D1 i])
  | [] => Nat.zero_le _
  | i :: is => by
    have := aggs_bulk D0 D1 is
    simp only [List.map_cons, List.length_cons, Rows.uptoBulkAll, Rows.uptoBulk]
    omega
theorem parts_bulk {H : Type} {enc : TypeId × Value → H} {W : World} {A : Option Addr} {n c : Nat} {d : DataW H} {p : List MemPlace} (h : DataW.Trod enc Tryz.prog W 0 (fun _ => true) true 24 (.slice A n c) d p) : n ≤ Rows.uptoBulk d := by
  obtain ⟨fuel, hf⟩ := h
  rcases open_slice_pairs Tryz.underlying24 Tryz.underlying61 (by kernel_rfl) rfl rfl (by kernel_rfl) (by kernel_rfl) hf with ⟨hcs, hx⟩ | ⟨a, len, cap, m, n', V0, V1, D0, D1, P0, P1, hcs, _, hl, hm, hmm, hx, hi⟩
  · simp [Value.cells] at hcs
    obtain ⟨rfl, rfl, rfl⟩ := hcs
    exact Nat.zero_le _
  · simp [Value.cells] at hcs
    obtain ⟨rfl, rfl, rfl⟩ := hcs
    simp only [Prod.mk.injEq] at hx
    rw [hx.1]
    have hb := aggs_bulk D0 D1 (List.range n)
    rw [List.length_range] at hb
    simp only [Rows.uptoBulk]
    omega
theorem amR_bulk {H : Type} (S0 S1 : Nat → ByteArray) (D0 D1 : Nat → DataW H) : ∀ is : List Nat, (∀ i ∈ is, D0 i = .lit (.string (S0 i).data.toList) ∧ D1 i = .lit (.string (S1 i).data.toList)) →
    amR (is.map fun i => (S0 i, S1 i)) ≤ Rows.uptoBulkAll (is.map fun i => DataW.agg [D0 i, D1 i])
  | [], _ => by simp [amR]
  | i :: is, h => by
    have ih := amR_bulk S0 S1 D0 D1 is fun j hj => h j (List.mem_cons_of_mem _ hj)
    obtain ⟨h0, h1⟩ := h i (by simp)
    rw [List.map_cons, List.map_cons, amR_cons]
    simp only [Rows.uptoBulkAll, Rows.uptoBulk, h0, h1]
    have e0 : (S0 i).data.toList.length = (S0 i).size := rfl
    have e1 : (S1 i).data.toList.length = (S1 i).size := rfl
    rw [e0, e1]
    omega

theorem open_recsU {H : Type} {enc : TypeId × Value → H} {W : World} {A : Option Addr} {n c : Nat} {d : DataW H} {p : List MemPlace} (h : DataW.Trod enc Tryz.prog W 0 (fun _ => true) true 25 (.slice A n c) d p) :
    ∃ l : List R2, l.length = n ∧ Px.RdR W W.heap.size A l ∧ amR l ≤ Rows.uptoBulk d := by
  obtain ⟨fuel, hf⟩ := h
  rcases open_slice_pairs Tryz.underlying25 Tryz.underlying30 (by kernel_rfl) rfl rfl (by kernel_rfl) (by kernel_rfl) hf with ⟨hcs, hx⟩ | ⟨a, len, cap, m, n', V0, V1, D0, D1, P0, P1, hcs, _, hl, hm, hmm, hx, hi⟩
  · simp [Value.cells] at hcs
    obtain ⟨rfl, rfl, rfl⟩ := hcs
    exact ⟨[], rfl, Px.RdR.none_, by simp [amR]⟩
  · simp [Value.cells] at hcs
    obtain ⟨rfl, rfl, rfl⟩ := hcs
    have hm' : m = c := by simpa using hmm
    have hs : ∀ i, i < n → ∃ q : ByteArray × ByteArray, W.cell? (a.add (i * 2)) = some (.string q.1) ∧ W.cell? (a.add (i * 2 + 1)) = some (.string q.2) ∧ D0 i = .lit (.string q.1.data.toList) ∧ D1 i = .lit (.string q.2.data.toList) := by
      intro i hin
      obtain ⟨hc0, hc1, ht0, ht1⟩ := hi i (by omega)
      obtain ⟨s, e0, x0, _⟩ := DataW.trod_string Tryz.underlying9 ht0
      obtain ⟨t, e1, x1, _⟩ := DataW.trod_string Tryz.underlying9 ht1
      injection e0 with e0
      injection e1 with e1
      simp only [Prod.mk.injEq] at x0 x1
      exact ⟨(s, t), by rw [hc0, e0], by rw [hc1, e1], x0.1, x1.1⟩
    obtain ⟨S, hS⟩ := choose_lt hs
    refine ⟨(List.range n).map fun i => ((S i).1, (S i).2), by simp, fun hn => ?_, ?_⟩
    · have hn' : 0 < n := by simpa using hn
      obtain ⟨b, off, spot⟩ := a
      have hc := (hS 0 hn').1
      have hspot : spot = none := by simpa [Addr.add] using World.cell?_spot hc
      subst hspot
      have hb : b < W.heap.size := by
        have hc' := hc
        rw [add_plain'] at hc'
        exact World.block_lt_of_cell? _ _ hc'
      refine ⟨b, off, rfl, hb, fun k r hr => ?_⟩
      obtain ⟨hk, hr⟩ := List.getElem?_eq_some_iff.1 hr
      have hkn : k < n := by simpa using hk
      simp only [List.getElem_map, List.getElem_range] at hr
      subst hr
      obtain ⟨g0, g1, _, _⟩ := hS k hkn
      rw [add_plain'] at g0 g1
      exact ⟨g0, by rw [Nat.add_assoc]; exact g1⟩
    · simp only [Prod.mk.injEq] at hx
      rw [hx.1]
      have hb := amR_bulk (fun i => (S i).1) (fun i => (S i).2) D0 D1 (List.range n) fun i hin => by
        obtain ⟨_, _, h0, h1⟩ := hS i (List.mem_range.1 hin)
        exact ⟨h0, h1⟩
      simp only [Rows.uptoBulk]
      omega

set_option maxRecDepth 100000 in
set_option maxHeartbeats 4000000 in
theorem open_metaU {H : Type} {enc : TypeId × Value → H} {W : World} {b0 : Nat} {v : Value} {d : DataW H} {p : List MemPlace} (hv : Value.okWide Tryz.prog W .any b0 27 v) (h : DataW.Trod enc Tryz.prog W 0 (fun _ => true) true 27 v d p) :
    ∃ (m : M.Met) (P E : Option Addr) (pc ec : Nat), v = .agg (mcells m (.slice P m.parts.length pc) (.slice E m.extra.length ec)) ∧ MRaw W m (.slice P m.parts.length pc) (.slice E m.extra.length ec) ∧ m.parts.length + m.name.size + m.link.size + m.user.size + m.group.size + amR m.extra ≤ Rows.uptoBulk d := by
  obtain ⟨cs, rfl, hsz⟩ := okWide_struct Tryz.underlying27 hv
  obtain ⟨c0, c1, c2, c3, c4, c5, c6, c7, c8, c9, c10, c11, c12, c13, c14, c15, c16, rfl⟩ := array17 (hsz.trans cells_meta)
  obtain ⟨fuel, hf⟩ := h
  obtain ⟨xs, n, _, hx, _, hlen, hf⟩ := DataW.trod_struct Tryz.underlying27 hf
  have at_ : ∀ i (hi : i < 16), ∃ y, xs[i]? = some y := fun i hi => ⟨xs[i]'(by rw [hlen]; exact hi), List.getElem?_eq_getElem _⟩
  obtain ⟨y0, hy0⟩ := at_ 0 (by decide)
  have h0 : DataW.trod enc Tryz.prog W 0 (fun _ => true) true n 9 (([c0, c1, c2, c3, c4, c5, c6, c7, c8, c9, c10, c11, c12, c13, c14, c15, c16].drop 0).take (Tryz.prog.cellsOf 9)) = some y0 := (hf 0 _ rfl).trans hy0
  rw [cells_str] at h0
  replace h0 : DataW.trod enc Tryz.prog W 0 (fun _ => true) true n 9 [c0] = some y0 := h0
  obtain ⟨y1, hy1⟩ := at_ 1 (by decide)
  have h1 : DataW.trod enc Tryz.prog W 0 (fun _ => true) true n 9 (([c0, c1, c2, c3, c4, c5, c6, c7, c8, c9, c10, c11, c12, c13, c14, c15, c16].drop 1).take (Tryz.prog.cellsOf 9)) = some y1 := (hf 1 _ rfl).trans hy1
  rw [cells_str] at h1
  replace h1 : DataW.trod enc Tryz.prog W 0 (fun _ => true) true n 9 [c1] = some y1 := h1
  obtain ⟨y2, hy2⟩ := at_ 2 (by decide)
  have h2 : DataW.trod enc Tryz.prog W 0 (fun _ => true) true n 5 (([c0, c1, c2, c3, c4, c5, c6, c7, c8, c9, c10, c11, c12, c13, c14, c15, c16].drop 2).take (Tryz.prog.cellsOf 5)) = some y2 := (hf 2 _ rfl).trans hy2
  rw [cells_u8] at h2
  replace h2 : DataW.trod enc Tryz.prog W 0 (fun _ => true) true n 5 [c2] = some y2 := h2
  obtain ⟨y3, hy3⟩ := at_ 3 (by decide)
  have h3 : DataW.trod enc Tryz.prog W 0 (fun _ => true) true n 3 (([c0, c1, c2, c3, c4, c5, c6, c7, c8, c9, c10, c11, c12, c13, c14, c15, c16].drop 3).take (Tryz.prog.cellsOf 3)) = some y3 := (hf 3 _ rfl).trans hy3
  rw [cells_int] at h3
  replace h3 : DataW.trod enc Tryz.prog W 0 (fun _ => true) true n 3 [c3] = some y3 := h3
  obtain ⟨y4, hy4⟩ := at_ 4 (by decide)
  have h4 : DataW.trod enc Tryz.prog W 0 (fun _ => true) true n 3 (([c0, c1, c2, c3, c4, c5, c6, c7, c8, c9, c10, c11, c12, c13, c14, c15, c16].drop 4).take (Tryz.prog.cellsOf 3)) = some y4 := (hf 4 _ rfl).trans hy4
  rw [cells_int] at h4
  replace h4 : DataW.trod enc Tryz.prog W 0 (fun _ => true) true n 3 [c4] = some y4 := h4
  obtain ⟨y5, hy5⟩ := at_ 5 (by decide)
  have h5 : DataW.trod enc Tryz.prog W 0 (fun _ => true) true n 3 (([c0, c1, c2, c3, c4, c5, c6, c7, c8, c9, c10, c11, c12, c13, c14, c15, c16].drop 5).take (Tryz.prog.cellsOf 3)) = some y5 := (hf 5 _ rfl).trans hy5
  rw [cells_int] at h5
  replace h5 : DataW.trod enc Tryz.prog W 0 (fun _ => true) true n 3 [c5] = some y5 := h5
  obtain ⟨y6, hy6⟩ := at_ 6 (by decide)
  have h6 : DataW.trod enc Tryz.prog W 0 (fun _ => true) true n 9 (([c0, c1, c2, c3, c4, c5, c6, c7, c8, c9, c10, c11, c12, c13, c14, c15, c16].drop 6).take (Tryz.prog.cellsOf 9)) = some y6 := (hf 6 _ rfl).trans hy6
  rw [cells_str] at h6
  replace h6 : DataW.trod enc Tryz.prog W 0 (fun _ => true) true n 9 [c6] = some y6 := h6
  obtain ⟨y7, hy7⟩ := at_ 7 (by decide)
  have h7 : DataW.trod enc Tryz.prog W 0 (fun _ => true) true n 9 (([c0, c1, c2, c3, c4, c5, c6, c7, c8, c9, c10, c11, c12, c13, c14, c15, c16].drop 7).take (Tryz.prog.cellsOf 9)) = some y7 := (hf 7 _ rfl).trans hy7
  rw [cells_str] at h7
  replace h7 : DataW.trod enc Tryz.prog W 0 (fun _ => true) true n 9 [c7] = some y7 := h7
  obtain ⟨y8, hy8⟩ := at_ 8 (by decide)
  have h8 : DataW.trod enc Tryz.prog W 0 (fun _ => true) true n 23 (([c0, c1, c2, c3, c4, c5, c6, c7, c8, c9, c10, c11, c12, c13, c14, c15, c16].drop 8).take (Tryz.prog.cellsOf 23)) = some y8 := (hf 8 _ rfl).trans hy8
  rw [cells_time] at h8
  replace h8 : DataW.trod enc Tryz.prog W 0 (fun _ => true) true n 23 [c8, c9] = some y8 := h8
  obtain ⟨y9, hy9⟩ := at_ 9 (by decide)
  have h9 : DataW.trod enc Tryz.prog W 0 (fun _ => true) true n 3 (([c0, c1, c2, c3, c4, c5, c6, c7, c8, c9, c10, c11, c12, c13, c14, c15, c16].drop 10).take (Tryz.prog.cellsOf 3)) = some y9 := (hf 9 _ rfl).trans hy9
  rw [cells_int] at h9
  replace h9 : DataW.trod enc Tryz.prog W 0 (fun _ => true) true n 3 [c10] = some y9 := h9
  obtain ⟨y10, hy10⟩ := at_ 10 (by decide)
  have h10 : DataW.trod enc Tryz.prog W 0 (fun _ => true) true n 3 (([c0, c1, c2, c3, c4, c5, c6, c7, c8, c9, c10, c11, c12, c13, c14, c15, c16].drop 11).take (Tryz.prog.cellsOf 3)) = some y10 := (hf 10 _ rfl).trans hy10
  rw [cells_int] at h10
  replace h10 : DataW.trod enc Tryz.prog W 0 (fun _ => true) true n 3 [c11] = some y10 := h10
  obtain ⟨y11, hy11⟩ := at_ 11 (by decide)
  have h11 : DataW.trod enc Tryz.prog W 0 (fun _ => true) true n 3 (([c0, c1, c2, c3, c4, c5, c6, c7, c8, c9, c10, c11, c12, c13, c14, c15, c16].drop 12).take (Tryz.prog.cellsOf 3)) = some y11 := (hf 11 _ rfl).trans hy11
  rw [cells_int] at h11
  replace h11 : DataW.trod enc Tryz.prog W 0 (fun _ => true) true n 3 [c12] = some y11 := h11
  obtain ⟨y12, hy12⟩ := at_ 12 (by decide)
  have h12 : DataW.trod enc Tryz.prog W 0 (fun _ => true) true n 3 (([c0, c1, c2, c3, c4, c5, c6, c7, c8, c9, c10, c11, c12, c13, c14, c15, c16].drop 13).take (Tryz.prog.cellsOf 3)) = some y12 := (hf 12 _ rfl).trans hy12
  rw [cells_int] at h12
  replace h12 : DataW.trod enc Tryz.prog W 0 (fun _ => true) true n 3 [c13] = some y12 := h12
  obtain ⟨y13, hy13⟩ := at_ 13 (by decide)
  have h13 : DataW.trod enc Tryz.prog W 0 (fun _ => true) true n 4 (([c0, c1, c2, c3, c4, c5, c6, c7, c8, c9, c10, c11, c12, c13, c14, c15, c16].drop 14).take (Tryz.prog.cellsOf 4)) = some y13 := (hf 13 _ rfl).trans hy13
  rw [cells_bool] at h13
  replace h13 : DataW.trod enc Tryz.prog W 0 (fun _ => true) true n 4 [c14] = some y13 := h13
  obtain ⟨y14, hy14⟩ := at_ 14 (by decide)
  have h14 : DataW.trod enc Tryz.prog W 0 (fun _ => true) true n 24 (([c0, c1, c2, c3, c4, c5, c6, c7, c8, c9, c10, c11, c12, c13, c14, c15, c16].drop 15).take (Tryz.prog.cellsOf 24)) = some y14 := (hf 14 _ rfl).trans hy14
  rw [cells_parts] at h14
  replace h14 : DataW.trod enc Tryz.prog W 0 (fun _ => true) true n 24 [c15] = some y14 := h14
  obtain ⟨y15, hy15⟩ := at_ 15 (by decide)
  have h15 : DataW.trod enc Tryz.prog W 0 (fun _ => true) true n 25 (([c0, c1, c2, c3, c4, c5, c6, c7, c8, c9, c10, c11, c12, c13, c14, c15, c16].drop 16).take (Tryz.prog.cellsOf 25)) = some y15 := (hf 15 _ rfl).trans hy15
  rw [cells_recs] at h15
  replace h15 : DataW.trod enc Tryz.prog W 0 (fun _ => true) true n 25 [c16] = some y15 := h15
  clear hf at_
  obtain ⟨v0, e0, x0, _⟩ := DataW.trod_string Tryz.underlying9 h0
  injection e0 with e0
  subst e0
  obtain ⟨v1, e1, x1, _⟩ := DataW.trod_string Tryz.underlying9 h1
  injection e1 with e1
  subst e1
  obtain ⟨v2, e2, _, w2⟩ := DataW.trod_int Tryz.underlying5 h2
  injection e2 with e2
  subst e2
  obtain ⟨v3, e3, _, w3⟩ := DataW.trod_int Tryz.underlying3 h3
  injection e3 with e3
  subst e3
  obtain ⟨v4, e4, _, w4⟩ := DataW.trod_int Tryz.underlying3 h4
  injection e4 with e4
  subst e4
  obtain ⟨v5, e5, _, w5⟩ := DataW.trod_int Tryz.underlying3 h5
  injection e5 with e5
  subst e5
  obtain ⟨v6, e6, x6, _⟩ := DataW.trod_string Tryz.underlying9 h6
  injection e6 with e6
  subst e6
  obtain ⟨v7, e7, x7, _⟩ := DataW.trod_string Tryz.underlying9 h7
  injection e7 with e7
  subst e7
  obtain ⟨z0, z1, nn, _, _, g0, g1⟩ := trod_struct2 Tryz.underlying23 h8
  replace g0 : DataW.trod enc Tryz.prog W 0 (fun _ => true) true nn 3 ([c8, c9].take (Tryz.prog.cellsOf 3)) = some z0 := g0
  replace g1 : DataW.trod enc Tryz.prog W 0 (fun _ => true) true nn 3 ([c9].take (Tryz.prog.cellsOf 3)) = some z1 := g1
  rw [cells_int] at g0 g1
  obtain ⟨v8, e8, _, w8⟩ := DataW.trod_int Tryz.underlying3 (show DataW.trod enc Tryz.prog W 0 (fun _ => true) true nn 3 [c8] = some z0 from g0)
  obtain ⟨v9, e9, _, w9⟩ := DataW.trod_int Tryz.underlying3 (show DataW.trod enc Tryz.prog W 0 (fun _ => true) true nn 3 [c9] = some z1 from g1)
  injection e8 with e8
  injection e9 with e9
  subst e8 e9
  obtain ⟨v10, e10, _, w10⟩ := DataW.trod_int Tryz.underlying3 h9
  injection e10 with e10
  subst e10
  obtain ⟨v11, e11, _, w11⟩ := DataW.trod_int Tryz.underlying3 h10
  injection e11 with e11
  subst e11
  obtain ⟨v12, e12, _, w12⟩ := DataW.trod_int Tryz.underlying3 h11
  injection e12 with e12
  subst e12
  obtain ⟨v13, e13, _, w13⟩ := DataW.trod_int Tryz.underlying3 h12
  injection e13 with e13
  subst e13
  obtain ⟨v14, e14, _⟩ := DataW.trod_bool Tryz.underlying4 h13
  injection e14 with e14
  subst e14
  obtain ⟨A15, l15, k15, e15⟩ := slice_form Tryz.underlying24 h14
  obtain ⟨A16, l16, k16, e16⟩ := slice_form Tryz.underlying25 h15
  injection e15 with e15
  injection e16 with e16
  subst e15 e16
  have hq14 := parts_bulk ⟨n, (show DataW.trod enc Tryz.prog W 0 (fun _ => true) true n 24 (Value.slice A15 l15 k15).cells.toList = some y14 from h14)⟩
  obtain ⟨P, hP, hPi, _⟩ := open_parts ⟨n, (show DataW.trod enc Tryz.prog W 0 (fun _ => true) true n 24 (Value.slice A15 l15 k15).cells.toList = some y14 from h14)⟩
  obtain ⟨R, hl, hR, hq15⟩ := open_recsU ⟨n, (show DataW.trod enc Tryz.prog W 0 (fun _ => true) true n 25 (Value.slice A16 l16 k16).cells.toList = some y15 from h15)⟩
  have hPl := hP.len
  subst hPl hl
  refine ⟨⟨v0, v1, v2, v3, v4, v5, v6, v7, v8, v9, v10, v11, v12, v13, v14, P, R⟩, A15, A16, k15, k16, rfl, ?_, ?_⟩
  · exact ⟨⟨_, _, rfl, hP⟩, ⟨_, _, rfl, hR⟩, hPi, bounds_u8 w2, bounds_i64 w3, bounds_i64 w4, bounds_i64 w5, bounds_i64 w8, bounds_i64 w9, bounds_i64 w10, bounds_i64 w11, bounds_i64 w12, bounds_i64 w13⟩
  · have hxe : xs = [y0, y1, y2, y3, y4, y5, y6, y7, y8, y9, y10, y11, y12, y13, y14, y15] := by
      apply List.ext_getElem?
      intro k
      rcases Nat.lt_or_ge k 16 with hk | hk
      · have : k = 0 ∨ k = 1 ∨ k = 2 ∨ k = 3 ∨ k = 4 ∨ k = 5 ∨ k = 6 ∨ k = 7 ∨ k = 8 ∨ k = 9 ∨ k = 10 ∨ k = 11 ∨ k = 12 ∨ k = 13 ∨ k = 14 ∨ k = 15 := by omega
        rcases this with rfl | rfl | rfl | rfl | rfl | rfl | rfl | rfl | rfl | rfl | rfl | rfl | rfl | rfl | rfl | rfl <;> assumption
      · rw [List.getElem?_eq_none (by rw [hlen]; exact hk), List.getElem?_eq_none (by exact hk)]
    have hd : d = .agg (xs.map (·.1)) := congrArg Prod.fst hx
    rw [hd, hxe]
    subst x0 x1 x6 x7
    simp only [List.map_cons, List.map_nil, Rows.uptoBulk, Rows.uptoBulkAll]
    have s0 : v0.data.toList.length = v0.size := rfl
    have s1 : v1.data.toList.length = v1.size := rfl
    have s6 : v6.data.toList.length = v6.size := rfl
    have s7 : v7.data.toList.length = v7.size := rfl
    rw [s0, s1, s6, s7]
    show P.length + v0.size + v1.size + v6.size + v7.size + amR R ≤ _
    omega
end Go.Proofs.YtlpblnioodcbnaaGreatDoor
