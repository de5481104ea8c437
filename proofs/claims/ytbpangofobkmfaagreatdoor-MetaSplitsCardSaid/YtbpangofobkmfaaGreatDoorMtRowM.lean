/-
  What every frame takes; what came in of a member that is known: what it is. (MtRow in it.)
-/
import Derived.Test.YtbpangofobkmfaaGreatDoorKS
import Derived.Test.YtbpangofobkmfaaGreatDoorRows
import Derived.WalkKit
import Derived.ProofKit
import Derived.OpenShut
import Derived.ShutString
import Derived.ChangeOld
import Derived.ChangeSame
import Derived.LaidMore
import Derived.Lib.LaidTab
import Derived.MakeChecks
import Derived.Stop.LaidErr
import Derived.Test.YtbpangofobkmfaaGreatDoorMtMem
import Derived.Test.YtbpangofobkmfaaGreatDoorKX
import Derived.Deep.SlicePairs
import Derived.Stop.Joined
import Derived.Lib.SmallJoins
set_option linter.unusedVariables false
set_option linter.unusedSimpArgs false
namespace Go.Proofs.YtbpangofobkmfaaGreatDoor
open Go.RowKit Go.WideShapes Go.ChangeShapes

section
variable {H : Type} {enc : TypeId × Value → H} {P : Program}
/-- The row's last step, where the world below is as it was. -/
theorem post_of_below {f : Func} {s : ChangeSpec} {apart fresh handsOn again : Bool} {W W' : World} {args : Array Value} {v : Value} {ds gs : List (DataW H)} {before pa pv : List MemPlace}
    (hW : DataW.Whole enc P f.params.toList s.vars apart W args.toList ds gs before)
    (hres : ∀ (b : Nat) (sp : Nat → Bool) (hd : Bool), DataW.TrodAll enc P W' b sp hd f.resultTypes.toList (v.resultList f.resultTypes.size) (s.fn H (ds ++ gs)).results [])
    (hargs : ∀ sp : Nat → Bool, (∀ p ∈ before, sp p.block = true) → DataW.TrodAll enc P W' 0 sp true f.params.toList args.toList (s.fn H (ds ++ gs)).args pa)
    (hvars : ∀ sp : Nat → Bool, (∀ p ∈ before, sp p.block = true) → DataW.TrodVars enc P W' sp s.vars (s.fn H (ds ++ gs)).vars pv)
    (hps : before = pa ++ pv) (hb : Below W.heap.size W W')
    (hok : ∀ (j : Nat) (t : TypeId) (r : Value), f.resultTypes[j]? = some t → (v.resultList f.resultTypes.size)[j]? = some r → Value.okWide P W' .any 0 t r) :
    s.post enc P f apart fresh handsOn again W args v W' := by
  have hlt : ∀ p ∈ before, p.block < W.heap.size := fun p hp => hW.lt p hp
  have hold : ∀ p ∈ before, (fun b => decide (b < W.heap.size)) p.block = true := fun p hp => by simpa using hlt p hp
  refine ⟨ds, gs, before, [], pa, pv, hW, hres _ _ _, hargs _ hold, hvars _ hold, World.keptBut_mono (fun p hp => ⟨hp, ?_⟩) (hb.frame (· ∈ before)), fun _ => ?_⟩
  · rw [hps, List.mem_append] at hp
    exact Or.inr hp
  · obtain ⟨_, _, _, _, _, hz, hn⟩ := hW
    refine ⟨hok, _, _, ([] ++ pa) ++ pv, ⟨[] ++ pa, pv, trodAll_append (hargs _ (fun _ _ => rfl)) (hres _ _ _), hvars _ (fun _ _ => rfl), rfl, ?_, ?_⟩, ?_⟩
    · intro b off hp
      have hin : MemPlace.cell b off ∈ before := by rw [hps]; simpa using hp
      rw [hb.frozen (hlt _ hin)]
      exact hz b off hin
    · intro ha
      have := hn ha
      rw [hps] at this
      simpa using this
    · intro p hp _
      rw [hps]
      simpa using hp
end

/-- Bytes that came in. -/
theorem rd_of_row {w : World} {a : Option Addr} {len cap : Nat} {zs : List Int}
    (h : (a = none ∧ len = 0 ∧ cap = 0 ∧ zs = []) ∨
      ∃ x, a = some x ∧ len ≤ cap ∧ cap ≤ maxLen ∧ zs.length = cap ∧ (∀ i, i < zs.length → w.cell? (x.add i) = some (.int .u8 (zs.getD i 0))) ∧ ∀ n ∈ zs, (Lit.int .u8 n).wf = true) :
    Sp.Rd w w.heap.size a len (zs.take len) ∧ len ≤ cap ∧ cap ≤ maxLen := by
  rcases h with ⟨rfl, rfl, rfl, rfl⟩ | ⟨x, rfl, hl, hm, hz, hcell, hwz⟩
  · exact ⟨Sp.Rd.none_, Nat.le_refl _, Nat.zero_le _⟩
  · refine ⟨⟨by rw [List.length_take]; omega, fun z hz' => bounds_u8 (hwz z (List.mem_of_mem_take hz')), fun hn => ?_⟩, hl, hm⟩
    obtain ⟨b, off, spot⟩ := x
    have hc := hcell 0 (by omega)
    have hspot : spot = none := by simpa [Addr.add] using World.cell?_spot hc
    subst hspot
    have hb : b < w.heap.size := by
      have hc' := hc
      rw [show (⟨b, off, none⟩ : Addr).add 0 = ⟨b, off, none⟩ from by simp [Addr.add]] at hc'
      exact World.block_lt_of_cell? _ _ hc'
    refine ⟨b, off, rfl, hb, fun j z hj => ?_⟩
    rw [List.getElem?_take] at hj
    split at hj
    · rename_i hjl
      have hjz : j < zs.length := by omega
      have hcj := hcell j hjz
      have e : (⟨b, off, none⟩ : Addr).add j = ⟨b, off + j, none⟩ := by
        unfold Addr.add
        split
        · rename_i h0
          subst h0
          rfl
        · rfl
      rw [e, List.getD_eq_getElem?_getD, hj] at hcj
      exact hcj
    · cases hj


/-- Atoi's and Itoa's tables. -/
abbrev EV (B : Nat) (w : World) : Prop := Sp.EV B w
theorem star_ : "*" ++ "errors.errorString" = "*errors.errorString" := by decide
/-- What Atoi and Itoa read, out of what is laid. -/
theorem ev_of (w : World) (laid : List (String × DataW Unit)) (a b c : String × DataW Unit) (t1 t2 : List UInt8) (rest : List (String × DataW Unit))
    (hl : laid = a :: b :: ("internal/strconv.uint64pow10", Lib.tabData .u64 Lib.pow10Tab) :: c :: ("strconv.ErrRange", .iface "*errors.errorString" (.ptr (.agg [.lit (.string t1)]))) :: ("strconv.ErrSyntax", .iface "*errors.errorString" (.ptr (.agg [.lit (.string t2)]))) :: rest)
    (hn : (laid.all fun x => x.2.handleName?.isNone) = true) (h : laidMetH Tryz.prog laid w) : EV w.heap.size w := by
  rw [MakeChecks.laidMetH_plain _ _ _ hn, hl] at h
  have h2 := laidMet.tail (laidMet.tail h)
  have h4 := laidMet.tail (laidMet.tail h2)
  have h5 := laidMet.tail h4
  have hrow : ∀ u, Tryz.prog.typeName? 3 u = some "*errors.errorString" → u = 203 := fun u h =>
    typeName_ptr_named (nm := "errors.errorString") (by rw [star_]; kernel_rfl) (by kernel_rfl) (by decide) u (by rw [star_]; exact h)
  obtain ⟨a1, s1, hv1, _⟩ := laid_sentinel h4 (g := 3) (ti := 127) (tp := 203) (te := 205) (ts := 9) (by kernel_rfl) (by kernel_rfl) Tryz.underlying127 hrow Tryz.underlying203 Tryz.underlying205 rfl rfl Tryz.underlying9 (by kernel_rfl) (by kernel_rfl)
  obtain ⟨a2, s2, hv2, _⟩ := laid_sentinel h5 (g := 2) (ti := 127) (tp := 203) (te := 205) (ts := 9) (by kernel_rfl) (by kernel_rfl) Tryz.underlying127 hrow Tryz.underlying203 Tryz.underlying205 rfl rfl Tryz.underlying9 (by kernel_rfl) (by kernel_rfl)
  have c1 := World.var?_cell (g := 3) (by kernel_rfl) hv1 0
  have c2 := World.var?_cell (g := 2) (by kernel_rfl) hv2 0
  exact ⟨Lib.tabBelow_of_tabIs (Lib.tabIs_of_head (g := 0) (by kernel_rfl) (by kernel_rfl) Tryz.underlying159 Tryz.underlying139 (by kernel_rfl) (by kernel_rfl) h2),
    ⟨World.block_lt_of_cell? _ _ c2, _, _, c2⟩, ⟨World.block_lt_of_cell? _ _ c1, _, _, c1⟩⟩
end Go.Proofs.YtbpangofobkmfaaGreatDoor

namespace Go.Proofs.YtbpangofobkmfaaGreatDoor
open Go.RowKit Go.WideShapes Go.ChangeShapes Go.Deep Go.Joins
open Px (R2)

theorem add_plain' (b off n : Nat) : Addr.add ⟨b, off, none⟩ n = ⟨b, off + n, none⟩ := by
  unfold Addr.add
  split
  · rename_i h; subst h; rfl
  · rfl
theorem open_parts {H : Type} {enc : TypeId × Value → H} {W : World} {A : Option Addr} {n c : Nat} {d : DataW H} {p : List MemPlace} (h : DataW.Trod enc Tryz.prog W 0 (fun _ => true) true 24 (.slice A n c) d p) :
    ∃ l : List (Int × Int), Sp.RdP W W.heap.size A n l ∧ Sp.M.i64s l ∧ n ≤ maxLen := by
  obtain ⟨fuel, hf⟩ := h
  rcases open_slice_pairs Tryz.underlying24 Tryz.underlying75 (by kernel_rfl) rfl rfl (by kernel_rfl) (by kernel_rfl) hf with ⟨hcs, hx⟩ | ⟨a, len, cap, m, n', V0, V1, D0, D1, P0, P1, hcs, _, hl, hm, hmm, hx, hi⟩
  · simp [Value.cells] at hcs
    obtain ⟨rfl, rfl, rfl⟩ := hcs
    exact ⟨[], Sp.RdP.none_, (fun p hp => absurd hp (by simp)), Nat.zero_le _⟩
  · simp [Value.cells] at hcs
    obtain ⟨rfl, rfl, rfl⟩ := hcs
    have hm' : m = c := by simpa using hmm
    have hs : ∀ i, i < n → ∃ q : Int × Int, W.cell? (a.add (i * 2)) = some (.int .i64 q.1) ∧ W.cell? (a.add (i * 2 + 1)) = some (.int .i64 q.2) ∧ (Lit.int .i64 q.1).wf = true ∧ (Lit.int .i64 q.2).wf = true := by
      intro i hin
      obtain ⟨hc0, hc1, ht0, ht1⟩ := hi i (by omega)
      obtain ⟨s, e0, _, w0⟩ := DataW.trod_int Tryz.underlying3 ht0
      obtain ⟨t, e1, _, w1⟩ := DataW.trod_int Tryz.underlying3 ht1
      injection e0 with e0
      injection e1 with e1
      exact ⟨(s, t), by rw [hc0, e0], by rw [hc1, e1], w0, w1⟩
    obtain ⟨S, hS⟩ := choose_lt hs
    refine ⟨(List.range n).map S, ⟨by simp, fun hn => ?_⟩, ?_, Nat.le_trans hl hm⟩
    · obtain ⟨b, off, spot⟩ := a
      have hc := (hS 0 hn).1
      have hspot : spot = none := by simpa [Addr.add] using World.cell?_spot hc
      subst hspot
      have hadd : ∀ k : Nat, (⟨b, off, none⟩ : Addr).add k = ⟨b, off + k, none⟩ := by
        intro k
        unfold Addr.add
        split
        · rename_i h0; subst h0; rfl
        · rfl
      have hb : b < W.heap.size := by
        have hc' := hc
        rw [hadd] at hc'
        exact World.block_lt_of_cell? _ _ hc'
      refine ⟨b, off, rfl, hb, fun k r hr => ?_⟩
      obtain ⟨hk, hr⟩ := List.getElem?_eq_some_iff.1 hr
      have hkn : k < n := by simpa using hk
      simp only [List.getElem_map, List.getElem_range] at hr
      subst hr
      obtain ⟨g0, g1, _, _⟩ := hS k hkn
      rw [hadd] at g0 g1
      exact ⟨g0, by rw [Nat.add_assoc]; exact g1⟩
    · intro q hq
      obtain ⟨i, hin, rfl⟩ := List.mem_map.1 hq
      obtain ⟨_, _, w0, w1⟩ := hS i (List.mem_range.1 hin)
      exact ⟨bounds_i64 w0, bounds_i64 w1⟩
theorem open_recs {H : Type} {enc : TypeId × Value → H} {W : World} {A : Option Addr} {n c : Nat} {d : DataW H} {p : List MemPlace} (h : DataW.Trod enc Tryz.prog W 0 (fun _ => true) true 27 (.slice A n c) d p) :
    ∃ l : List R2, l.length = n ∧ Px.RdR W W.heap.size A l ∧ n ≤ maxLen := by
  obtain ⟨fuel, hf⟩ := h
  rcases open_slice_pairs Tryz.underlying27 Tryz.underlying43 (by kernel_rfl) rfl rfl (by kernel_rfl) (by kernel_rfl) hf with ⟨hcs, hx⟩ | ⟨a, len, cap, m, n', V0, V1, D0, D1, P0, P1, hcs, _, hl, hm, hmm, hx, hi⟩
  · simp [Value.cells] at hcs
    obtain ⟨rfl, rfl, rfl⟩ := hcs
    exact ⟨[], rfl, Px.RdR.none_, Nat.zero_le _⟩
  · simp [Value.cells] at hcs
    obtain ⟨rfl, rfl, rfl⟩ := hcs
    have hm' : m = c := by simpa using hmm
    have hs : ∀ i, i < n → ∃ q : ByteArray × ByteArray, W.cell? (a.add (i * 2)) = some (.string q.1) ∧ W.cell? (a.add (i * 2 + 1)) = some (.string q.2) ∧ D0 i = .lit (.string q.1.data.toList) ∧ D1 i = .lit (.string q.2.data.toList) := by
      intro i hin
      obtain ⟨hc0, hc1, ht0, ht1⟩ := hi i (by omega)
      obtain ⟨s, e0, x0, _⟩ := DataW.trod_string Tryz.underlying9 ht0
      obtain ⟨t, e1, x1, _⟩ := DataW.trod_string Tryz.underlying9 ht1
      injection e0 with e0
      injection e1 with e1
      simp only [Prod.mk.injEq] at x0 x1
      exact ⟨(s, t), by rw [hc0, e0], by rw [hc1, e1], x0.1, x1.1⟩
    obtain ⟨S, hS⟩ := choose_lt hs
    refine ⟨(List.range n).map fun i => ((S i).1, (S i).2), by simp, fun hn => ?_, ?_⟩
    · have hn' : 0 < n := by simpa using hn
      obtain ⟨b, off, spot⟩ := a
      have hc := (hS 0 hn').1
      have hspot : spot = none := by simpa [Addr.add] using World.cell?_spot hc
      subst hspot
      have hb : b < W.heap.size := by
        have hc' := hc
        rw [add_plain'] at hc'
        exact World.block_lt_of_cell? _ _ hc'
      refine ⟨b, off, rfl, hb, fun k r hr => ?_⟩
      obtain ⟨hk, hr⟩ := List.getElem?_eq_some_iff.1 hr
      have hkn : k < n := by simpa using hk
      simp only [List.getElem_map, List.getElem_range] at hr
      subst hr
      obtain ⟨g0, g1, _, _⟩ := hS k hkn
      rw [add_plain'] at g0 g1
      exact ⟨g0, by rw [Nat.add_assoc]; exact g1⟩
    · exact Nat.le_trans hl hm

theorem array17 {α : Type} {cs : Array α} (h : cs.size = 17) : ∃ c0 c1 c2 c3 c4 c5 c6 c7 c8 c9 c10 c11 c12 c13 c14 c15 c16, cs = #[c0, c1, c2, c3, c4, c5, c6, c7, c8, c9, c10, c11, c12, c13, c14, c15, c16] := by
  obtain ⟨l⟩ := cs
  match l, h with
  | [c0, c1, c2, c3, c4, c5, c6, c7, c8, c9, c10, c11, c12, c13, c14, c15, c16], _ => exact ⟨c0, c1, c2, c3, c4, c5, c6, c7, c8, c9, c10, c11, c12, c13, c14, c15, c16, rfl⟩
theorem cells_meta : Tryz.prog.cellsOf 34 = 17 := by kernel_rfl
theorem cells_str : Tryz.prog.cellsOf 9 = 1 := by kernel_rfl
theorem cells_int : Tryz.prog.cellsOf 3 = 1 := by kernel_rfl
theorem cells_u8 : Tryz.prog.cellsOf 5 = 1 := by kernel_rfl
theorem cells_bool : Tryz.prog.cellsOf 4 = 1 := by kernel_rfl
theorem cells_time : Tryz.prog.cellsOf 32 = 2 := by kernel_rfl
theorem cells_parts : Tryz.prog.cellsOf 24 = 1 := by kernel_rfl
theorem cells_recs : Tryz.prog.cellsOf 27 = 1 := by kernel_rfl

set_option maxRecDepth 100000 in
set_option maxHeartbeats 4000000 in
theorem open_meta {H : Type} {enc : TypeId × Value → H} {W : World} {b0 : Nat} {v : Value} {d : DataW H} {p : List MemPlace} (hv : Value.okWide Tryz.prog W .any b0 34 v) (h : DataW.Trod enc Tryz.prog W 0 (fun _ => true) true 34 v d p) :
    ∃ (m : M.Met) (P E : Option Addr) (pc ec : Nat), v = .agg (mcells m (.slice P m.parts.length pc) (.slice E m.extra.length ec)) ∧ Sp.RdP W W.heap.size P m.parts.length m.parts ∧ Px.RdR W W.heap.size E m.extra ∧ m.parts.length ≤ maxLen ∧ m.extra.length ≤ maxLen := by
  obtain ⟨cs, rfl, hsz⟩ := okWide_struct Tryz.underlying34 hv
  obtain ⟨c0, c1, c2, c3, c4, c5, c6, c7, c8, c9, c10, c11, c12, c13, c14, c15, c16, rfl⟩ := array17 (hsz.trans cells_meta)
  obtain ⟨fuel, hf⟩ := h
  obtain ⟨xs, n, _, hx, _, hlen, hf⟩ := DataW.trod_struct Tryz.underlying34 hf
  have at_ : ∀ i (hi : i < 16), ∃ y, xs[i]? = some y := fun i hi => ⟨xs[i]'(by rw [hlen]; exact hi), List.getElem?_eq_getElem _⟩
  obtain ⟨y0, hy0⟩ := at_ 0 (by decide)
  have h0 : DataW.trod enc Tryz.prog W 0 (fun _ => true) true n 9 (([c0, c1, c2, c3, c4, c5, c6, c7, c8, c9, c10, c11, c12, c13, c14, c15, c16].drop 0).take (Tryz.prog.cellsOf 9)) = some y0 := (hf 0 _ rfl).trans hy0
  rw [cells_str] at h0
  replace h0 : DataW.trod enc Tryz.prog W 0 (fun _ => true) true n 9 [c0] = some y0 := h0
  obtain ⟨y1, hy1⟩ := at_ 1 (by decide)
  have h1 : DataW.trod enc Tryz.prog W 0 (fun _ => true) true n 9 (([c0, c1, c2, c3, c4, c5, c6, c7, c8, c9, c10, c11, c12, c13, c14, c15, c16].drop 1).take (Tryz.prog.cellsOf 9)) = some y1 := (hf 1 _ rfl).trans hy1
  rw [cells_str] at h1
  replace h1 : DataW.trod enc Tryz.prog W 0 (fun _ => true) true n 9 [c1] = some y1 := h1
  obtain ⟨y2, hy2⟩ := at_ 2 (by decide)
  have h2 : DataW.trod enc Tryz.prog W 0 (fun _ => true) true n 5 (([c0, c1, c2, c3, c4, c5, c6, c7, c8, c9, c10, c11, c12, c13, c14, c15, c16].drop 2).take (Tryz.prog.cellsOf 5)) = some y2 := (hf 2 _ rfl).trans hy2
  rw [cells_u8] at h2
  replace h2 : DataW.trod enc Tryz.prog W 0 (fun _ => true) true n 5 [c2] = some y2 := h2
  obtain ⟨y3, hy3⟩ := at_ 3 (by decide)
  have h3 : DataW.trod enc Tryz.prog W 0 (fun _ => true) true n 3 (([c0, c1, c2, c3, c4, c5, c6, c7, c8, c9, c10, c11, c12, c13, c14, c15, c16].drop 3).take (Tryz.prog.cellsOf 3)) = some y3 := (hf 3 _ rfl).trans hy3
  rw [cells_int] at h3
  replace h3 : DataW.trod enc Tryz.prog W 0 (fun _ => true) true n 3 [c3] = some y3 := h3
  obtain ⟨y4, hy4⟩ := at_ 4 (by decide)
  have h4 : DataW.trod enc Tryz.prog W 0 (fun _ => true) true n 3 (([c0, c1, c2, c3, c4, c5, c6, c7, c8, c9, c10, c11, c12, c13, c14, c15, c16].drop 4).take (Tryz.prog.cellsOf 3)) = some y4 := (hf 4 _ rfl).trans hy4
  rw [cells_int] at h4
  replace h4 : DataW.trod enc Tryz.prog W 0 (fun _ => true) true n 3 [c4] = some y4 := h4
  obtain ⟨y5, hy5⟩ := at_ 5 (by decide)
  have h5 : DataW.trod enc Tryz.prog W 0 (fun _ => true) true n 3 (([c0, c1, c2, c3, c4, c5, c6, c7, c8, c9, c10, c11, c12, c13, c14, c15, c16].drop 5).take (Tryz.prog.cellsOf 3)) = some y5 := (hf 5 _ rfl).trans hy5
  rw [cells_int] at h5
  replace h5 : DataW.trod enc Tryz.prog W 0 (fun _ => true) true n 3 [c5] = some y5 := h5
  obtain ⟨y6, hy6⟩ := at_ 6 (by decide)
  have h6 : DataW.trod enc Tryz.prog W 0 (fun _ => true) true n 9 (([c0, c1, c2, c3, c4, c5, c6, c7, c8, c9, c10, c11, c12, c13, c14, c15, c16].drop 6).take (Tryz.prog.cellsOf 9)) = some y6 := (hf 6 _ rfl).trans hy6
  rw [cells_str] at h6
  replace h6 : DataW.trod enc Tryz.prog W 0 (fun _ => true) true n 9 [c6] = some y6 := h6
  obtain ⟨y7, hy7⟩ := at_ 7 (by decide)
  have h7 : DataW.trod enc Tryz.prog W 0 (fun _ => true) true n 9 (([c0, c1, c2, c3, c4, c5, c6, c7, c8, c9, c10, c11, c12, c13, c14, c15, c16].drop 7).take (Tryz.prog.cellsOf 9)) = some y7 := (hf 7 _ rfl).trans hy7
  rw [cells_str] at h7
  replace h7 : DataW.trod enc Tryz.prog W 0 (fun _ => true) true n 9 [c7] = some y7 := h7
  obtain ⟨y8, hy8⟩ := at_ 8 (by decide)
  have h8 : DataW.trod enc Tryz.prog W 0 (fun _ => true) true n 32 (([c0, c1, c2, c3, c4, c5, c6, c7, c8, c9, c10, c11, c12, c13, c14, c15, c16].drop 8).take (Tryz.prog.cellsOf 32)) = some y8 := (hf 8 _ rfl).trans hy8
  rw [cells_time] at h8
  replace h8 : DataW.trod enc Tryz.prog W 0 (fun _ => true) true n 32 [c8, c9] = some y8 := h8
  obtain ⟨y9, hy9⟩ := at_ 9 (by decide)
  have h9 : DataW.trod enc Tryz.prog W 0 (fun _ => true) true n 3 (([c0, c1, c2, c3, c4, c5, c6, c7, c8, c9, c10, c11, c12, c13, c14, c15, c16].drop 10).take (Tryz.prog.cellsOf 3)) = some y9 := (hf 9 _ rfl).trans hy9
  rw [cells_int] at h9
  replace h9 : DataW.trod enc Tryz.prog W 0 (fun _ => true) true n 3 [c10] = some y9 := h9
  obtain ⟨y10, hy10⟩ := at_ 10 (by decide)
  have h10 : DataW.trod enc Tryz.prog W 0 (fun _ => true) true n 3 (([c0, c1, c2, c3, c4, c5, c6, c7, c8, c9, c10, c11, c12, c13, c14, c15, c16].drop 11).take (Tryz.prog.cellsOf 3)) = some y10 := (hf 10 _ rfl).trans hy10
  rw [cells_int] at h10
  replace h10 : DataW.trod enc Tryz.prog W 0 (fun _ => true) true n 3 [c11] = some y10 := h10
  obtain ⟨y11, hy11⟩ := at_ 11 (by decide)
  have h11 : DataW.trod enc Tryz.prog W 0 (fun _ => true) true n 3 (([c0, c1, c2, c3, c4, c5, c6, c7, c8, c9, c10, c11, c12, c13, c14, c15, c16].drop 12).take (Tryz.prog.cellsOf 3)) = some y11 := (hf 11 _ rfl).trans hy11
  rw [cells_int] at h11
  replace h11 : DataW.trod enc Tryz.prog W 0 (fun _ => true) true n 3 [c12] = some y11 := h11
  obtain ⟨y12, hy12⟩ := at_ 12 (by decide)
  have h12 : DataW.trod enc Tryz.prog W 0 (fun _ => true) true n 3 (([c0, c1, c2, c3, c4, c5, c6, c7, c8, c9, c10, c11, c12, c13, c14, c15, c16].drop 13).take (Tryz.prog.cellsOf 3)) = some y12 := (hf 12 _ rfl).trans hy12
  rw [cells_int] at h12
  replace h12 : DataW.trod enc Tryz.prog W 0 (fun _ => true) true n 3 [c13] = some y12 := h12
  obtain ⟨y13, hy13⟩ := at_ 13 (by decide)
  have h13 : DataW.trod enc Tryz.prog W 0 (fun _ => true) true n 4 (([c0, c1, c2, c3, c4, c5, c6, c7, c8, c9, c10, c11, c12, c13, c14, c15, c16].drop 14).take (Tryz.prog.cellsOf 4)) = some y13 := (hf 13 _ rfl).trans hy13
  rw [cells_bool] at h13
  replace h13 : DataW.trod enc Tryz.prog W 0 (fun _ => true) true n 4 [c14] = some y13 := h13
  obtain ⟨y14, hy14⟩ := at_ 14 (by decide)
  have h14 : DataW.trod enc Tryz.prog W 0 (fun _ => true) true n 24 (([c0, c1, c2, c3, c4, c5, c6, c7, c8, c9, c10, c11, c12, c13, c14, c15, c16].drop 15).take (Tryz.prog.cellsOf 24)) = some y14 := (hf 14 _ rfl).trans hy14
  rw [cells_parts] at h14
  replace h14 : DataW.trod enc Tryz.prog W 0 (fun _ => true) true n 24 [c15] = some y14 := h14
  obtain ⟨y15, hy15⟩ := at_ 15 (by decide)
  have h15 : DataW.trod enc Tryz.prog W 0 (fun _ => true) true n 27 (([c0, c1, c2, c3, c4, c5, c6, c7, c8, c9, c10, c11, c12, c13, c14, c15, c16].drop 16).take (Tryz.prog.cellsOf 27)) = some y15 := (hf 15 _ rfl).trans hy15
  rw [cells_recs] at h15
  replace h15 : DataW.trod enc Tryz.prog W 0 (fun _ => true) true n 27 [c16] = some y15 := h15
  clear hf at_
  obtain ⟨v0, e0, _, _⟩ := DataW.trod_string Tryz.underlying9 h0
  injection e0 with e0
  subst e0
  obtain ⟨v1, e1, _, _⟩ := DataW.trod_string Tryz.underlying9 h1
  injection e1 with e1
  subst e1
  obtain ⟨v2, e2, _, _⟩ := DataW.trod_int Tryz.underlying5 h2
  injection e2 with e2
  subst e2
  obtain ⟨v3, e3, _, _⟩ := DataW.trod_int Tryz.underlying3 h3
  injection e3 with e3
  subst e3
  obtain ⟨v4, e4, _, _⟩ := DataW.trod_int Tryz.underlying3 h4
  injection e4 with e4
  subst e4
  obtain ⟨v5, e5, _, _⟩ := DataW.trod_int Tryz.underlying3 h5
  injection e5 with e5
  subst e5
  obtain ⟨v6, e6, _, _⟩ := DataW.trod_string Tryz.underlying9 h6
  injection e6 with e6
  subst e6
  obtain ⟨v7, e7, _, _⟩ := DataW.trod_string Tryz.underlying9 h7
  injection e7 with e7
  subst e7
  obtain ⟨z0, z1, nn, _, _, g0, g1⟩ := trod_struct2 Tryz.underlying32 h8
  replace g0 : DataW.trod enc Tryz.prog W 0 (fun _ => true) true nn 3 ([c8, c9].take (Tryz.prog.cellsOf 3)) = some z0 := g0
  replace g1 : DataW.trod enc Tryz.prog W 0 (fun _ => true) true nn 3 ([c9].take (Tryz.prog.cellsOf 3)) = some z1 := g1
  rw [cells_int] at g0 g1
  obtain ⟨v8, e8, _, _⟩ := DataW.trod_int Tryz.underlying3 (show DataW.trod enc Tryz.prog W 0 (fun _ => true) true nn 3 [c8] = some z0 from g0)
  obtain ⟨v9, e9, _, _⟩ := DataW.trod_int Tryz.underlying3 (show DataW.trod enc Tryz.prog W 0 (fun _ => true) true nn 3 [c9] = some z1 from g1)
  injection e8 with e8
  injection e9 with e9
  subst e8 e9
  obtain ⟨v10, e10, _, _⟩ := DataW.trod_int Tryz.underlying3 h9
  injection e10 with e10
  subst e10
  obtain ⟨v11, e11, _, _⟩ := DataW.trod_int Tryz.underlying3 h10
  injection e11 with e11
  subst e11
  obtain ⟨v12, e12, _, _⟩ := DataW.trod_int Tryz.underlying3 h11
  injection e12 with e12
  subst e12
  obtain ⟨v13, e13, _, _⟩ := DataW.trod_int Tryz.underlying3 h12
  injection e13 with e13
  subst e13
  obtain ⟨v14, e14, _⟩ := DataW.trod_bool Tryz.underlying4 h13
  injection e14 with e14
  subst e14
  obtain ⟨A15, l15, k15, e15⟩ := slice_form Tryz.underlying24 h14
  obtain ⟨A16, l16, k16, e16⟩ := slice_form Tryz.underlying27 h15
  injection e15 with e15
  injection e16 with e16
  subst e15 e16
  obtain ⟨P, hP, _, hPn⟩ := open_parts ⟨n, (show DataW.trod enc Tryz.prog W 0 (fun _ => true) true n 24 (Value.slice A15 l15 k15).cells.toList = some y14 from h14)⟩
  obtain ⟨R, hl, hR, hRn⟩ := open_recs ⟨n, (show DataW.trod enc Tryz.prog W 0 (fun _ => true) true n 27 (Value.slice A16 l16 k16).cells.toList = some y15 from h15)⟩
  have hPl := hP.len
  subst hPl hl
  exact ⟨⟨v0, v1, v2, v3, v4, v5, v6, v7, v8, v9, v10, v11, v12, v13, v14, P, R⟩, A15, A16, k15, k16, rfl, hP, hR, hPn, hRn⟩
end Go.Proofs.YtbpangofobkmfaaGreatDoor
