/-
  The contracts of the document's New, Read and Gather.
-/
import Derived.Test.YteneknmbddnkaaaMedRefM
import Derived.Test.YteneknmbddnkaaaMedNew
namespace Go.Proofs.Yteneknmbddnkaaa
open Go.RowKit Go.Lib

theorem results_T {f : Func} {k : Nat} (hf : f.results = #[ResultVar.cell k 41]) {tmps : Array Value} {g : Nat} {a b c d e : Value} {w : World} (hk : tmps.getD k undef = .pointer (some ⟨g, 0, none⟩)) (hb : Blk w g 41 [a, b, c, d, e]) :
    (results f tmps).run Try.prog w = .ok (.agg #[a, b, c, d, e]) w := by
  simp only [results, hf]
  rw [Array.getD_eq_getD_getElem?] at hk
  have c0 := hb.cell (i := 0) rfl
  have c1 := hb.cell (i := 1) rfl
  have c2 := hb.cell (i := 2) rfl
  have c3 := hb.cell (i := 3) rfl
  have c4 := hb.cell (i := 4) rfl
  simp [go_sem, hk, c0, c1, c2, c3, c4]

/-- A new one of the document's. -/
def NewT (zs bad : List Int) (s : Value) (w : World) (e : Ending) (w' : World) : Prop :=
  ∃ u v, e = .returned (.agg #[u, v, s, .int .i64 0, .int .i64 0]) ∧ OwnY w' w.heap.size u zs ∧ OwnI w' w.heap.size v bad ∧ Below w.heap.size w w'

def zeroT : List Value := [.slice none 0 0, .slice none 0 0, .slice none 0 0, .int .i64 0, .int .i64 0]

/-- New's last part. -/
theorem newT_of {w w0 w1 : World} {Au Av A2 : Option Addr} {nu cu nv cv n2 c2 : Nat} {zs bad : List Int} {tmps : Array Value} (hx : Blk w1 w.heap.size 41 [.slice none 0 0, .slice none 0 0, .slice none 0 0, .int .i64 0, .int .i64 0])
    (hu : OwnY w1 w0.heap.size (.slice Au nu cu) zs) (hv : OwnI w1 w0.heap.size (.slice Av nv cv) bad) (hb : Below w.heap.size w w1) (hs : w0.heap.size = w.heap.size + 1) {f : Func} (hf : f.results = #[ResultVar.cell 8 41]) (hk : tmps.getD 8 undef = .pointer (some ⟨w.heap.size, 0, none⟩)) :
    bodyPost Try.prog f (NewT zs bad (.slice A2 n2 c2) w) Exit.ret { tmps := tmps, defers := [] } (((((w1.setCell ⟨w.heap.size, 0, none⟩ (.slice Au nu cu)).setCell ⟨w.heap.size, 1, none⟩ (.slice Av nv cv)).setCell ⟨w.heap.size, 2, none⟩ (.slice A2 n2 c2)).setCell ⟨w.heap.size, 3, none⟩ (.int .i64 0)).setCell ⟨w.heap.size, 4, none⟩ (.int .i64 0)) := by
  have hg := ((((grownBy_setCell w1 w.heap.size 0 (.slice Au nu cu)).trans (grownBy_setCell _ w.heap.size 1 (.slice Av nv cv))).trans (grownBy_setCell _ w.heap.size 2 (.slice A2 n2 c2))).trans (grownBy_setCell _ w.heap.size 3 (.int .i64 0))).trans (grownBy_setCell _ w.heap.size 4 (.int .i64 0))
  refine bodyPost_ret (results_T hf hk (((((hx.set 0 (.slice Au nu cu)).set 1 (.slice Av nv cv)).set 2 (.slice A2 n2 c2)).set 3 (.int .i64 0)).set 4 (.int .i64 0))) rfl ⟨_, _, rfl, ?_, ?_, ?_⟩
  · exact (hu.lower (b' := w.heap.size) (by omega)).grown hg (.inr (hu.apart (by omega)))
  · exact (hv.lower (b' := w.heap.size) (by omega)).grown hg (.inr (hv.apart (by omega)))
  · exact below_grown hb hg hb.size (fun g e => by injection e with e; omega)

set_option maxRecDepth 100000 in
set_option maxHeartbeats 1000000 in
theorem refNew_any (A : Option Addr) (n c : Nat) (zs : List Int) (A1 : Option Addr) (n1 c1 : Nat) (bad : List Int) (en : Int) (A2 : Option Addr) (n2 c2 : Nat) (w : World) (B : Nat)
    (hr : Rd w B A n zs) (h1 : RdI w B A1 n1 bad) (hB : B ≤ w.heap.size) (hnc : n ≤ c) (hc : c ≤ maxLen) (hn : n ≤ 1000000) (hn1 : n1 ≤ 1000000) (he : -9223372036854775808 ≤ en ∧ en ≤ 9223372036854775807) :
    Calls Try.prog 18 #[.slice A n c, .slice A1 n1 c1, .int .i64 en, .slice A2 n2 c2] w (NewT (M.wipe (M.bads (M.cutN n en) bad) (zs.take (M.cutN n en))) (M.bads (M.cutN n en) bad) (.slice A2 n2 c2) w) := by
  obtain ⟨he0, he1⟩ := he
  have hcm := M.cutN_le n en
  obtain ⟨w0, hw0⟩ : ∃ w0, w.alloc (.cells zeroT.toArray 41) = w0 := ⟨_, rfl⟩
  have hb0 : Below w.heap.size w w0 := by rw [← hw0]; exact (Below.refl _ _).alloc (Nat.le_refl _) _
  have hx0 : Blk w0 w.heap.size 41 zeroT := by rw [← hw0]; exact Blk.new w _ _
  have hs0 : w0.heap.size = w.heap.size + 1 := by rw [← hw0]; simp
  have HM := hid (fun (m : Nat) (hm : m ≤ n) => refMake_any A m c (zs.take m) A1 n1 c1 bad w0 B ((hr.front hm).keep (w' := w0) fun p hp => hb0.cell (Nat.lt_of_lt_of_le hp hB)) (h1.keep (w' := w0) fun p hp => hb0.cell (Nat.lt_of_lt_of_le hp hB)) (Nat.le_trans hB hb0.size) (by omega) hn1)
  have HB0 := hid hb0
  have HX0 := hid hx0
  have HS0 := hid hs0
  have HW0 := hid hw0
  unfold zeroT at hw0
  clear hr h1 hb0 hx0 hs0
  by_cases hc1 : 0 ≤ en ∧ en < n
  · obtain ⟨m, rfl⟩ : ∃ m : Nat, en = m := ⟨en.toNat, by omega⟩
    have hmn : m ≤ n := by omega
    have hq : M.cutN n m = m := by unfold M.cutN; rw [if_pos (by omega)]; simp
    rw [hq]
    have d1 : decide ((0 : Int) ≤ m) = true := by simp
    have d2 : decide ((m : Int) < n) = true := by simp; omega
    clear hq hcm
    go_enter Try.func18, Try.ntmps18
    go_wp2_with fail
    (with_reducible refine (HM.out m hmn).mono ?_)
    rintro e w1 ⟨u, v, rfl, hu, hv, b1⟩
    obtain ⟨Au, cu, rfl, _, _⟩ := own_room hu
    obtain ⟨Av, cv, rfl, _, _⟩ := own_room hv
    have hx1 := HX0.out.below b1 HX0.out.lt
    unfold zeroT at hx1
    have k0 := hx1.cell (i := 0) rfl
    have k1 := hx1.cell (i := 1) rfl
    have k2 := hx1.cell (i := 2) rfl
    have k3 := hx1.cell (i := 3) rfl
    have k4 := hx1.cell (i := 4) rfl
    have f0 := hx1.frozen 0
    have f1 := hx1.frozen 1
    have f2 := hx1.frozen 2
    have f3 := hx1.frozen 3
    have f4 := hx1.frozen 4
    have HX1 := hid hx1
    have HU := hid hu
    have HV := hid hv
    have HB1 := hid (HB0.out.trans (b1.mono HB0.out.size))
    clear hx1 hu hv b1 hw0
    go_wp2
    exact newT_of HX1.out HU.out HV.out HB1.out HS0.out rfl rfl
  · have hq : M.cutN n en = n := by unfold M.cutN; split <;> omega
    rw [hq]
    clear hq
    obtain ⟨m, hm⟩ : ∃ m, m = n := ⟨n, rfl⟩
    have hmn : m ≤ n := by omega
    subst hm
    rcases (by omega : en < 0 ∨ (0 ≤ en ∧ (m : Int) ≤ en)) with d1 | ⟨d1, d2⟩
    · have e1 : decide (0 ≤ en) = false := by rw [decide_eq_false_iff_not]; omega
      go_enter Try.func18, Try.ntmps18
      go_wp2_with fail
      (with_reducible refine (HM.out m hmn).mono ?_)
      rintro e w1 ⟨u, v, rfl, hu, hv, b1⟩
      obtain ⟨Au, cu, rfl, _, _⟩ := own_room hu
      obtain ⟨Av, cv, rfl, _, _⟩ := own_room hv
      have hx1 := HX0.out.below b1 HX0.out.lt
      unfold zeroT at hx1
      have k0 := hx1.cell (i := 0) rfl
      have k1 := hx1.cell (i := 1) rfl
      have k2 := hx1.cell (i := 2) rfl
      have k3 := hx1.cell (i := 3) rfl
      have k4 := hx1.cell (i := 4) rfl
      have f0 := hx1.frozen 0
      have f1 := hx1.frozen 1
      have f2 := hx1.frozen 2
      have f3 := hx1.frozen 3
      have f4 := hx1.frozen 4
      have HX1 := hid hx1
      have HU := hid hu
      have HV := hid hv
      have HB1 := hid (HB0.out.trans (b1.mono HB0.out.size))
      clear hx1 hu hv b1 hw0
      go_wp2
      exact newT_of HX1.out HU.out HV.out HB1.out HS0.out rfl rfl
    · have e1 : decide (0 ≤ en) = true := by simpa using d1
      have e2 : decide (en < (m : Int)) = false := by rw [decide_eq_false_iff_not]; omega
      go_enter Try.func18, Try.ntmps18
      go_wp2_with fail
      (with_reducible refine (HM.out m hmn).mono ?_)
      rintro e w1 ⟨u, v, rfl, hu, hv, b1⟩
      obtain ⟨Au, cu, rfl, _, _⟩ := own_room hu
      obtain ⟨Av, cv, rfl, _, _⟩ := own_room hv
      have hx1 := HX0.out.below b1 HX0.out.lt
      unfold zeroT at hx1
      have k0 := hx1.cell (i := 0) rfl
      have k1 := hx1.cell (i := 1) rfl
      have k2 := hx1.cell (i := 2) rfl
      have k3 := hx1.cell (i := 3) rfl
      have k4 := hx1.cell (i := 4) rfl
      have f0 := hx1.frozen 0
      have f1 := hx1.frozen 1
      have f2 := hx1.frozen 2
      have f3 := hx1.frozen 3
      have f4 := hx1.frozen 4
      have HX1 := hid hx1
      have HU := hid hu
      have HV := hid hv
      have HB1 := hid (HB0.out.trans (b1.mono HB0.out.size))
      clear hx1 hu hv b1 hw0
      go_wp2
      exact newT_of HX1.out HU.out HV.out HB1.out HS0.out rfl rfl
end Go.Proofs.Yteneknmbddnkaaa
