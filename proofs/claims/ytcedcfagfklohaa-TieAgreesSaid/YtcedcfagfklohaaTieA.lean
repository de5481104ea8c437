/-
  Does a header agree with records: the program's answer and the document's.
-/
import Derived.Test.YtcedcfagfklohaaKX
import Derived.Test.YtcedcfagfklohaaKRx
import Derived.Test.YtcedcfagfklohaaKhHdPrintW
import Derived.RangeFuncBox
import Derived.Lib.MinMax
import Derived.RangeFuncNested
import Derived.Deep.CutRange
set_option linter.unusedVariables false
set_option linter.unusedSimpArgs false
namespace Go.Proofs.Ytcedcfagfklohaa
open Go.RowKit Go.Lib
open Px (R2 tl)

namespace M
def kPath : List UInt8 := [112, 97, 116, 104]
def kLink : List UInt8 := [108, 105, 110, 107, 112, 97, 116, 104]
/-- Does what may be told of a name agree with what lies ahead of it in a header, and with its field? -/
def fit1 (o : Option (List UInt8)) (ahead field : List UInt8) : Bool :=
  match o with
  | none => true
  | some v => ahead == [] && field == v.take 100
def agr (pre name link : List UInt8) (L : List Px.M.Rc) : Bool :=
  ((Px.M.find (Px.M.merge Px.ltB L []) kPath).isSome || (Px.M.find (Px.M.merge Px.ltB L []) kLink).isSome) &&
    (fit1 (Px.M.find (Px.M.merge Px.ltB L []) kPath) pre name && fit1 (Px.M.find (Px.M.merge Px.ltB L []) kLink) [] link)
end M

theorem boxed_below {w w' : World} {B b : Nat} {t : TypeId} {v : Value} (h : Boxed w b t v) (hb : Below B w w') (hB : b < B) : Boxed w' b t v := (hb.block b hB).trans h
theorem tl_take (s : ByteArray) (n : Nat) : tl (s.extract 0 n) = (tl s).take n := by
  unfold Px.tl; simp
theorem take_min_len {α : Type} (l : List α) (n : Nat) : l.take (min l.length n) = l.take n := by
  rcases Nat.le_total l.length n with h | h
  · rw [Nat.min_eq_left h, List.take_of_length_le (Nat.le_refl _), List.take_of_length_le h]
  · rw [Nat.min_eq_right h]
theorem ownR_set {w : World} {b g : Nat} {v : Value} {l : List R2} (h : Px.OwnR w b v l) (hg : g < b) (u : Value) : Px.OwnR (w.setCell ⟨g, 0, none⟩ u) b v l := by
  refine World.ownsRow.kept (row := some g) h (grownBy_setCell' w g u) ?_
  rcases ho : v.ownBlock with _ | k
  · exact .inl rfl
  · refine .inr fun e => ?_
    injection e with e
    have := (World.ownsRow.lt h k ho).1
    omega
theorem ownR_rd' {w : World} {b n c : Nat} {A : Option Addr} {l : List R2} (h : Px.OwnR w b (.slice A n c) l) : Px.RdR w w.heap.size A l := by
  obtain ⟨A', c', e, hr, hc, hm⟩ := h.rd
  injection e with e1 e2 e3
  subst e1
  exact hr
theorem ret_boolT' {a b : Bool} (h : a = b) : Ending.returned (.bool a) = .returned (.bool b) := by rw [h]
theorem eq_nil_text (s : ByteArray) : (s.toList == ([] : List UInt8)) = (tl s == []) := by rw [Px.tl_eq]

set_option maxRecDepth 100000 in
set_option maxHeartbeats 4000000 in
theorem hold_any (N : Nat) (A : Option Addr) (c : Nat) (rs : List R2) (g3 g5 g6 : Nat) (key ahead field : ByteArray) (b5 b6 : Bool) (w : World)
    (hN : N ≤ w.heap.size) (h3 : g3 < N) (h5 : N ≤ g5) (h6 : N ≤ g6) (h56 : g5 ≠ g6) (k3 : Boxed w g3 25 (.slice A rs.length c))
    (k5 : Boxed w g5 4 (.bool b5)) (k6 : Boxed w g6 4 (.bool b6)) (hr : Px.RdR w N A rs) (hl : rs.length ≤ 1000000) :
    Calls Try.prog 11 #[.string key, .string ahead, .string field, .pointer (some ⟨g3, 0, none⟩), .pointer (some ⟨g5, 0, none⟩), .pointer (some ⟨g6, 0, none⟩)] w fun e w' =>
      e = .returned (.tuple #[]) ∧ Boxed w' g5 4 (.bool (b5 || (Px.M.find (Px.rcs rs) (tl key)).isSome)) ∧ Boxed w' g6 4 (.bool (b6 && M.fit1 (Px.M.find (Px.rcs rs) (tl key)) (tl ahead) (tl field))) ∧ Below N w w' := by
  have HF := hid (((callsIn_wide (n := 5)).1 (Px.find_in A c rs key hl w (hr.more hN))))
  have K3 := hid k3
  have c3 := k3.cell
  clear hr k3
  go_enter Try.func11, Try.ntmps11
  go_wp2_with fail
  refine (HF.out).mono ?_
  rintro e w1 ⟨v, b, rfl, hv, hb, hw1⟩
  have B1 := hid (hw1.mono hN)
  have K5 := hid (boxed_below k5 hw1 k5.lt)
  have K6 := hid (boxed_below k6 hw1 k6.lt)
  have f5 := K5.out.frozen
  have d5 := K5.out.cell
  have K6' := hid (K6.out.other (fun e => h56 e.symm) (.bool true))
  have f6 := K6'.out.frozen
  have d6 := K6'.out.cell
  have HB := hid hb
  have HV := hid hv
  clear HF hw1 k5 k6 hv hb c3 K3
  cases hf : Px.M.find (Px.rcs rs) (tl key) with
  | none =>
    obtain rfl : b = false := by have := HB.out; rw [hf] at this; exact this
    go_wp2_with fail
    refine bodyPost_ret (results_none rfl _ _ _) rfl ?_
    rw [hf]
    exact ⟨rfl, by simpa using K5.out, by simpa [M.fit1] using K6.out, B1.out⟩
  | some v' =>
    obtain rfl : b = true := by have := HB.out; rw [hf] at this; exact this
    have hv' : tl v = v' := by have := HV.out; rw [hf] at this; exact this
    have HV' := hid hv'
    have K5t := hid (K5.out.set (.bool true))
    have hend : ∀ u : Bool, u = (b6 && M.fit1 (some v') (tl ahead) (tl field)) → Boxed ((w1.setCell ⟨g5, 0, none⟩ (.bool true)).setCell ⟨g6, 0, none⟩ (.bool u)) g5 4 (.bool (b5 || (some v').isSome)) ∧ Boxed ((w1.setCell ⟨g5, 0, none⟩ (.bool true)).setCell ⟨g6, 0, none⟩ (.bool u)) g6 4 (.bool (b6 && M.fit1 (some v') (tl ahead) (tl field))) ∧ Below N w ((w1.setCell ⟨g5, 0, none⟩ (.bool true)).setCell ⟨g6, 0, none⟩ (.bool u)) :=
      fun u hu => ⟨by simpa using K5t.out.other h56 (.bool u), hu ▸ K6'.out.set (.bool u), (B1.out.setCell h5 _).setCell h6 _⟩
    have HE := hid hend
    clear hend hv' HV HB K5 K6 K6' K5t
    cases b6 with
    | false =>
      go_wp2_with fail
      go_end0
      rw [hf]
      exact ⟨rfl, HE.out _ rfl⟩
    | true =>
      by_cases ha : ahead.toList = []
      · go_wp2_with fail
        go_end0
        rw [hf]
        refine ⟨rfl, HE.out _ ?_⟩
        have e1 : (tl ahead == []) = true := by rw [← eq_nil_text, ha]; rfl
        have e2 : ((min (v.size : Int) 100).toNat) = min v.size 100 := by omega
        show (field.toList == (v.extract 0 (min (v.size : Int) 100).toNat).toList) = (true && ((tl ahead == []) && (tl field == v'.take 100)))
        rw [e1, e2, Bool.true_and, Bool.true_and, Px.tl_eq, Px.tl_eq, tl_take, HV'.out]
        rw [← HV'.out]
        exact congrArg (fun z => tl field == z) (take_min_len (tl v) 100)
      · go_wp2_with fail
        go_end0
        rw [hf]
        refine ⟨rfl, HE.out _ ?_⟩
        have e1 : (tl ahead == []) = false := by rw [← eq_nil_text]; simpa using ha
        show false = (true && ((tl ahead == []) && (tl field == v'.take 100)))
        rw [e1]; rfl

set_option maxRecDepth 100000 in
set_option maxHeartbeats 4000000 in
theorem agrees_any (h : Hd.M.Hdr) (Ap : Option Addr) (np cp : Nat) (A0 : Option Addr) (c0 : Nat) (l : List R2) (w : World) (hr : Px.RdR w w.heap.size A0 l) (hl : l.length ≤ 1000000) (fl : Px.Fits l) :
    Calls Try.prog 6 #[.agg (Hd.hcells h (.slice Ap np cp)), .slice A0 l.length c0] w fun e w' => e = .returned (.bool (M.agr (tl h.pre) (tl h.name) (tl h.link) (Px.rcs l))) ∧ Below w.heap.size w w' := by
  have H1 := hid (Hd.HB.new w h (.slice Ap np cp))
  have hw2 : Below w.heap.size w ((w.alloc (.cells (Hd.hcells h (.slice Ap np cp)) 28)).alloc (.cells #[.slice A0 l.length c0] 25)) := ((Below.refl _ w).alloc (Nat.le_refl _) _).alloc (by simp) _
  have HW := hid hw2
  have H2 := hid (H1.out.alloc (.cells #[.slice A0 l.length c0] 25))
  have K3 := hid (show Boxed ((w.alloc (.cells (Hd.hcells h (.slice Ap np cp)) 28)).alloc (.cells #[.slice A0 l.length c0] 25)) (w.heap.size + 1) 25 (.slice A0 l.length c0) by have := Boxed.new (w.alloc (.cells (Hd.hcells h (.slice Ap np cp)) 28)) 25 (.slice A0 l.length c0); rwa [World.size_alloc] at this)
  have hsz : ((w.alloc (.cells (Hd.hcells h (.slice Ap np cp)) 28)).alloc (.cells #[.slice A0 l.length c0] 25)).heap.size = w.heap.size + 2 := by rw [World.size_alloc, World.size_alloc]
  have HR := hid (fun V (hV : Below w.heap.size w V) => (hr.below hV).more hV.size)
  clear hw2 hr H1
  go_enter Try.func6, Try.ntmps6
  go_upto_region 1 with fail
  generalize World.alloc (World.alloc w _) _ = W at *
  have c3 := K3.out.cell
  go_wp2_with fail
  have hWb : w.heap.size + 2 ≤ W.heap.size := by omega
  refine (Px.merge_own A0 c0 l none 0 [] hl (by simp) fl (fun r hr => by cases hr) W (HR.out W HW.out) Px.RdR.none_).mono ?_
  rintro e w1 ⟨A, c, rs, rfl, hr1, hc1, hc2, hrs, hlen, hb1, how⟩
  have HW1 := hid (HW.out.trans (hb1.mono HW.out.size))
  have K3' := hid (boxed_below K3.out hb1 (by omega))
  have H3 := hid (H2.out.below hb1 (by omega))
  have RS := hid hrs
  have R1 := hid (show Px.RdR (w1.setCell ⟨w.heap.size + 1, 0, none⟩ (.slice A rs.length c)) (w1.setCell ⟨w.heap.size + 1, 0, none⟩ (.slice A rs.length c)).heap.size A rs from ownR_rd' (ownR_set how (by omega) _))
  have hw1s : w.heap.size + 2 ≤ w1.heap.size := Nat.le_trans hWb hb1.size
  have hlr : rs.length ≤ 1000000 := Nat.le_trans hlen (by simpa using hl)
  clear HW H2 K3 c3 hrs hr1 how hb1 hc1 hlen HR hsz fl hWb
  have c3 := K3'.out.cell
  have f3 := K3'.out.frozen
  have KS := hid (K3'.out.set (.slice A rs.length c))
  have HS := hid (H3.out.other (a := ⟨w.heap.size + 1, 0, none⟩) (by show w.heap.size ≠ w.heap.size + 1; omega) (.slice A rs.length c))
  have HWS := hid (HW1.out.setCell (p := ⟨w.heap.size + 1, 0, none⟩) (by show w.heap.size ≤ w.heap.size + 1; omega) (.slice A rs.length c))
  have hss : (w1.setCell ⟨w.heap.size + 1, 0, none⟩ (.slice A rs.length c)).heap.size = w1.heap.size := World.size_setCell ..
  go_upto_region 2 with fail
  clear HW1 K3' H3 c3 f3
  generalize w1.setCell ⟨w.heap.size + 1, 0, none⟩ (.slice A rs.length c) = V at *
  have hVs : w.heap.size + 2 ≤ V.heap.size := by omega
  clear hss hw1s
  have K5 := hid ((Boxed.new V 4 (.bool false)).alloc (.cells #[.bool true] 4))
  have K6 := hid (show Boxed ((V.alloc (.cells #[.bool false] 4)).alloc (.cells #[.bool true] 4)) (V.heap.size + 1) 4 (.bool true) by have := Boxed.new (V.alloc (.cells #[.bool false] 4)) 4 (.bool true); rwa [World.size_alloc] at this)
  have hbV : Below V.heap.size V ((V.alloc (.cells #[.bool false] 4)).alloc (.cells #[.bool true] 4)) := ((Below.refl _ V).alloc (Nat.le_refl _) _).alloc (by simp) _
  have hsz2 : V.heap.size ≤ ((V.alloc (.cells #[.bool false] 4)).alloc (.cells #[.bool true] 4)).heap.size := hbV.size
  have HX := hid (fun (key ahead field : ByteArray) (b5 b6 : Bool) (W : World) (hb : Below V.heap.size V W) (hk5 : Boxed W V.heap.size 4 (.bool b5)) (hk6 : Boxed W (V.heap.size + 1) 4 (.bool b6)) =>
    hold_any V.heap.size A c rs (w.heap.size + 1) V.heap.size (V.heap.size + 1) key ahead field b5 b6 W hb.size (by omega) (Nat.le_refl _) (Nat.le_succ _) (by omega) (boxed_below KS.out hb (by omega)) hk5 hk6 (R1.out.below hb) hlr)
  have HD := hid (fun (W : World) (hb : Below V.heap.size V W) => HS.out.below hb (by omega))
  have HN := hid (fun (W : World) (hb : Below V.heap.size V W) => HWS.out.trans (hb.mono (show w.heap.size ≤ V.heap.size by omega)))
  go_upto_region 4 with fail
  generalize (V.alloc (.cells #[.bool false] 4)).alloc (.cells #[.bool true] 4) = V2 at *
  have B2 := hid hbV
  have z0 := (HD.out V2 hbV).cell (i := 0) (v := .string h.name) rfl
  have z13 := (HD.out V2 hbV).cell (i := 13) (v := .string h.pre) rfl
  clear HS HWS R1 KS hbV hVs hsz2
  go_wp2_with fail
  refine (HX.out _ _ _ false true V2 B2.out K5.out K6.out).mono ?_
  rintro e w3 ⟨rfl, k5, k6, hb3⟩
  have B3 := hid (B2.out.trans hb3)
  have z7 := (HD.out w3 B3.out).cell (i := 7) (v := .string h.link) rfl
  have L5 := hid k5
  have L6 := hid k6
  clear k5 k6 hb3 B2 K5 K6 z0 z13
  go_wp2_with fail
  refine (HX.out _ _ _ _ _ w3 B3.out L5.out L6.out).mono ?_
  rintro e w4 ⟨rfl, k5, k6, hb4⟩
  have B4 := hid (HN.out w4 (B3.out.trans hb4))
  have y5 := k5.cell
  have y6 := k6.cell
  clear k5 k6 hb4 B3 L5 L6 z7 HX HD HN
  obtain ⟨q1, hq1⟩ : ∃ q : Bool, (false || (Px.M.find (Px.rcs rs) (tl ⟨#[112, 97, 116, 104]⟩)).isSome || (Px.M.find (Px.rcs rs) (tl ⟨#[108, 105, 110, 107, 112, 97, 116, 104]⟩)).isSome) = q := ⟨_, rfl⟩
  obtain ⟨q2, hq2⟩ : ∃ q : Bool, (true && M.fit1 (Px.M.find (Px.rcs rs) (tl ⟨#[112, 97, 116, 104]⟩)) (tl h.pre) (tl h.name) && M.fit1 (Px.M.find (Px.rcs rs) (tl ⟨#[108, 105, 110, 107, 112, 97, 116, 104]⟩)) (tl ⟨#[]⟩) (tl h.link)) = q := ⟨_, rfl⟩
  have e1 := hid (show M.agr (tl h.pre) (tl h.name) (tl h.link) (Px.rcs l) = (q1 && q2) by
    rw [← hq1, ← hq2]
    unfold M.agr
    rw [← show Px.rcs rs = Px.M.merge Px.ltB (Px.rcs l) [] from RS.out, Bool.false_or, Bool.true_and]
    rfl)
  rw [hq1] at y5
  rw [hq2] at y6
  clear hq1 hq2
  cases q1 <;> cases q2 <;> (go_wp2_with fail; go_ret; exact ⟨ret_boolT' e1.out.symm, B4.out⟩)
end Go.Proofs.Ytcedcfagfklohaa
