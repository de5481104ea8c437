/-
  SparseExpands' walk.
-/
import Derived.Test.YtjpflljmeaihgaaDoorSpRefPack
import Derived.Test.YtjpflljmeaihgaaDoorSpHoles
import Derived.Test.YtjpflljmeaihgaaDoorSpFrontP
import Derived.Test.YtjpflljmeaihgaaDoorSpLawParts
import Derived.Test.YtjpflljmeaihgaaDoorSpKnown
namespace Go.Proofs.YtjpflljmeaihgaaDoor
open Go.RowKit Go.Lib
attribute [local go_sem ↓] add_plain

namespace M
theorem checkW_bd (real stored : Int) (o : Option (Int × Int)) : 0 ≤ checkW real stored o ∧ checkW real stored o ≤ 11 := by
  unfold checkW
  split
  · omega
  · split <;> omega
theorem check_bd (l : List Pt) (m real : Int) : 0 ≤ check l m real ∧ check l m real ≤ 11 := by
  unfold check
  split
  · omega
  · split
    · omega
    · exact checkW_bd _ _ _
theorem expandE_bd (l : List Pt) (m real : Int) : 0 ≤ expandE l m real ∧ expandE l m real ≤ 11 := by
  unfold expandE
  split
  · exact check_bd l m real
  · split <;> omega
end M

set_option maxRecDepth 100000 in
set_option maxHeartbeats 4000000 in
theorem packs_any (A : Option Addr) (n c : Nat) (zs : List Int) (w : World) (hr : Rd w w.heap.size A n zs) (hn : n ≤ 10000) (hc : n ≤ c) :
    Calls Tryd.prog 21 #[.slice A n c] w fun e w' => e = .returned (.bool true) ∧ Below w.heap.size w w' := by
  have HR := hid hr
  have hzl : zs.length ≤ 100000 := by rw [hr.len]; omega
  have HP := hid (pack_any A n c zs w hr (by omega) hc)
  have HFW := hid (M.rows_few hzl)
  have HDU := hid (M.had_u8 hr.bd (M.rows zs))
  clear hr hzl
  go_enter Tryd.func21, Tryd.ntmps21
  go_wp2_with fail
  (with_reducible refine HP.out.mono ?_)
  rintro e w1 ⟨lv, dv, rfl, hol, hod, hb1⟩
  obtain ⟨Al, cl, rfl, hrl, _⟩ := hol.rd
  obtain ⟨Ad, cd, rfl, hrd, _⟩ := hod.rd HDU.out
  have HRL := hid hrl
  have HRD := hid hrd
  have HB1 := hid hb1
  have HQ := hid (refPack_any A n c zs w1 ((HR.out.below hb1).more hb1.size) (by omega) hc)
  clear HP hol hod hrl hrd hb1
  go_wp2_with fail
  (with_reducible refine HQ.out.mono ?_)
  rintro e w2 ⟨lv2, dv2, rfl, hol, hod, hb2⟩
  obtain ⟨Al2, cl2, rfl, hrl2, _⟩ := hol.rd
  obtain ⟨Ad2, cd2, rfl, hrd2, _⟩ := hod.rd HDU.out
  have HRD2 := hid hrd2
  have HRD1 := hid ((HRD.out.below hb2).more hb2.size)
  have HB2 := hid (HB1.out.trans (hb2.mono HB1.out.size))
  have HS := hid (same_yes Al Al2 (M.rows zs).length cl cl2 (M.rows zs) w2 ((HRL.out.below hb2).more hb2.size) hrl2 (by have := HFW.out; omega))
  clear HQ hol hod hrl2 hrd2 hb2 HRL HRD
  go_wp2_with fail
  (with_reducible refine HS.out.mono ?_)
  rintro e w3 ⟨rfl, hb3⟩
  have cv1 := run_str ((HRD1.out.below hb3).more hb3.size) cd
  have cv2 := run_str ((HRD2.out.below hb3).more hb3.size) cd2
  have HB3 := hid (HB2.out.trans (hb3.mono HB2.out.size))
  clear hb3 HS HRD1 HRD2
  generalize strOf (M.had zs (M.rows zs)) = S at *
  go_wp2
  go_ret
  exact ⟨rfl, HB3.out⟩

set_option maxRecDepth 100000 in
set_option maxHeartbeats 8000000 in
theorem sparseExpands_any (Al : Option Addr) (nl cl : Nat) (l : List M.Pt) (real : Int) (Ad : Option Addr) (nd cd : Nat) (ds : List Int) (Ac : Option Addr) (nc cc : Nat) (cs : List Int) (Ae : Option Addr) (ne ce : Nat) (es : List Int) (a kz : Int) (w : World)
    (hl : RdP w w.heap.size Al nl l) (hli : M.i64s l) (hnl : nl ≤ maxLen) (hre : -9223372036854775808 ≤ real ∧ real ≤ 9223372036854775807) (hd : Rd w w.heap.size Ad nd ds) (hdc : nd ≤ cd) (hdm : cd ≤ maxLen) (hc : Rd w w.heap.size Ac nc cs) (hcm : nc ≤ maxLen)
    (he : Rd w w.heap.size Ae ne es) (hem : ne ≤ maxLen) (ha : 0 ≤ a ∧ a ≤ 65535) (hk : 0 ≤ kz ∧ kz ≤ 255) (ht : EV w.heap.size w) :
    Calls Tryd.prog 6 #[.slice Al nl cl, .int .i64 real, .slice Ad nd cd, .slice Ac nc cc, .slice Ae ne ce, .int .u16 a, .int .u8 kz] w fun e w' => e = .returned (.bool true) ∧ Below w.heap.size w w' := by
  have HT := hid ht
  have HKN := hid (known_any w.heap.size w (Nat.le_refl _) ht)
  unfold maxLen at hnl
  have hndm : nd ≤ 9223372036854775807 := Nat.le_trans hdc hdm
  by_cases h50 : 50 < nl
  · have d1 : decide ((50 : Int) < (nl : Int)) = true := by rw [decide_eq_true_eq]; omega
    clear hl hd hc he h50
    go_enter Tryd.func6, Tryd.ntmps6
    go_wp2_with (go_at_call 10; (with_reducible refine HKN.out.mono ?_); rintro e w1 ⟨rfl, hb1⟩)
    go_ret
    exact ⟨rfl, hb1⟩
  have d1 : decide ((50 : Int) < (nl : Int)) = false := by rw [decide_eq_false_iff_not]; omega
  by_cases h2k : 2000 < nd
  · have d2 : decide ((2000 : Int) < (nd : Int)) = true := by rw [decide_eq_true_eq]; omega
    clear hl hd hc he h50 h2k
    go_enter Tryd.func6, Tryd.ntmps6
    go_wp2_with (go_at_call 10; (with_reducible refine HKN.out.mono ?_); rintro e w1 ⟨rfl, hb1⟩)
    go_ret
    exact ⟨rfl, hb1⟩
  have d2 : decide ((2000 : Int) < (nd : Int)) = false := by rw [decide_eq_false_iff_not]; omega
  have hnl5 : nl ≤ 50 := by omega
  have hnd2 : nd ≤ 2000 := by omega
  have HL := hid (fun (W : World) (hW : Below w.heap.size w W) => (hl.below hW).more hW.size)
  have HI := hid hli
  have HD := hid (fun (W : World) (hW : Below w.heap.size w W) => (hd.below hW).more hW.size)
  have HC := hid (fun (W : World) (hW : Below w.heap.size w W) => (hc.below hW).more hW.size)
  have HE := hid (fun (W : World) (hW : Below w.heap.size w W) => (he.below hW).more hW.size)
  have HCM := hid hcm
  have HEM := hid hem
  have HA := hid ha
  have HDU := hid hd.bd
  have HDL := hid hd.len
  obtain ⟨j3, hj3⟩ : ∃ j : Int, kz % 3 = j := ⟨_, rfl⟩
  obtain ⟨j7, hj7⟩ : ∃ j : Int, kz % 7 = j := ⟨_, rfl⟩
  have hjb : (0 ≤ j3 ∧ j3 < 3) ∧ 0 ≤ j7 ∧ j7 < 7 := by omega
  obtain ⟨⟨j30, j31⟩, j70, j71⟩ := hjb
  obtain ⟨N, hN⟩ : ∃ N : Nat, a % 4000 = (N : Int) := ⟨(a % 4000).toNat, by omega⟩
  have HNN := hid hN
  have hNb : N ≤ 4000 := by omega
  obtain ⟨k0, k1⟩ := hk
  obtain ⟨r0, r1⟩ := hre
  have hlz : (l.length : Int) = l.length := rfl
  clear hl hd hc he h50 h2k hli hcm hem ha hN ht hnl hndm hdm hlz
  go_enter Tryd.func6, Tryd.ntmps6
  go_wp2_with fail
  (with_reducible refine HKN.out.mono ?_)
  rintro e w1 ⟨rfl, hb1⟩
  have HB1 := hid hb1
  have HPT := hid (lawParts_any Ac nc cc cs w1 (HC.out w1 hb1) HCM.out)
  clear hb1 HKN d1 d2
  go_wp2_with fail
  (with_reducible refine HPT.out.mono ?_)
  rintro e w2 ⟨pv, lp, m, en, rfl, hop, hfew, hb2⟩
  obtain ⟨Ap, cp, rfl, hrp, _⟩ := hop.rd
  have HF := hid hfew
  have HRP := hid hrp
  have HB2 := hid (HB1.out.trans (hb2.mono HB1.out.size))
  obtain ⟨m0, m1⟩ := hfew.n0
  obtain ⟨e0, e1⟩ := hfew.e0
  obtain ⟨X, hX⟩ : ∃ X : Nat, max (m + j3 - 1) 0 = (X : Int) := ⟨(max (m + j3 - 1) 0).toNat, by omega⟩
  have hXb : X ≤ 241 := by omega
  have hmk := run_makeB X (by omega) w2
  clear HPT hop hfew hrp hb2 HB1
  go_wp2_with fail
  clear hmk
  have HBK0 := hid (show Blk (w2.alloc (.cells (bcells (M.zeros X)).toArray 5)) w2.heap.size 5 (bcells (M.zeros X)) from Blk.new w2 _ _)
  have HW0 := hid (show Below w2.heap.size w2 (w2.alloc (.cells (bcells (M.zeros X)).toArray 5)) from (Below.refl _ _).alloc (Nat.le_refl _) _)
  generalize w2.alloc _ = w3 at *
  go_loopw [19] (fun iv wr => ∃ (i : Nat) (zs : List Int), iv = .int .i64 i ∧ i ≤ X ∧ Hid (zs.length = X) ∧ Hid (u8s zs) ∧ Hid (Blk wr w2.heap.size 5 (bcells zs)) ∧ Hid (Below w2.heap.size w2 wr)) (fun iv _ => X - (RowKit.intOf iv).toNat)
  case atStart => exact ⟨0, M.zeros X, rfl, Nat.zero_le _, hid (M.zeros_len X), hid (M.zeros_u8 X), HBK0, HW0⟩
  case round =>
    obtain ⟨i, zs, rfl, hi, HZL, HZU, HK, HW⟩ := hrel
    by_cases hlt : i < X
    · have d3 : decide (i < X) = true := by rw [decide_eq_true_eq]; exact hlt
      obtain ⟨i1, hi1⟩ : ∃ i1, i1 = i + 1 := ⟨_, rfl⟩
      have HQB := hid (show 0 ≤ (i : Int) + 1 ∧ (i : Int) + 1 ≤ 255 by omega)
      have hcell : ∃ u, wr.cell? ⟨w2.heap.size, i, none⟩ = some u := by
        have hl : i < (bcells zs).length := by rw [bcells_len, HZL.out]; exact hlt
        exact ⟨_, HK.out.cell (List.getElem?_eq_getElem hl)⟩
      obtain ⟨u, hu⟩ := hcell
      have hf := HK.out.frozen i
      have HK2 : Hid (Blk (wr.setCell ⟨w2.heap.size, i, none⟩ (.int .u8 ((i : Int) + 1))) w2.heap.size 5 (bcells (zs.set i ((i : Int) + 1)))) := hid (by
        have := HK.out.set i (.int .u8 ((i : Int) + 1))
        rwa [bcells_set] at this)
      have HW2 := hid (HW.out.setCell (p := ⟨w2.heap.size, i, none⟩) (Nat.le_refl _) (.int .u8 ((i : Int) + 1)))
      have HU2 := hid (show u8s (zs.set i ((i : Int) + 1)) from fun y hy => by
        rcases List.mem_or_eq_of_mem_set hy with h | h
        · exact HZU.out y h
        · rw [h]; exact HQB.out)
      have HL2 := hid (show (zs.set i ((i : Int) + 1)).length = X by rw [List.length_set]; exact HZL.out)
      clear HK HW
      by_cases hi0 : i = 0
      case' pos => subst hi0
      case' neg => have hip : 0 < i := by omega
      all_goals
        go_wp2_with fail
        go_roundw
        case rel => exact ⟨i1, _, (by subst hi1; first | rfl | go_num), by omega, HL2, HU2, HK2, HW2⟩
        case measure => simp [RowKit.intOf] <;> omega
    · obtain rfl : i = X := by omega
      have d3 : decide (i < i) = false := by simp
      have HBW := hid (HB2.out.trans (HW.out.mono HB2.out.size))
      have HRP3 := hid ((HRP.out.below HW.out).more HW.out.size)
      have hrb := HK.out.rd HZU.out
      rw [HZL.out] at hrb
      have HRB := hid hrb
      have HE1 := hid (expand_any Al nl cl l real Ad nd cd ds wr (HL.out wr HBW.out) HI.out (by omega) (HD.out wr HBW.out) (by omega) hdc)
      clear hlt hrb HK HW HRP
      go_wp2_with fail
      (with_reducible refine HE1.out.mono ?_)
      rintro e w4 ⟨v1, rfl, ho1, hb4⟩
      have HEB := hid (M.expandE_bd l (ds.length : Int) real)
      have HU1 := hid (M.expandB_u8 (l := l) (real := real) HDU.out)
      obtain ⟨A1, c1, rfl, hr1, _⟩ := ho1.rd HU1.out
      have HX1 := hid hr1
      have HB4 := hid (HBW.out.trans (hb4.mono HBW.out.size))
      have HRP4 := hid ((HRP3.out.below hb4).more hb4.size)
      have HRB4 := hid ((HRB.out.below hb4).more hb4.size)
      have HE2 := hid (refExpand_any Al nl cl l real Ad nd cd ds w4 (HL.out w4 HB4.out) HI.out (by omega) (HD.out w4 HB4.out) (by omega) hdc)
      clear HE1 ho1 hr1 hb4 HRP3 HRB HBW
      go_wp2_with fail
      (with_reducible refine HE2.out.mono ?_)
      rintro e w5 ⟨v2, rfl, ho2, hb5⟩
      obtain ⟨A2, c2, rfl, hr2, _⟩ := ho2.rd HU1.out
      have HX2 := hid hr2
      have HX1b := hid ((HX1.out.below hb5).more hb5.size)
      have HB5 := hid (HB4.out.trans (hb5.mono HB4.out.size))
      have HRP5 := hid ((HRP4.out.below hb5).more hb5.size)
      have HRB5 := hid ((HRB4.out.below hb5).more hb5.size)
      clear HE2 ho2 hr2 hb5 HRP4 HRB4 HB4 HX1
      generalize M.expandB l ds real = F1 at *
      generalize M.expandE l (ds.length : Int) real = E1 at *
      obtain ⟨R, hR⟩ : ∃ R : Int, en + j7 = R := ⟨_, rfl⟩
      have HE3 := hid (expand_any Ap lp.length cp lp R (some ⟨w2.heap.size, 0, none⟩) i i zs w5 HRP5.out HF.out.i64 (by have := HF.out.len; omega) HRB5.out (by omega) (Nat.le_refl _))
      go_wp2_with fail
      (with_reducible refine HE3.out.mono ?_)
      rintro e w6 ⟨v3, rfl, ho3, hb6⟩
      have HEG := hid (M.expandE_bd lp (zs.length : Int) R)
      have HU3 := hid (M.expandB_u8 (l := lp) (real := R) HZU.out)
      obtain ⟨A3, c3, rfl, hr3, _⟩ := ho3.rd HU3.out
      have HX3 := hid hr3
      have HX1c := hid ((HX1b.out.below hb6).more hb6.size)
      have HX2c := hid ((HX2.out.below hb6).more hb6.size)
      have HB6 := hid (HB5.out.trans (hb6.mono HB5.out.size))
      have HRP6 := hid ((HRP5.out.below hb6).more hb6.size)
      have HRB6 := hid ((HRB5.out.below hb6).more hb6.size)
      have HE4 := hid (refExpand_any Ap lp.length cp lp R (some ⟨w2.heap.size, 0, none⟩) i i zs w6 HRP6.out HF.out.i64 (by have := HF.out.len; omega) HRB6.out (by omega) (Nat.le_refl _))
      clear HE3 ho3 hr3 hb6 HRP5 HRB5 HB5 HX1b HX2
      go_wp2_with fail
      (with_reducible refine HE4.out.mono ?_)
      rintro e w7 ⟨v4, rfl, ho4, hb7⟩
      obtain ⟨A4, c4, rfl, hr4, _⟩ := ho4.rd HU3.out
      have cv1 := run_str ((HX1c.out.below hb7).more hb7.size) c1
      have cv2 := run_str ((HX2c.out.below hb7).more hb7.size) c2
      have cv3 := run_str ((HX3.out.below hb7).more hb7.size) c3
      have cv4 := run_str hr4 c4
      have HB7 := hid (HB6.out.trans (hb7.mono HB6.out.size))
      clear HE4 ho4 hr4 hb7 HRP6 HRB6 HB6 HX1c HX2c HX3
      generalize M.expandB lp zs R = F2 at *
      generalize M.expandE lp (zs.length : Int) R = E2 at *
      generalize strOf F1 = S1 at *
      generalize strOf F2 = S2 at *
      obtain ⟨g0, g1⟩ := HEB.out
      obtain ⟨g2, g3⟩ := HEG.out
      have HP1 := hid (packs_any Ad nd cd ds w7 (HD.out w7 HB7.out) (by omega) hdc)
      go_wp2_with fail
      (with_reducible refine HP1.out.mono ?_)
      rintro e w8 ⟨rfl, hb8⟩
      have HB8 := hid (HB7.out.trans (hb8.mono HB7.out.size))
      have HHO := hid (holes_any Ae ne ce es a N w8 (HE.out w8 HB8.out) HEM.out HA.out HNN.out)
      clear cv1 cv2 cv3 cv4 HP1 hb8 HB7
      go_wp2_with fail
      (with_reducible refine HHO.out.mono ?_)
      rintro e w9 ⟨rfl, ys, hyl, hyu, hyk, hb9⟩
      have hry := hyk.rd hyu
      rw [hyl] at hry
      have HB9 := hid (HB8.out.trans (hb9.mono HB8.out.size))
      have HP2 := hid (packs_any (some ⟨w8.heap.size, 0, none⟩) N N ys w9 hry (by omega) (Nat.le_refl _))
      clear HHO hyl hyu hyk hb9 hry HB8
      go_wp2_with fail
      (with_reducible refine HP2.out.mono ?_)
      rintro e w10 ⟨rfl, hb10⟩
      have HB10 := hid (HB9.out.trans (hb10.mono HB9.out.size))
      clear HP2 hb10 HB9
      go_wp2
      go_ret
      exact ⟨rfl, HB10.out⟩
end Go.Proofs.YtjpflljmeaihgaaDoor
