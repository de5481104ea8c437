/-
  SparseBack's walk.
-/
import Derived.Test.YtjpflljmeaihgaaDoorSpPrint
import Derived.Test.YtjpflljmeaihgaaDoorSpHoles
import Derived.Test.YtjpflljmeaihgaaDoorSpBackM
import Derived.Test.YtjpflljmeaihgaaDoorSpFrontP
namespace Go.Proofs.YtjpflljmeaihgaaDoor
open Go.RowKit Go.Lib

set_option maxRecDepth 100000 in
set_option maxHeartbeats 4000000 in
theorem sparseBack_any (A : Option Addr) (n c : Nat) (ys : List Int) (a : Int) (w : World) (hr : Rd w w.heap.size A n ys) (hn : n ≤ maxLen) (ha : 0 ≤ a ∧ a ≤ 65535) (ht : EV w.heap.size w) :
    Calls Tryd.prog 7 #[.slice A n c, .int .u16 a] w fun e w' => e = .returned (.bool true) ∧ Below w.heap.size w w' := by
  have HT := hid ht
  obtain ⟨N, hN⟩ : ∃ N : Nat, a % 4000 = (N : Int) := ⟨(a % 4000).toNat, by omega⟩
  have hNb : N ≤ 4000 := by omega
  have HH := hid (holes_any A n c ys a N w hr hn ha hN)
  clear ht hr hN ha
  go_enter Tryd.func7, Tryd.ntmps7
  go_wp2_with fail
  (with_reducible refine HH.out.mono ?_)
  rintro e w1 ⟨rfl, zs, hzl, hzu, hbk, hb1⟩
  have hrd := hbk.rd hzu
  rw [hzl] at hrd
  have HR := hid hrd
  have HB1 := hid hb1
  have hz5 : zs.length ≤ 100000 := by omega
  have HP := hid (pack_any (some ⟨w.heap.size, 0, none⟩) N N zs w1 hrd (by omega) (Nat.le_refl _))
  have HX := hid (M.pack_expand hz5)
  have HPP := hid (M.parse_print (M.rows_small hz5) (M.rows_few hz5))
  have HCK := hid (M.pack_check hz5)
  have HI := hid (M.rows_i64 hz5)
  have HFW := hid (M.rows_few hz5)
  have HDU := hid (M.had_u8 hzu (M.rows zs))
  have HDL := hid (M.had_len hz5)
  have HZU := hid hzu
  have HZL := hid hzl
  have HPL := hid (M.print_len (M.rows zs))
  clear HH hrd hbk hb1 hzu hz5
  go_wp2_with fail
  (with_reducible refine HP.out.mono ?_)
  rintro e w2 ⟨lv, dv, rfl, hol, hod, hb2⟩
  obtain ⟨Al, cl, rfl, hrl, _⟩ := hol.rd
  obtain ⟨Ad, cd, rfl, hrdd, hcd⟩ := hod.rd HDU.out
  have HB2 := hid (HB1.out.trans (hb2.mono HB1.out.size))
  have HR2 := hid ((HR.out.below hb2).more hb2.size)
  have hdl2 := HDL.out
  rw [hzl] at hdl2
  have hfw := HFW.out
  have HE := hid (expand_any Al (M.rows zs).length cl (M.rows zs) N Ad (M.had zs (M.rows zs)).length cd (M.had zs (M.rows zs)) w2 hrl HI.out (by omega) hrdd (by omega) hcd.1)
  unfold ExpandTo at HE
  have hx1 := HX.out.1
  have hx2 := HX.out.2
  have hck := HCK.out
  rw [hzl] at hx1 hx2 hck
  rw [hx1, hx2] at HE
  have HCKK := hid hck
  have HRL := hid hrl
  have HRD := hid hrdd
  clear HP hol hod hb2 hrl hrdd hcd hx1 hx2 hck HR HX
  generalize hlr : (M.rows zs).length = lr at *
  generalize hdr : (M.had zs (M.rows zs)).length = dr at *
  have HLR := hid hlr
  go_wp2_with fail
  (with_reducible refine HE.out.mono ?_)
  rintro e w3 ⟨v3, rfl, ho3, hb3⟩
  obtain ⟨A3, c3, rfl, hr3, _⟩ := ho3.rd HZU.out
  rw [hzl] at hr3
  rw [hzl]
  have HB3 := hid (HB2.out.trans (hb3.mono HB2.out.size))
  have HR3 := hid hr3
  have HR23 := hid ((HR2.out.below hb3).more hb3.size)
  have HRL3 := hid ((HRL.out.below hb3).more hb3.size)
  have HPR := hid (print_any Al lr cl (M.rows zs) w3 w.heap.size HRL3.out HI.out (by omega) HB3.out.size (HT.out.on HB3.out))
  clear ho3 hb3 hr3 HE HR2 HRL HRD hlr hdr
  go_wp2_with fail
  (with_reducible refine HPR.out.mono ?_)
  rintro e w4 ⟨rfl, hb4⟩
  have HB4 := hid (HB3.out.trans (hb4.mono HB3.out.size))
  have HR34 := hid ((HR3.out.below hb4).more hb4.size)
  have HR24 := hid ((HR23.out.below hb4).more hb4.size)
  have HRL4 := hid ((HRL3.out.below hb4).more hb4.size)
  have hssz : (strOf (ints (M.print (M.rows zs)))).size ≤ 1000000 := by
    rw [← tl_len, tl_ints]
    have := HPL.out
    have := HLR.out
    omega
  have HPS := hid (parse_any (strOf (ints (M.print (M.rows zs)))) hssz w.heap.size w4 HB4.out.size (HT.out.on HB4.out))
  unfold PartsTo at HPS
  rw [tl_ints, HPP.out] at HPS
  clear hb4 HB3 HR3 HR23 HRL3 HPR hssz
  generalize strOf (ints (M.print (M.rows zs))) = S at *
  go_wp2_with fail
  (with_reducible refine HPS.out.mono ?_)
  rintro e w5 ⟨v5, rfl, ho5, hb5⟩
  simp only [Option.isSome, Option.getD] at ho5 ⊢
  obtain ⟨A5, c5, rfl, hr5, _⟩ := ho5.rd
  rw [HLR.out] at hr5 ⊢
  have HB5 := hid (HB4.out.trans (hb5.mono HB4.out.size))
  have HR35 := hid ((HR34.out.below hb5).more hb5.size)
  have HR25 := hid ((HR24.out.below hb5).more hb5.size)
  have HRL5 := hid ((HRL4.out.below hb5).more hb5.size)
  have HM5 := hid hr5
  have HKN := hid (known_any w.heap.size w5 HB5.out.size (HT.out.on HB5.out))
  clear ho5 hr5 hb5 HB4 HR34 HR24 HRL4 HPS
  go_wp2_with fail
  (with_reducible refine HKN.out.mono ?_)
  rintro e w6 ⟨rfl, hb6⟩
  have HB6 := hid (HB5.out.trans (hb6.mono HB5.out.size))
  have cv1 := run_str (n := N) ((HR35.out.below hb6).more hb6.size) c3
  have cv2 := run_str (n := N) ((HR25.out.below hb6).more hb6.size) N
  have HRL6 := hid ((HRL5.out.below hb6).more hb6.size)
  have HM6 := hid ((HM5.out.below hb6).more hb6.size)
  have HS := hid (same_yes Al A5 lr cl c5 (M.rows zs) w6 HRL6.out HM6.out (by omega))
  clear hb6 HB5 HR35 HR25 HRL5 HM5 HKN
  generalize strOf zs = S2 at *
  go_wp2_with fail
  (with_reducible refine HS.out.mono ?_)
  rintro e w7 ⟨rfl, hb7⟩
  have HB7 := hid (HB6.out.trans (hb7.mono HB6.out.size))
  have HC := hid (check_any Al lr cl (M.rows zs) dr N w7 ((HRL6.out.below hb7).more hb7.size) HI.out (by omega))
  rw [HCKK.out] at HC
  clear hb7 HB6 HRL6 HM6 HS cv1 cv2
  go_wp2_with fail
  (with_reducible refine HC.out.mono ?_)
  rintro e w8 ⟨rfl, hb8⟩
  go_wp2
  go_ret
  exact ⟨rfl, HB7.out.trans (hb8.mono HB7.out.size)⟩
end Go.Proofs.YtjpflljmeaihgaaDoor
