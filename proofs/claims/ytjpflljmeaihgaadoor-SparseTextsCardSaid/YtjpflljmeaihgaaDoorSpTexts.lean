/-
  SparseTexts' walk.
-/
import Derived.Test.YtjpflljmeaihgaaDoorSpRefParse
import Derived.Test.YtjpflljmeaihgaaDoorSpText
import Derived.Test.YtjpflljmeaihgaaDoorSpBlock
import Derived.Test.YtjpflljmeaihgaaDoorSpOld
import Derived.Test.YtjpflljmeaihgaaDoorSpKnown
namespace Go.Proofs.YtjpflljmeaihgaaDoor
open Go.RowKit Go.Lib

namespace M
theorem parse_few (s : List UInt8) : ((parse s).getD []).length ≤ 1000 := by
  unfold parse
  split
  · exact Nat.zero_le _
  · cases nums (cuts s) with
    | none => exact Nat.zero_le _
    | some ns =>
      rw [parseN_some]
      split
      · exact Nat.zero_le _
      · rename_i h
        rw [Option.getD_some, pairs_len]; omega
end M

set_option maxRecDepth 100000 in
set_option maxHeartbeats 8000000 in
theorem sparseTexts_any (s : ByteArray) (Ac : Option Addr) (nc cc : Nat) (cs : List Int) (Ab : Option Addr) (nb cb : Nat) (bs : List Int) (Ad : Option Addr) (nd cd : Nat) (ds : List Int) (w : World)
    (hc : Rd w w.heap.size Ac nc cs) (hcm : nc ≤ maxLen) (hb : Rd w w.heap.size Ab nb bs) (hbc : nb ≤ cb) (hbm : cb ≤ maxLen) (hd : Rd w w.heap.size Ad nd ds) (hdm : nd ≤ maxLen) (ht : EV w.heap.size w) :
    Calls Tryd.prog 5 #[.string s, .slice Ac nc cc, .slice Ab nb cb, .slice Ad nd cd] w fun e w' => e = .returned (.bool true) ∧ Below w.heap.size w w' := by
  have HKN := hid (fun (W : World) (hW : Below w.heap.size w W) => known_any w.heap.size W hW.size (ht.on hW))
  have HK0 := hid (known_any w.heap.size w (Nat.le_refl _) ht)
  have HT := hid (fun (W : World) (hW : Below w.heap.size w W) => (ht.on hW).up hW.size)
  have HC := hid (fun (W : World) (hW : Below w.heap.size w W) => (hc.below hW).more hW.size)
  have HBB := hid (fun (W : World) (hW : Below w.heap.size w W) => (hb.below hW).more hW.size)
  have HD := hid (fun (W : World) (hW : Below w.heap.size w W) => (hd.below hW).more hW.size)
  have HM := hid (⟨hcm, hdm, hbc, hbm⟩ : _ ∧ _ ∧ _ ∧ _)
  clear hc hb hd hcm hdm ht
  by_cases h3 : 300 < s.size
  case pos =>
    have d1 : decide (300 < s.size) = true := by rw [decide_eq_true_eq]; exact h3
    have d1i : decide ((300 : Int) < (s.size : Int)) = true := by rw [decide_eq_true_eq]; omega
    clear h3
    go_enter Tryd.func5, Tryd.ntmps5
    go_wp2_with (go_at_call 10; (with_reducible refine HK0.out.mono ?_); rintro e w1 ⟨rfl, hb1⟩)
    go_ret
    exact ⟨rfl, hb1⟩
  case neg =>
    have d1 : decide (300 < s.size) = false := by rw [decide_eq_false_iff_not]; exact h3
    have d1i : decide ((300 : Int) < (s.size : Int)) = false := by rw [decide_eq_false_iff_not]; omega
    by_cases h6 : 600 < nb
    case pos =>
      have d2 : decide ((600 : Int) < (nb : Int)) = true := by rw [decide_eq_true_eq]; omega
      clear h3 h6
      go_enter Tryd.func5, Tryd.ntmps5
      go_wp2_with (go_at_call 10; (with_reducible refine HK0.out.mono ?_); rintro e w1 ⟨rfl, hb1⟩)
      go_ret
      exact ⟨rfl, hb1⟩
    case neg =>
      have d2 : decide ((600 : Int) < (nb : Int)) = false := by rw [decide_eq_false_iff_not]; omega
      have hs3 : s.size ≤ 300 := by omega
      have hb6 : nb ≤ 600 := by omega
      clear h3 h6
      go_enter Tryd.func5, Tryd.ntmps5
      go_wp2_with fail
      (with_reducible refine HK0.out.mono ?_)
      rintro e w0 ⟨rfl, hb0⟩
      have HB0 := hid hb0
      have HP1 := hid (parse_any s (by omega) w0.heap.size w0 (Nat.le_refl _) (HT.out w0 hb0))
      clear hb0 HK0
      go_wp2_with fail
      (with_reducible refine HP1.out.mono ?_)
      rintro e w1 ⟨v1, rfl, ho1, hb1⟩
      have HFW := hid (M.parse_few (tl s))
      obtain ⟨A1, c1, rfl, hr1, _⟩ := ho1.rd
      have HR1 := hid hr1
      have HB1 := hid (HB0.out.trans (hb1.mono HB0.out.size))
      have HP2 := hid (refParse_any s (by omega) w1 (HT.out w1 HB1.out))
      clear HP1 ho1 hr1 hb1 HB0 d1 d1i d2
      go_wp2_with fail
      (with_reducible refine HP2.out.mono ?_)
      rintro e w2 ⟨v2, rfl, ho2, hb2⟩
      obtain ⟨A2, c2, rfl, hr2, _⟩ := ho2.rd
      have HR2 := hid hr2
      have HR1b := hid ((HR1.out.below hb2).more hb2.size)
      have HB2 := hid (HB1.out.trans (hb2.mono HB1.out.size))
      have HX1 := hid (text_any Ac nc cc cs w2 (HC.out w2 HB2.out) HM.out.1 (HT.out w2 HB2.out))
      clear HP2 ho2 hr2 hb2 HB1 HR1
      generalize (M.parse (tl s)).isSome = ok1 at *
      generalize (M.parse (tl s)).getD [] = l1 at *
      generalize hn1 : l1.length = n1 at *
      have HN1 := hid hn1
      clear hn1
      go_wp2_with fail
      (with_reducible refine HX1.out.mono ?_)
      rintro e w3 ⟨rfl, hxl, hb3⟩
      have HXL := hid (show (mkS (M.chText cs)).size ≤ 1000 by rw [mkS_size]; exact hxl)
      have HB3 := hid (HB2.out.trans (hb3.mono HB2.out.size))
      have HR1c := hid ((HR1b.out.below hb3).more hb3.size)
      have HR2c := hid ((HR2.out.below hb3).more hb3.size)
      have HX2 := hid (fun (W : World) (hW : Below w.heap.size w W) => text_any Ac nc cc cs W (HC.out W hW) HM.out.1 (HT.out W hW))
      generalize mkS (M.chText cs) = X at *
      have HP3 := hid (parse_any X (by have := HXL.out; omega) w3.heap.size w3 (Nat.le_refl _) (HT.out w3 HB3.out))
      clear HX1 hb3 hxl HB2 HR1b HR2
      go_wp2_with fail
      (with_reducible refine HP3.out.mono ?_)
      rintro e w4 ⟨v4, rfl, ho4, hb4⟩
      have HFX := hid (M.parse_few (tl X))
      obtain ⟨A4, c4, rfl, hr4, _⟩ := ho4.rd
      have HR4 := hid hr4
      have HB4 := hid (HB3.out.trans (hb4.mono HB3.out.size))
      have HR1d := hid ((HR1c.out.below hb4).more hb4.size)
      have HR2d := hid ((HR2c.out.below hb4).more hb4.size)
      clear HP3 ho4 hr4 hb4 HB3 HR1c HR2c
      go_wp2_with fail
      (with_reducible refine (HX2.out w4 HB4.out).mono ?_)
      rintro e w5 ⟨rfl, _, hb5⟩
      have HB5 := hid (HB4.out.trans (hb5.mono HB4.out.size))
      have HR1e := hid ((HR1d.out.below hb5).more hb5.size)
      have HR2e := hid ((HR2d.out.below hb5).more hb5.size)
      have HR4e := hid ((HR4.out.below hb5).more hb5.size)
      have HP4 := hid (refParse_any X (by have := HXL.out; omega) w5 (HT.out w5 HB5.out))
      clear HX2 hb5 HB4 HR1d HR2d HR4
      go_wp2_with fail
      (with_reducible refine HP4.out.mono ?_)
      rintro e w6 ⟨v6, rfl, ho6, hb6'⟩
      obtain ⟨A6, c6, rfl, hr6, _⟩ := ho6.rd
      have HR6 := hid hr6
      have HB6 := hid (HB5.out.trans (hb6'.mono HB5.out.size))
      have HR1f := hid ((HR1e.out.below hb6').more hb6'.size)
      have HR2f := hid ((HR2e.out.below hb6').more hb6'.size)
      have HR4f := hid ((HR4e.out.below hb6').more hb6'.size)
      clear HP4 ho6 hr6 hb6' HB5 HR1e HR2e HR4e
      generalize (M.parse (tl X)).isSome = ok2 at *
      generalize (M.parse (tl X)).getD [] = l2 at *
      generalize hn2 : l2.length = n2 at *
      have HN2 := hid hn2
      clear hn2
      have HS1 := hid (same_yes A1 A2 n1 c1 c2 l1 w6 HR1f.out HR2f.out (by have := HFW.out; omega))
      go_wp2_with fail
      (with_reducible refine HS1.out.mono ?_)
      rintro e w7 ⟨rfl, hb7⟩
      have HB7 := hid (HB6.out.trans (hb7.mono HB6.out.size))
      have HS2 := hid (same_yes A4 A6 n2 c4 c6 l2 w7 ((HR4f.out.below hb7).more hb7.size) ((HR6.out.below hb7).more hb7.size) (by have := HFX.out; omega))
      clear HS1 hb7 HB6 HR1f HR2f HR4f HR6
      go_wp2_with fail
      (with_reducible refine HS2.out.mono ?_)
      rintro e w8 ⟨rfl, hb8⟩
      have HB8 := hid (HB7.out.trans (hb8.mono HB7.out.size))
      have HO1 := hid (lawOld_any Ab nb cb bs w8 (HBB.out w8 HB8.out) HM.out.2.2.1 HM.out.2.2.2 (by omega))
      clear HS2 hb8 HB7
      go_wp2_with fail
      (with_reducible refine HO1.out.mono ?_)
      rintro e w9 ⟨rfl, hb9⟩
      have HB9 := hid (HB8.out.trans (hb9.mono HB8.out.size))
      have HBK := hid (block_any Ad nd cd ds w9 (HD.out w9 HB9.out) HM.out.2.1)
      clear HO1 hb9 HB8
      go_wp2_with fail
      (with_reducible refine HBK.out.mono ?_)
      rintro e w10 ⟨rfl, hxx, hb10⟩
      have HB10 := hid (HB9.out.trans (hb10.mono HB9.out.size))
      obtain ⟨zs, hz1, hz2, hz3⟩ := hxx
      have hrz := hz3.rd hz2
      rw [hz1] at hrz
      have HO2 := hid (lawOld_any (some ⟨w9.heap.size, 0, none⟩) 512 512 zs w10 hrz (Nat.le_refl _) (by decide) (by decide))
      clear HBK hb10 HB9 hz1 hz2 hz3 hrz
      go_wp2_with fail
      (with_reducible refine HO2.out.mono ?_)
      rintro e w11 ⟨rfl, hb11⟩
      have HB11 := hid (HB10.out.trans (hb11.mono HB10.out.size))
      clear HO2 hb11 HB10
      go_wp2
      go_ret
      exact ⟨rfl, HB11.out⟩
end Go.Proofs.YtjpflljmeaihgaaDoor
