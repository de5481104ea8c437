/-
  The document's Parse.
-/
import Derived.Test.YtefkgkdocglgaaaDoorPaxRefParse
namespace Go.Proofs.YtefkgkdocglgaaaDoor
open Go.RowKit Go.Shelf

set_option maxRecDepth 100000 in
set_option maxHeartbeats 4000000 in
theorem refParse_any (A : Option Addr) (c : Nat) (l : List UInt8) (hl : l.length ≤ 100000000) (hc : l.length ≤ c) (B : Nat) (w : World) (hB : B ≤ w.heap.size) (ht : TB B w) (h : Rd w w.heap.size A l.length (ints l)) :
    Calls Tryd.prog 33 #[.slice A l.length c] w (ParseIs .i64 l w) := by
  have ht' : TB w.heap.size w := fun w' hb => ht w' (hb.mono hB)
  have HT := Lib.hid ht'
  clear ht ht'
  by_cases hbig : 1048576 < l.length
  · have HE := Lib.hid (M.parseE_long hbig)
    have hd : decide ((l.length : Int) > 1048576) = true := by rw [decide_eq_true_eq]; omega
    clear h
    go_enter Tryd.func33, Tryd.ntmps33
    go_wp2
    go_ret2
    exact ParseIs.no HE.out (by decide) (Below.refl _ _)
  · have hle : l.length ≤ 1048576 := by omega
    have HBG := Lib.hid hbig
    have HRD := Lib.hid h
    clear hbig h
    go_enter Tryd.func33, Tryd.ntmps33
    go_wp2
    go_loopg [0, 4] l.length (fun g s0 s4 wx => LineAt l w g s0 s4 wx)
    case atStart => exact ⟨A, c, l, [], [], rfl, rfl, HRD.out, hc, Nat.le_refl _, OwnR.nil _ _, by simp, Lib.hid (M.AtRest.start l), Below.refl _ _⟩
    case round =>
      obtain ⟨A1, c1, rest, rs, done, rfl, hg, hrd, hc1, hrl, hown, hrs, hat, hb⟩ := hrel
      have hbs := hb.size
      by_cases h0 : rest.length = 0
      · obtain rfl : rest = [] := List.eq_nil_of_length_eq_zero h0
        have HSM := Lib.hid hat.out.end_
        obtain ⟨A4, c4, rfl, _⟩ := hown.rd
        have HO := Lib.hid hown
        clear hrd hg h0
        simp only [List.length_nil] at *
        by_cases hm : 1000 < rs.length
        · have HE := Lib.hid (M.parseE_many HBG.out HSM.out (by rw [rcs_len]; exact hm))
          have hd : decide ((rs.length : Int) > 1000) = true := by rw [decide_eq_true_eq]; omega
          go_wp2
          go_ret2
          exact ParseIs.no HE.out (by decide) hb
        · have HE := Lib.hid (M.parseE_some HBG.out HSM.out (by rw [rcs_len]; exact hm))
          have hd : decide ((rs.length : Int) > 1000) = false := by rw [decide_eq_false_iff_not]; omega
          have hm' : rs.length ≤ 1000 := by omega
          clear hm
          go_wp2
          go_ret2
          exact ⟨_, rs, by rw [HE.out.1]; rfl, HO.out, HE.out.2.symm, hb⟩
      · have hpos : 0 < rest.length := by omega
        have hne : rest ≠ [] := by rintro rfl; exact h0 rfl
        have hd0 : decide ((rest.length : Int) > 0) = true := by rw [decide_eq_true_eq]; omega
        have hg1 : rest.length ≤ gk := by omega
        have hg2 : gk ≤ rest.length := by omega
        have HNE := Lib.hid hne
        have HO := Lib.hid hown
        have HC := Lib.hid (refOne_any A1 c1 rest (by omega) hpos hc1 w.heap.size wr hbs (HT.out.on hb) (hrd.more hbs))
        have HR0 := Lib.hid hrd
        clear h0 hne hown hg hrd
        unfold OneIs at HC
        cases hone : M.one rest with
        | none =>
          have HE := Lib.hid (M.parseE_none HBG.out (hat.out.none_ HNE.out hone))
          rw [hone] at HC
          simp only [oneV] at HC
          clear hone
          go_wp2_with (go_at_call 46; refine HC.out.mono ?_; rintro e w2 ⟨rfl, hb2⟩)
          go_ret2
          exact ParseIs.no HE.out (by decide) ((hb.trans (hb2.mono hbs)).alloc (hb.trans (hb2.mono hbs)).size _)
        | some rn =>
          obtain ⟨r, W⟩ := rn
          obtain ⟨q1, q2, q3, q4⟩ := M.one_some hone
          have hstep := hat.out.step HNE.out hone
          have hcut := HR0.out.cut (k := W) (c := c1) q4 hc1
          rw [ints_drop] at hcut
          have hsl := fun W' => slice_rest W' A1 rest.length c1 W q4
          have hdl : (rest.drop W).length = rest.length - W := List.length_drop
          rw [← hdl] at hsl hcut
          obtain ⟨rest', hr'⟩ : ∃ r', rest.drop W = r' := ⟨_, rfl⟩
          obtain ⟨a3, ha3⟩ : ∃ a3, cutA A1 c1 W = a3 := ⟨_, rfl⟩
          obtain ⟨c3, hc3⟩ : ∃ c3, c1 - W = c3 := ⟨_, rfl⟩
          have hle3 : rest'.length ≤ c3 := by rw [← hr', hdl]; omega
          have hlt3 : rest'.length + W = rest.length := by rw [← hr', hdl]; omega
          rw [hr'] at hsl hcut hstep
          rw [ha3] at hsl hcut
          rw [hc3] at hsl
          have HSTEP := Lib.hid hstep
          have HCUT := Lib.hid hcut
          rw [hone] at HC
          simp only [oneV] at HC
          have hW0 : ((W : Int) == 0) = false := by simp; omega
          clear hone q1 q2 hstep hdl hr' ha3 hc3 hcut
          go_wp2_with (go_at_call 46; refine HC.out.mono ?_; rintro e w2 ⟨rfl, hb2⟩; refine Hid.out ?_)
          refine Lib.hid ?_
          have b2 := hb.trans (hb2.mono hbs)
          have o2 := (HO.out.below hb2).alloc (.cells #[.string ⟨r.1.toArray⟩, .string ⟨r.2.toArray⟩] 45)
          have b3 := b2.alloc b2.size (.cells #[.string ⟨r.1.toArray⟩, .string ⟨r.2.toArray⟩] 45)
          go_wp2_with (at_builtin; refine wpList_appR rfl (.tmp 20) (.tmp 22) rfl w.heap.size u4 rs (mk r) rfl rfl rfl o2 b3.size (by rw [World.size_alloc]; rfl) (by omega) ?_)
          intro v4 w4 rs' HRS hn4 o4 hb4 hg4
          have b4 := b3.trans hb4
          clear o2 b3 hb4 hg4
          go_wp2
          go_roundg rest'.length
          case measure => omega
          case rel =>
            refine ⟨a3, c3, rest', rs', done ++ rest.take W, rfl, rfl, (HCUT.out.keep fun p hp => (b4.cell hp).trans (hb.cell hp).symm), hle3, by omega, o4, by omega, Lib.hid ?_, b4⟩
            have := HSTEP.out
            rw [HRS.out, rcs_app]
            exact this
end Go.Proofs.YtefkgkdocglgaaaDoor
