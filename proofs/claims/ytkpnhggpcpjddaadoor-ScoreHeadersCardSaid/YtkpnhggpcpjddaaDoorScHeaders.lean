/-
  The statement ScoreHeaders: its walk.
-/
import Derived.Test.YtkpnhggpcpjddaaDoorHMq
set_option linter.unusedVariables false
set_option linter.unusedSimpArgs false
namespace Go.Proofs.YtkpnhggpcpjddaaDoor
open Go.RowKit Go.Lib

set_option maxRecDepth 100000 in
set_option maxHeartbeats 1000000 in
theorem scoreHeaders_any (A : Option Addr) (n c : Nat) (cs : List Int) (k : Int) (hk : 0 ≤ k ∧ k ≤ 255) (w : World) (hr : Rd w w.heap.size A n cs) (hc : n ≤ c) (hcm : c ≤ maxLen) (hmg : MG w) :
    Calls Tryd.prog 5 #[.slice A n c, .int .u8 k] w fun e w' => e = .returned (.bool true) ∧ Below w.heap.size w w' := by
  have HH := hid (header_any A n c cs w hr hc hcm)
  have HMG := hid (fun (W : World) (hW : Below w.heap.size w W) => hmg.later hW)
  clear hr hc hcm hmg
  obtain ⟨j, hj⟩ : ∃ j : Nat, (j : Int) = k % 6 := ⟨(k % 6).toNat, by omega⟩
  have hj6 : j < 6 := by omega
  have ej : k % 6 = (j : Int) := hj.symm
  have ej2 : k.tmod 6 = (j : Int) := by rw [Int.tmod_eq_emod_of_nonneg hk.1]; exact hj.symm
  have ej3 : (148 + (j : Int)) % 256 = 148 + (j : Int) := by omega
  have ej4 : (148 + (j : Int)).toNat = 148 + j := by omega
  have HJ := hid hj6
  clear hj
  go_enter Tryd.func5, Tryd.ntmps5
  go_wp2_with fail
  (with_reducible refine HH.out.mono ?_)
  rintro e w1 ⟨h, pv, rfl, hi, hfew, hway, b1⟩
  obtain ⟨Ap, cp, e0, _⟩ := hi.parts
  subst e0
  have HP := hid (refPrintX_any h Ap cp w1 hi hfew hway)
  have B1 := hid b1
  clear hi hfew hway b1 HH
  go_wp2_with fail
  refine HP.out.mono ?_
  intro e w2 ht
  obtain ⟨v, m, rfl, hv, _, b2⟩ := ht.one
  have B2 := hid (B1.out.trans (b2.mono B1.out.size))
  have HV := hid hv
  clear ht hv b2 HP
  by_cases hm : m = 0
  · subst hm
    obtain ⟨g, zs, rfl, hg, hx, hp⟩ := HV.out rfl
    obtain ⟨p1, p5, pl, pb⟩ := M.points_print hp
    have HI := hid p1
    have HS := hid (show M.isSus zs = false by unfold M.isSus; rw [p1]; rfl)
    have HP5 := hid p5
    have X2 := hid hx
    have HGS := hid (Nat.le_trans B1.out.size hg)
    have HN := hid (M.letter_head pl HJ.out)
    have HSE := hid (show M.isSus (zs.set (148 + j) 122) = decide (6 ≤ M.points (zs.set (148 + j) 122)) by unfold M.isSus; rw [HN.out]; rfl)
    clear HV hx hp p1 p5 pl pb hg
    go_wp2_with fail
    (with_reducible refine (isHead_any (some ⟨g, 0, none⟩) 512 512 zs w2 (X2.out.rd X2.out.lt) (Nat.le_refl _) (by decide) (by decide) (HMG.out _ B2.out)).mono ?_)
    rintro e w3 ⟨rfl, h3⟩
    have B3 := hid (B2.out.trans (h3.mono B2.out.size))
    have X3 := hid (X2.out.below h3 X2.out.lt)
    rw [HI.out]
    clear h3 X2 B2
    go_wp2_with fail
    (with_reducible refine (isSus_any (some ⟨g, 0, none⟩) 512 512 zs w3 (X3.out.rd X3.out.lt) (Nat.le_refl _) (by decide) (by decide) (HMG.out _ B3.out)).mono ?_)
    rintro e w4 ⟨rfl, h4⟩
    have B4 := hid (B3.out.trans (h4.mono B3.out.size))
    have X4 := hid (X3.out.below h4 X3.out.lt)
    rw [HS.out]
    clear h4 X3 B3
    go_wp2_with fail
    (with_reducible refine (points_any (some ⟨g, 0, none⟩) 512 512 zs w4 (X4.out.rd X4.out.lt) (Nat.le_refl _) (by decide) (HMG.out _ B4.out)).mono ?_)
    rintro e w5 ⟨rfl, h5⟩
    have B5 := hid (B4.out.trans (h5.mono B4.out.size))
    have X5 := hid (X4.out.below h5 X4.out.lt)
    have hp5 := HP5.out
    clear h5 X4 B4
    generalize M.points zs = pz at *
    obtain ⟨z, cz, fz⟩ := X5.out.at_ (i := 148 + j) (by have := HJ.out; omega)
    have X6 := hid (X5.out.set (148 + j) (v := 122) (by decide))
    have B6 := hid (B5.out.setCell (p := ⟨g, 148 + j, none⟩) HGS.out (.int .u8 122))
    go_upto_region 6 with fail
    generalize w5.setCell _ _ = w6 at *
    clear cz fz X5 B5 ej ej2 ej3 ej4 hj6 hp5
    go_wp2_with fail
    (with_reducible refine (scKnown_any w6 (HMG.out _ B6.out)).mono ?_)
    rintro e w7 ⟨rfl, h7⟩
    have B7 := hid (B6.out.trans (h7.mono B6.out.size))
    have X7 := hid (X6.out.below h7 X6.out.lt)
    clear h7 X6 B6
    go_wp2_with fail
    (with_reducible refine (isHead_any (some ⟨g, 0, none⟩) 512 512 (zs.set (148 + j) 122) w7 (X7.out.rd X7.out.lt) (Nat.le_refl _) (by decide) (by decide) (HMG.out _ B7.out)).mono ?_)
    rintro e w8 ⟨rfl, h8⟩
    have B8 := hid (B7.out.trans (h8.mono B7.out.size))
    have X8 := hid (X7.out.below h8 X7.out.lt)
    rw [HN.out]
    clear h8 X7 B7
    go_wp2_with fail
    (with_reducible refine (isSus_any (some ⟨g, 0, none⟩) 512 512 (zs.set (148 + j) 122) w8 (X8.out.rd X8.out.lt) (Nat.le_refl _) (by decide) (by decide) (HMG.out _ B8.out)).mono ?_)
    rintro e w9 ⟨rfl, h9⟩
    have B9 := hid (B8.out.trans (h9.mono B8.out.size))
    have X9 := hid (X8.out.below h9 X8.out.lt)
    rw [HSE.out]
    clear h9 X8 B8
    go_wp2_with fail
    (with_reducible refine (points_any (some ⟨g, 0, none⟩) 512 512 (zs.set (148 + j) 122) w9 (X9.out.rd X9.out.lt) (Nat.le_refl _) (by decide) (HMG.out _ B9.out)).mono ?_)
    rintro e w10 ⟨rfl, h10⟩
    have B10 := hid (B9.out.trans (h10.mono B9.out.size))
    clear h10 X9 B9
    generalize M.points (zs.set (148 + j) 122) = pz at *
    go_wp2_with fail
    go_ret
    exact ⟨rfl, B10.out⟩
  · have hm1 : (m == 0) = false := by rw [beq_eq_false_iff_ne]; exact hm
    have hm2 : (m != 0) = true := by rw [bne_iff_ne]; exact hm
    clear hm HV
    go_wp2_with fail
    (with_reducible refine (scKnown_any w2 (HMG.out _ B2.out)).mono ?_)
    rintro e w6 ⟨rfl, h6⟩
    have B6 := hid (B2.out.trans (h6.mono B2.out.size))
    clear h6
    go_wp2_with fail
    go_ret
    exact ⟨rfl, B6.out⟩
end Go.Proofs.YtkpnhggpcpjddaaDoor
