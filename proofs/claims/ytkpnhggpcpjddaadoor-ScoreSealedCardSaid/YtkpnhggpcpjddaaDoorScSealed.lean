/-
  The statement ScoreSealed: its walk.
-/
import Derived.Test.YtkpnhggpcpjddaaDoorHMq
import Derived.Test.YtkpnhggpcpjddaaDoorHdBent
import Derived.Test.YtkpnhggpcpjddaaDoorHSumRef
set_option linter.unusedVariables false
set_option linter.unusedSimpArgs false
namespace Go.Proofs.YtkpnhggpcpjddaaDoor
open Go.RowKit Go.Lib

set_option maxRecDepth 100000 in
set_option maxHeartbeats 1000000 in
theorem scoreSealed_any (A : Option Addr) (n c : Nat) (cs : List Int) (A2 : Option Addr) (n2 c2 : Nat) (ds : List Int) (w : World) (hr : Rd w w.heap.size A n cs) (hc : n ≤ c) (hcm : c ≤ maxLen)
    (hr2 : Rd w w.heap.size A2 n2 ds) (hc2 : n2 ≤ c2) (hcm2 : c2 ≤ maxLen) (hmg : MG w) :
    Calls Tryd.prog 4 #[.slice A n c, .slice A2 n2 c2] w fun e w' => e = .returned (.bool true) ∧ Below w.heap.size w w' := by
  have HB := hid (bent_any A n c cs A2 n2 c2 ds false w hr hc hcm hr2 hc2 hcm2)
  have HMG := hid (fun (W : World) (hW : Below w.heap.size w W) => hmg.later hW)
  clear hr hc hcm hr2 hc2 hcm2 hmg
  go_enter Tryd.func4, Tryd.ntmps4
  go_wp2_with fail
  (with_reducible refine HB.out.mono ?_)
  rintro e w1 ⟨g, rfl, hg, ⟨zs, hl, hz, ha⟩, h1⟩
  have B1 := hid h1
  have X1 := hid (⟨hl, hz, ha⟩ : BX w1 g zs)
  have HM := hid (M.points_most hl hz)
  have HPS := hid (M.points_seal hl hz)
  clear hg hl hz ha h1 HB
  go_wp2_with fail
  refine (refSeal_any (some ⟨g, 0, none⟩) 512 512 zs w1 _ (X1.out.rd X1.out.lt) (Nat.le_refl _) (by decide)).mono ?_
  rintro e w2 ⟨g2, rfl, hg, ha, h2⟩
  have B2 := hid (B1.out.trans (h2.mono B1.out.size))
  have X2 := hid (X1.out.below h2 X1.out.lt)
  have Y2 := hid (⟨M.sld_len _, M.sld_bd X1.out.bd, ha⟩ : BX w2 g2 (M.sld zs))
  clear hg ha h2 X1 B1
  go_wp2_with fail
  (with_reducible refine (points_any (some ⟨g, 0, none⟩) 512 512 zs w2 (X2.out.rd X2.out.lt) (Nat.le_refl _) (by decide) (HMG.out _ B2.out)).mono ?_)
  rintro e w3 ⟨rfl, h3⟩
  have B3 := hid (B2.out.trans (h3.mono B2.out.size))
  have X3 := hid (X2.out.below h3 X2.out.lt)
  have Y3 := hid (Y2.out.below h3 Y2.out.lt)
  clear h3 X2 Y2 B2
  go_wp2_with fail
  (with_reducible refine (points_any (some ⟨g2, 0, none⟩) 512 512 (M.sld zs) w3 (Y3.out.rd Y3.out.lt) (Nat.le_refl _) (by decide) (HMG.out _ B3.out)).mono ?_)
  rintro e w4 ⟨rfl, h4⟩
  have B4 := hid (B3.out.trans (h4.mono B3.out.size))
  have X4 := hid (X3.out.below h4 X3.out.lt)
  clear h4 X3 Y3 B3
  go_wp2_with fail
  (with_reducible refine (refZero_any (some ⟨g, 0, none⟩) 512 512 zs w4 w4.heap.size (X4.out.rd X4.out.lt) (by decide)).mono ?_)
  rintro e w5 ⟨rfl, rfl⟩
  have hpb := M.points_bd zs
  obtain ⟨q15, q4⟩ := HM.out
  cases hz : M.zero zs with
  | true =>
    have hp0 := M.points_zero hz
    clear hz HPS hpb
    generalize M.points (M.sld zs) = q at *
    rw [hp0]
    clear hp0
    go_wp2_with fail
    (with_reducible refine (scKnown_any w4 (HMG.out _ B4.out)).mono ?_)
    rintro e w6 ⟨rfl, h6⟩
    have B6 := hid (B4.out.trans (h6.mono B4.out.size))
    clear h6
    go_wp2_with fail
    go_ret
    exact ⟨rfl, B6.out⟩
  | false =>
    have hps : M.points zs ≤ M.points (M.sld zs) ∧ M.points (M.sld zs) ≤ M.points zs + 4 := by
      rcases HPS.out with h | h
      · exact h
      · rw [hz] at h; cases h
    clear hz HPS
    obtain ⟨p1, p2⟩ := hps
    obtain ⟨p3, p4⟩ := hpb
    generalize M.points (M.sld zs) = q at *
    generalize M.points zs = p at *
    go_wp2_with fail
    (with_reducible refine (scKnown_any w4 (HMG.out _ B4.out)).mono ?_)
    rintro e w6 ⟨rfl, h6⟩
    have B6 := hid (B4.out.trans (h6.mono B4.out.size))
    clear h6
    go_wp2_with fail
    go_ret
    exact ⟨rfl, B6.out⟩
end Go.Proofs.YtkpnhggpcpjddaaDoor
