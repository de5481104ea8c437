/-
  The statement ScoreNone: its walk.
-/
import Derived.Test.YtkpnhggpcpjddaaDoorHMq
set_option linter.unusedVariables false
set_option linter.unusedSimpArgs false
namespace Go.Proofs.YtkpnhggpcpjddaaDoor
open Go.RowKit Go.Lib

namespace M
theorem head_short {zs : List Int} (h : zs.length ≠ 512) : isHead zs = false ∧ isSus zs = false := by
  have e : isHead zs = false := by
    unfold isHead hparse
    rw [if_pos h]
    rfl
  refine ⟨e, ?_⟩
  unfold isSus
  rw [e, points_no h]
  rfl
end M

set_option maxRecDepth 100000 in
set_option maxHeartbeats 1000000 in
theorem scoreNone_any (A : Option Addr) (n c : Nat) (zs : List Int) (k : Int) (hk : 0 ≤ k ∧ k ≤ 65535) (w : World) (hr : Rd w w.heap.size A n zs) (hc : n ≤ c) (hcm : c ≤ maxLen) (hmg : MG w) :
    Calls Tryd.prog 3 #[.slice A n c, .int .u16 k] w fun e w' => e = .returned (.bool true) ∧ Below w.heap.size w w' := by
  have HK := hid (scKnown_any w hmg)
  by_cases hn : 600 < n ∨ n = 512
  · clear hr hc hcm hmg
    by_cases h6 : 600 < n
    case' pos =>
      have e1 : decide (600 < (n : Int)) = true := by rw [decide_eq_true_eq]; omega
    case' neg =>
      obtain rfl : n = 512 := by omega
    all_goals
      clear hn
      go_enter Tryd.func3, Tryd.ntmps3
      go_wp2_with fail
      (with_reducible refine HK.out.mono ?_)
      rintro e w1 ⟨rfl, h1⟩
      go_wp2_with fail
      go_ret
      exact ⟨rfl, h1⟩
  · have hn6 : ¬ 600 < n := fun h => hn (.inl h)
    have hn5 : ¬ n = 512 := fun h => hn (.inr h)
    have HPt := hid (M.points_no (zs := zs) (by rw [hr.len]; exact hn5))
    have HSh := hid (M.head_short (zs := zs) (by rw [hr.len]; exact hn5))
    have HPo := hid (fun (W : World) (hW : Below w.heap.size w W) => points_any A n c zs W ((hr.below hW).more hW.size) hc hcm (hmg.later hW))
    have HHe := hid (fun (W : World) (hW : Below w.heap.size w W) => isHead_any A n c zs W ((hr.below hW).more hW.size) hc hcm (by omega) (hmg.later hW))
    have HSu := hid (fun (W : World) (hW : Below w.heap.size w W) => isSus_any A n c zs W ((hr.below hW).more hW.size) hc hcm (by omega) (hmg.later hW))
    have HMG := hid (fun (W : World) (hW : Below w.heap.size w W) => hmg.later hW)
    have HKn := hid (fun (W : World) (hW : Below w.heap.size w W) => scKnown_any W (hmg.later hW))
    clear hr hc hcm hmg HK hn
    have e1 : decide (600 < (n : Int)) = false := by rw [decide_eq_false_iff_not]; omega
    have e2 : ((n : Int) == 512) = false := by rw [beq_eq_false_iff_ne]; omega
    obtain ⟨N, hN⟩ : ∃ N : Nat, (N : Int) = k % 512 := ⟨(k % 512).toNat, by omega⟩
    have hN5 : N < 512 := by omega
    have e3 : k % 512 = (N : Int) := hN.symm
    have e4 : k.tmod 512 = (N : Int) := by rw [Int.tmod_eq_emod_of_nonneg hk.1]; exact hN.symm
    have hmk := run_make_row' (P := Tryd.prog) 22 5 (.int .u8 0) 1 Tryd.underlying22 u8_info rfl .i64 .i64 N (by omega) (by omega)
    have HN5 := hid hN5
    clear hN hn6 hn5
    go_enter Tryd.func3, Tryd.ntmps3
    go_wp2_with fail
    clear hmk e1 e2 e3 e4
    have B0 := hid ((Below.refl _ w).alloc (Nat.le_refl _) (.cells (madeCells #[.int .u8 0] N) 5))
    have RX := hid ((RowB.made w N).rd (fun _ => by decide))
    generalize w.alloc _ = w0 at *
    have LX := hid (show (M.listOf (fun _ => (0 : Int)) N).length ≠ 512 by have := RX.out.len; have := HN5.out; omega)
    have BX_ := hid RX.out.bd
    generalize M.listOf (fun _ => (0 : Int)) N = zx at *
    have HXp := hid (M.points_no LX.out)
    have HXs := hid (M.points_right (M.sld_len zx) (M.right_sld BX_.out))
    have HRX := hid (fun (W : World) (hW : Below w0.heap.size w0 W) => (RX.out.below hW).more hW.size)
    (with_reducible refine (HKn.out w0 B0.out).mono ?_)
    rintro e w1 ⟨rfl, h1⟩
    have B1 := hid (B0.out.trans (h1.mono B0.out.size))
    have E1 := hid h1
    clear h1
    go_wp2_with fail
    (with_reducible refine (HPo.out w1 B1.out).mono ?_)
    rintro e w2 ⟨rfl, h2⟩
    have B2 := hid (B1.out.trans (h2.mono B1.out.size))
    have E2 := hid (E1.out.trans (h2.mono E1.out.size))
    clear h2
    rw [HPt.out]
    go_wp2_with fail
    (with_reducible refine (HHe.out w2 B2.out).mono ?_)
    rintro e w3 ⟨rfl, h3⟩
    have B3 := hid (B2.out.trans (h3.mono B2.out.size))
    have E3 := hid (E2.out.trans (h3.mono E2.out.size))
    clear h3
    rw [HSh.out.1]
    go_wp2_with fail
    (with_reducible refine (HSu.out w3 B3.out).mono ?_)
    rintro e w4 ⟨rfl, h4⟩
    have B4 := hid (B3.out.trans (h4.mono B3.out.size))
    have E4 := hid (E3.out.trans (h4.mono E3.out.size))
    clear h4
    rw [HSh.out.2]
    go_wp2_with fail
    (with_reducible refine (points_any (some ⟨w.heap.size, 0, none⟩) N N zx w4 (HRX.out w4 E4.out) (Nat.le_refl _) (by have := HN5.out; unfold maxLen; omega) (HMG.out _ B4.out)).mono ?_)
    rintro e w5 ⟨rfl, h5⟩
    have B5 := hid (B4.out.trans (h5.mono B4.out.size))
    have E5 := hid (E4.out.trans (h5.mono E4.out.size))
    clear h5
    rw [HXp.out]
    go_wp2_with fail
    refine (refSeal_any (some ⟨w.heap.size, 0, none⟩) N N zx w5 _ (HRX.out w5 E5.out) (Nat.le_refl _) (by have := HN5.out; unfold maxLen; omega)).mono ?_
    rintro e w6 ⟨g, rfl, hg, ha, h6⟩
    have B6 := hid (B5.out.trans (h6.mono B5.out.size))
    have X6 := hid (⟨M.sld_len _, M.sld_bd BX_.out, ha⟩ : BX w6 g (M.sld zx))
    clear hg ha h6
    go_wp2_with fail
    (with_reducible refine (points_any (some ⟨g, 0, none⟩) 512 512 (M.sld zx) w6 (X6.out.rd X6.out.lt) (Nat.le_refl _) (by decide) (HMG.out _ B6.out)).mono ?_)
    rintro e w7 ⟨rfl, h7⟩
    have B7 := hid (B6.out.trans (h7.mono B6.out.size))
    have hp4 := HXs.out
    clear h7
    generalize M.points (M.sld zx) = pz at *
    go_wp2_with fail
    go_ret
    exact ⟨rfl, B7.out⟩
end Go.Proofs.YtkpnhggpcpjddaaDoor
