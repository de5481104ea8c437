/-
  The contracts of the document's Unsigned, Signed, Told, Right and Zero.
-/
import Derived.Test.YtkpnhggpcpjddaaGreatDoorHSumUns
set_option linter.unusedVariables false
set_option linter.unusedSimpArgs false
namespace Go.Proofs.YtkpnhggpcpjddaaGreatDoor
open Go.RowKit Go.Lib

theorem ge_yes {k : Nat} {m : Int} (h : m ≤ k) : decide (m ≤ (k : Int)) = true := by rw [decide_eq_true_eq]; exact h
theorem ge_no {k : Nat} {m : Int} (h : (k : Int) < m) : decide (m ≤ (k : Int)) = false := by rw [decide_eq_false_iff_not]; omega
theorem lt_yes {k : Nat} {m : Int} (h : (k : Int) < m) : decide ((k : Int) < m) = true := by rw [decide_eq_true_eq]; exact h
theorem lt_no {k : Nat} {m : Int} (h : m ≤ k) : decide ((k : Int) < m) = false := by rw [decide_eq_false_iff_not]; omega

set_option maxHeartbeats 800000 in
theorem refUnsigned_any (A : Option Addr) (n c : Nat) (zs : List Int) (w : World) (B : Nat) (hr : Rd w B A n zs) (hs : n ≤ 65536) :
    Calls Tryz.prog 39 #[.slice A n c] w fun e w' => e = .returned (.int .i64 (M.uns zs)) ∧ w = w' := by
  have HL := hid hr.len
  have HB := hid hr.bd
  go_enter Tryz.func39, Tryz.ntmps39
  go_wp2
  go_loop [3, 4] (fun v i => ∃ k : Nat, k ≤ n ∧ i = .int .i64 k ∧ v = .int .i64 (M.tot M.cu 0 (zs.take k))) (fun _ i => n - (intOf i).toNat)
  case atStart => exact ⟨0, Nat.zero_le _, rfl, by rw [List.take_zero]; rfl⟩
  case round =>
    obtain ⟨k, hk, rfl, rfl⟩ := hrel
    by_cases hlt : k < n
    · obtain ⟨b, off, z, hA, hb, hz0, hz1, hzk, hc⟩ := hr.at_ hlt
      have HT := hid (M.tot_take M.cu hzk)
      have hbd := M.tot_cu_bd (zs := zs.take k) 0 (fun x hx => HB.out x (List.mem_of_mem_take hx))
      have hl : (zs.take k).length ≤ k := List.length_take_le _ _
      obtain ⟨hb0, hb1⟩ := hbd
      have hv1 : M.tot M.cu 0 (zs.take k) ≤ 16711680 := by omega
      clear hzk hb1 hl
      generalize M.tot M.cu 0 (zs.take k) = v at *
      by_cases h1 : k < 148
      · have e1 := ge_no (k := k) (m := 148) (by omega)
        have HC := hid (M.cu_out (i := k) (z := z) (.inl h1))
        rw [hA]
        go_wp2
        go_round
        case rel => exact ⟨k + 1, by omega, by go_num, by rw [HT.out, HC.out]⟩
        case measure => simp [intOf]; omega
      · have e1 := ge_yes (k := k) (m := 148) (by omega)
        by_cases h2 : k < 156
        · have e2 := lt_yes (k := k) (m := 156) (by omega)
          have HC := hid (M.cu_in (i := k) (z := z) (by omega) h2)
          rw [hA]
          go_wp2
          go_round
          case rel => exact ⟨k + 1, by omega, by go_num, by rw [HT.out, HC.out]⟩
          case measure => simp [intOf]; omega
        · have e2 := lt_no (k := k) (m := 156) (by omega)
          have HC := hid (M.cu_out (i := k) (z := z) (.inr (by omega)))
          rw [hA]
          go_wp2
          go_round
          case rel => exact ⟨k + 1, by omega, by go_num, by rw [HT.out, HC.out]⟩
          case measure => simp [intOf]; omega
    · obtain rfl : k = n := by omega
      have hall : zs.take k = zs := List.take_of_length_le (by rw [HL.out]; exact Nat.le_refl _)
      rw [hall]
      clear hall
      go_wp2
      go_ret
      exact ⟨rfl, rfl⟩

set_option maxHeartbeats 1000000 in
theorem refSigned_any (A : Option Addr) (n c : Nat) (zs : List Int) (w : World) (B : Nat) (hr : Rd w B A n zs) (hs : n ≤ 65536) :
    Calls Tryz.prog 59 #[.slice A n c] w fun e w' => e = .returned (.int .i64 (M.sgn zs)) ∧ w = w' := by
  have HL := hid hr.len
  have HB := hid hr.bd
  have HU := hid (refUnsigned_any A n c zs w B hr hs)
  have hub := M.tot_cu_bd 0 hr.bd
  rw [hr.len] at hub
  have hu0 : 0 ≤ M.uns zs := hub.1
  have hu1 : M.uns zs ≤ 16711680 := by have := hub.2; unfold M.uns; omega
  have HS := hid (M.sgn_eq zs)
  clear hub
  generalize M.uns zs = u at *
  go_enter Tryz.func59, Tryz.ntmps59
  go_wp2_with fail
  (with_reducible refine HU.out.mono ?_)
  rintro e w' ⟨rfl, rfl⟩
  go_wp2
  go_loop [3, 4] (fun v i => ∃ k : Nat, k ≤ n ∧ i = .int .i64 k ∧ v = .int .i64 (u - 256 * M.tot M.hi 0 (zs.take k))) (fun _ i => n - (intOf i).toNat)
  case atStart => exact ⟨0, Nat.zero_le _, rfl, by rw [List.take_zero, M.tot]; simp⟩
  case round =>
    obtain ⟨k, hk, rfl, rfl⟩ := hrel
    by_cases hlt : k < n
    · obtain ⟨b, off, z, hA, hb, hz0, hz1, hzk, hc⟩ := hr.at_ hlt
      have HT := hid (M.tot_take M.hi hzk)
      have hbd := M.tot_hi_bd (zs.take k) 0
      have hl : (zs.take k).length ≤ k := List.length_take_le _ _
      obtain ⟨hb0, hb1⟩ := hbd
      have hv1 : M.tot M.hi 0 (zs.take k) ≤ 65536 := by omega
      clear hzk hb1 hl
      generalize M.tot M.hi 0 (zs.take k) = v at *
      by_cases hin : 148 ≤ k ∧ k < 156
      · obtain ⟨h1, h2⟩ := hin
        have e1 := lt_no (k := k) (m := 148) (by omega)
        have e2 := ge_no (k := k) (m := 156) (by omega)
        have HC := hid (M.hi_in (i := k) (z := z) h1 h2)
        rw [hA]
        go_wp2
        go_round
        case rel => exact ⟨k + 1, by omega, by go_num, by rw [HT.out, HC.out, Int.add_zero]⟩
        case measure => simp [intOf]; omega
      · by_cases hz : 127 < z
        · have HC := hid (M.hi_hi (i := k) (z := z) (by omega) hz)
          have ez : decide (127 < z) = true := by simpa using hz
          by_cases h1 : k < 148
          case' pos =>
            have e1 := lt_yes (k := k) (m := 148) (by omega)
          case' neg =>
            have e1 := lt_no (k := k) (m := 148) (by omega)
            have e2 := ge_yes (k := k) (m := 156) (by omega)
          all_goals
            clear hin
            rw [hA]
            go_wp2
            go_round
            case rel => exact ⟨k + 1, by omega, by go_num, by rw [HT.out, HC.out]; go_num⟩
            case measure => simp [intOf]; omega
        · have HC := hid (M.hi_lo (i := k) (z := z) (by omega))
          have ez : decide (127 < z) = false := by simpa using hz
          by_cases h1 : k < 148
          case' pos =>
            have e1 := lt_yes (k := k) (m := 148) (by omega)
          case' neg =>
            have e1 := lt_no (k := k) (m := 148) (by omega)
            have e2 := ge_yes (k := k) (m := 156) (by omega)
          all_goals
            clear hin
            rw [hA]
            go_wp2
            go_round
            case rel => exact ⟨k + 1, by omega, by go_num, by rw [HT.out, HC.out, Int.add_zero]⟩
            case measure => simp [intOf]; omega
    · obtain rfl : k = n := by omega
      have hall : zs.take k = zs := List.take_of_length_le (by rw [HL.out]; exact Nat.le_refl _)
      rw [hall]
      clear hall
      have hbd := M.tot_hi_bd zs 0
      rw [HL.out] at hbd
      obtain ⟨hb0, hb1⟩ := hbd
      go_wp2
      go_ret
      exact ⟨ret_int HS.out.symm, rfl⟩

set_option maxHeartbeats 800000 in
theorem refZero_any (A : Option Addr) (n c : Nat) (zs : List Int) (w : World) (B : Nat) (hr : Rd w B A n zs) (hs : n ≤ 65536) :
    Calls Tryz.prog 20 #[.slice A n c] w fun e w' => e = .returned (.bool (M.zero zs)) ∧ w = w' := by
  have HL := hid hr.len
  go_enter Tryz.func20, Tryz.ntmps20
  go_wp2
  go_loop [3] (fun i => ∃ k : Nat, k ≤ n ∧ i = .int .i64 k ∧ Hid (∀ j x, j < k → zs[j]? = some x → (x == 0) = true)) (fun i => n - (intOf i).toNat)
  case atStart => exact ⟨0, Nat.zero_le _, rfl, hid (fun j x hj => absurd hj (by omega))⟩
  case round =>
    obtain ⟨k, hk, rfl, hall⟩ := hrel
    by_cases hlt : k < n
    · obtain ⟨b, off, z, hA, hb, hz0, hz1, hzk, hc⟩ := hr.at_ hlt
      have HZ := hid hzk
      clear hzk
      rw [hA]
      by_cases hz : z = 0
      · subst hz
        go_wp2
        go_round
        case rel => exact ⟨k + 1, by omega, by go_num, hid (M.upto_succ (p := (· == 0)) hall.out HZ.out rfl)⟩
        case measure => simp [intOf]; omega
      · have e1 : (z != 0) = true := by simpa using hz
        have HF : Hid (M.zero zs = false) := hid (by unfold M.zero; rw [M.all_no HZ.out (by simpa using hz), Bool.and_false])
        go_wp2
        go_ret
        exact ⟨ret_bool HF.out.symm, rfl⟩
    · obtain rfl : k = n := by omega
      have ha : zs.all (· == 0) = true := M.all_yes (fun j x hj => hall.out j x (by have := HL.out; omega))
      have HF : Hid (M.zero zs = decide (k = 512)) := hid (by unfold M.zero; rw [ha, HL.out, Bool.and_true])
      clear ha hall
      by_cases h5 : k = 512
      · subst h5
        go_wp2
        go_ret
        exact ⟨ret_bool HF.out.symm, rfl⟩
      · have e1 : ((k : Int) == 512) = false := by simp; omega
        have HG : Hid (M.zero zs = false) := hid (by rw [HF.out, decide_eq_false h5])
        go_wp2
        go_ret
        exact ⟨ret_bool HG.out.symm, rfl⟩
end Go.Proofs.YtkpnhggpcpjddaaGreatDoor
