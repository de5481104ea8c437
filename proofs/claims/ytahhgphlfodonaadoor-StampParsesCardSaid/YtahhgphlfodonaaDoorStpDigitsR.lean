/-
  The document's reading of digits.
-/
import Derived.Test.YtahhgphlfodonaaDoorStpNum
namespace Go.Proofs.YtahhgphlfodonaaDoor
open Go.RowKit

def NumTo (o : Option Nat) (w : World) (e : Ending) (w' : World) : Prop := e = .returned (numV o) ∧ w = w'

set_option maxRecDepth 100000 in
set_option maxHeartbeats 4000000 in
theorem digits15_any (s : ByteArray) (w : World) :
    Calls Tryd.prog 27 #[.string s, .int .i64 1, .int .i64 15, .int .i64 0] w (NumTo (M.number (tl s) 15) w) := by
  by_cases h0 : tl s = []
  · obtain rfl : s = ⟨#[]⟩ := tl_inj (by rw [h0]; rfl)
    have hn := M.number_none (l := tl ⟨#[]⟩) (most := 15) (.inl h0)
    have HN := Lib.hid hn
    clear hn h0
    go_enter Tryd.func27, Tryd.ntmps27
    go_wp2
    go_ret2
    exact ⟨ret_num HN.out.symm, rfl⟩
  have hpos : 0 < s.size := by rw [← tl_len]; exact List.length_pos_iff.2 h0
  have hd1 : decide ((s.size : Int) < 1) = false := by rw [decide_eq_false_iff_not]; omega
  by_cases hlong : 15 < s.size
  · have hn := M.number_none (l := tl s) (most := 15) (.inr (.inl hlong))
    have HN := Lib.hid hn
    have hd : decide ((s.size : Int) > 15) = true := by rw [decide_eq_true_eq]; omega
    clear hn h0 hpos hlong
    go_enter Tryd.func27, Tryd.ntmps27
    go_wp2
    go_ret2
    exact ⟨ret_num HN.out.symm, rfl⟩
  have hle : s.size ≤ 15 := by omega
  have hd : decide ((s.size : Int) > 15) = false := by rw [decide_eq_false_iff_not]; omega
  have HNE := Lib.hid h0
  clear hlong h0 hpos
  go_enter Tryd.func27, Tryd.ntmps27
  go_wp2
  clear hd hd1
  go_loop [10, 11] (fun s10 s11 => ∃ i n : Nat, s10 = .int .i64 n ∧ s11 = .int .i64 i ∧ i ≤ s.size ∧ Hid (((tl s).take i).all M.isDig = true) ∧ Hid (M.num ((tl s).take i) 0 = n)) (fun _ s11 => s.size - (intOf s11).toNat)
  case atStart => exact ⟨0, 0, rfl, rfl, Nat.zero_le _, Lib.hid rfl, Lib.hid rfl⟩
  case round =>
    obtain ⟨i, n, rfl, rfl, hi, hA, hN⟩ := hrel
    by_cases hp : i < s.size
    · have hb256 : (s[i]'hp).toNat < 256 := UInt8.toNat_lt _
      by_cases hk : M.isDig ((tl s)[i]'hp) = true
      · have hs := all_take_succ hp hA.out hk
        have hbd := num_bound hA.out hp (by rw [tl_len]; omega)
        rw [hN.out] at hbd
        have hst := num_take_succ (l := tl s) hp
        rw [hN.out, at_tl] at hst
        rw [M.isDig_iff, at_tl] at hk
        obtain ⟨k1, k2⟩ := hk
        have HS := Lib.hid hs
        have HTT := Lib.hid hst
        have e1 : decide (((s[i]'hp).toNat : Int) < 48) = false := by rw [decide_eq_false_iff_not]; omega
        have e2 : decide (((s[i]'hp).toNat : Int) > 57) = false := by rw [decide_eq_false_iff_not]; omega
        clear hs hst hA hN
        go_wp2
        go_round
        case rel => exact ⟨i + 1, 10 * n + ((s[i]'hp).toNat - 48), by go_num, by go_num, by omega, HS, Lib.hid (by rw [HTT.out])⟩
        case measure => simp [intOf]; omega
      · have hk' : M.isDig ((tl s)[i]'hp) = false := by simpa using hk
        have HF := Lib.hid (M.number_none (l := tl s) (most := 15) (.inr (.inr (all_not hp hk'))))
        rw [M.isDig_iff, at_tl] at hk
        clear hk' hA hN
        by_cases c1 : (s[i]'hp).toNat < 48
        · have e1 : decide (((s[i]'hp).toNat : Int) < 48) = true := by rw [decide_eq_true_eq]; omega
          clear hk
          go_wp2
          go_ret2
          exact ⟨ret_num HF.out.symm, rfl⟩
        · have e1 : decide (((s[i]'hp).toNat : Int) < 48) = false := by rw [decide_eq_false_iff_not]; omega
          have e2 : decide (((s[i]'hp).toNat : Int) > 57) = true := by rw [decide_eq_true_eq]; omega
          clear hk
          go_wp2
          go_ret2
          exact ⟨ret_num HF.out.symm, rfl⟩
    · obtain rfl : i = s.size := by omega
      have hall : (tl s).all M.isDig = true := by
        have := hA.out
        rwa [List.take_of_length_le (by rw [tl_len]; omega)] at this
      have hnum : M.num (tl s) 0 = n := by
        have := hN.out
        rwa [List.take_of_length_le (by rw [tl_len]; omega)] at this
      have HF := Lib.hid (M.number_some (most := 15) HNE.out (by rw [tl_len]; exact hle) hall)
      rw [hnum] at HF
      clear hall hnum hN hA hp hi
      go_wp2
      go_ret2
      exact ⟨ret_num HF.out.symm, rfl⟩

theorem take9_step {l : List UInt8} {k : Nat} (hk : k < l.length) : M.num ((l ++ M.nine).take (k + 1)) 0 = 10 * M.num ((l ++ M.nine).take k) 0 + ((l[k]).toNat - 48) := by
  rw [List.take_succ_eq_append_getElem (by rw [List.length_append]; omega), M.num_snoc, List.getElem_append_left hk]
theorem take9_nought {l : List UInt8} {k : Nat} (hk : l.length ≤ k) (h9 : k < 9) : M.num ((l ++ M.nine).take (k + 1)) 0 = 10 * M.num ((l ++ M.nine).take k) 0 := by
  have hl : k < (l ++ M.nine).length := by rw [List.length_append, M.nine_len]; omega
  rw [List.take_succ_eq_append_getElem hl, M.num_snoc, List.getElem_append_right hk]
  have : M.nine[k - l.length]'(by rw [M.nine_len]; omega) = 48 := by
    unfold M.nine
    rw [List.getElem_replicate]
  rw [this]
  rfl
theorem take9_bound {l : List UInt8} {k : Nat} (h : (l.take k).all M.isDig = true) (h9 : k < 9) : M.num ((l ++ M.nine).take k) 0 ≤ 99999999 := by
  have hd : ((l ++ M.nine).take k).all M.isDig = true := by
    rw [List.take_append, List.all_append, h, Bool.true_and, List.all_eq_true]
    intro c hc
    have := List.eq_of_mem_replicate (List.mem_of_mem_take hc)
    subst this
    rfl
  have h1 := M.num_lt _ 0 hd
  have h2 : 10 ^ ((l ++ M.nine).take k).length ≤ 10 ^ 8 := Nat.pow_le_pow_right (by omega) (by rw [List.length_take]; omega)
  omega

set_option maxRecDepth 100000 in
set_option maxHeartbeats 4000000 in
theorem digits18_any (s : ByteArray) (w : World) :
    Calls Tryd.prog 27 #[.string s, .int .i64 1, .int .i64 18, .int .i64 9] w (NumTo (M.billionths (tl s)) w) := by
  have hnone : M.number (tl s) 18 = none → M.billionths (tl s) = none := fun h => by unfold M.billionths; rw [if_pos h]
  by_cases h0 : tl s = []
  · obtain rfl : s = ⟨#[]⟩ := tl_inj (by rw [h0]; rfl)
    have hn := hnone (M.number_none (l := tl ⟨#[]⟩) (most := 18) (.inl h0))
    have HN := Lib.hid hn
    clear hn h0 hnone
    go_enter Tryd.func27, Tryd.ntmps27
    go_wp2
    go_ret2
    exact ⟨ret_num HN.out.symm, rfl⟩
  have hpos : 0 < s.size := by rw [← tl_len]; exact List.length_pos_iff.2 h0
  have hd1 : decide ((s.size : Int) < 1) = false := by rw [decide_eq_false_iff_not]; omega
  by_cases hlong : 18 < s.size
  · have hn := hnone (M.number_none (l := tl s) (most := 18) (.inr (.inl hlong)))
    have HN := Lib.hid hn
    have hd : decide ((s.size : Int) > 18) = true := by rw [decide_eq_true_eq]; omega
    clear hn h0 hpos hlong hnone
    go_enter Tryd.func27, Tryd.ntmps27
    go_wp2
    go_ret2
    exact ⟨ret_num HN.out.symm, rfl⟩
  have hle : s.size ≤ 18 := by omega
  have hd : decide ((s.size : Int) > 18) = false := by rw [decide_eq_false_iff_not]; omega
  have HNE := Lib.hid h0
  have HNN := Lib.hid hnone
  clear hlong h0 hpos hnone
  go_enter Tryd.func27, Tryd.ntmps27
  go_wp2
  clear hd hd1
  go_loop [10, 11] (fun s10 s11 => ∃ i n : Nat, s10 = .int .i64 n ∧ s11 = .int .i64 i ∧ i ≤ 18 ∧ Hid (((tl s).take i).all M.isDig = true) ∧ Hid (M.num ((tl s ++ M.nine).take (min i 9)) 0 = n)) (fun _ s11 => 18 - (intOf s11).toNat)
  case atStart => exact ⟨0, 0, rfl, rfl, Nat.zero_le _, Lib.hid rfl, Lib.hid rfl⟩
  case round =>
    obtain ⟨i, n, rfl, rfl, hi, hA, hN⟩ := hrel
    by_cases hp : i < s.size
    · have hb256 : (s[i]'hp).toNat < 256 := UInt8.toNat_lt _
      by_cases hk : M.isDig ((tl s)[i]'hp) = true
      · have HS := Lib.hid (all_take_succ hp hA.out hk)
        have hkk := hk
        rw [M.isDig_iff, at_tl] at hkk
        obtain ⟨k1, k2⟩ := hkk
        have e1 : decide (((s[i]'hp).toNat : Int) < 48) = false := by rw [decide_eq_false_iff_not]; omega
        have e2 : decide (((s[i]'hp).toNat : Int) > 57) = false := by rw [decide_eq_false_iff_not]; omega
        by_cases h9 : i < 9
        · have hbd := take9_bound hA.out h9
          have hst := take9_step (l := tl s) hp
          have hn0 := hN.out
          rw [Nat.min_eq_left (by omega)] at hn0
          rw [hn0] at hbd hst
          rw [at_tl] at hst
          have HTT := Lib.hid hst
          have e3 : decide ((i : Int) < 9) = true := by rw [decide_eq_true_eq]; omega
          clear hst hA hN hn0 hk
          go_wp2
          go_round
          case rel => exact ⟨i + 1, 10 * n + ((s[i]'hp).toNat - 48), by go_num, by go_num, by omega, HS, Lib.hid (by rw [Nat.min_eq_left (by omega)]; exact HTT.out)⟩
          case measure => simp [intOf]; omega
        · have hN2 : M.num ((tl s ++ M.nine).take (min (i + 1) 9)) 0 = n := by
            have := hN.out
            rw [Nat.min_eq_right (by omega)] at this ⊢
            exact this
          have HN2 := Lib.hid hN2
          have e3 : decide ((i : Int) < 9) = false := by rw [decide_eq_false_iff_not]; omega
          clear hA hN hk h9 hN2
          go_wp2
          go_round
          case rel => exact ⟨i + 1, n, rfl, by go_num, by omega, HS, HN2⟩
          case measure => simp [intOf]; omega
      · have hk' : M.isDig ((tl s)[i]'hp) = false := by simpa using hk
        have HF := Lib.hid (HNN.out (M.number_none (l := tl s) (most := 18) (.inr (.inr (all_not hp hk')))))
        rw [M.isDig_iff, at_tl] at hk
        clear hk' hA hN
        by_cases c1 : (s[i]'hp).toNat < 48
        · have e1 : decide (((s[i]'hp).toNat : Int) < 48) = true := by rw [decide_eq_true_eq]; omega
          clear hk
          go_wp2
          go_ret2
          exact ⟨ret_num HF.out.symm, rfl⟩
        · have e1 : decide (((s[i]'hp).toNat : Int) < 48) = false := by rw [decide_eq_false_iff_not]; omega
          have e2 : decide (((s[i]'hp).toNat : Int) > 57) = true := by rw [decide_eq_true_eq]; omega
          clear hk
          go_wp2
          go_ret2
          exact ⟨ret_num HF.out.symm, rfl⟩
    · have d1 : decide (i < s.size) = false := by rw [decide_eq_false_iff_not]; omega
      have hall : (tl s).all M.isDig = true := by
        have := hA.out
        rwa [List.take_of_length_le (by rw [tl_len]; omega)] at this
      by_cases h9 : i < 9
      · have hst := take9_nought (l := tl s) (k := i) (by rw [tl_len]; omega) h9
        have hbd := take9_bound hA.out h9
        have hn0 := hN.out
        rw [Nat.min_eq_left (by omega)] at hn0
        rw [hn0] at hbd hst
        have HTT := Lib.hid hst
        have HS : Hid (((tl s).take (i + 1)).all M.isDig = true) := Lib.hid (by rw [List.take_of_length_le (by rw [tl_len]; omega)]; exact hall)
        have e3 : decide ((i : Int) < 9) = true := by rw [decide_eq_true_eq]; omega
        clear hst hA hN hn0 hp hall
        go_wp2
        go_round
        case rel => exact ⟨i + 1, 10 * n, by go_num, by go_num, by omega, HS, Lib.hid (by rw [Nat.min_eq_left (by omega)]; exact HTT.out)⟩
        case measure => simp [intOf]; omega
      · have hfin : M.billionths (tl s) = some n := by
          unfold M.billionths
          rw [if_neg (by rw [M.number_some HNE.out (by rw [tl_len]; exact hle) hall]; simp)]
          have := hN.out
          rw [Nat.min_eq_right (by omega)] at this
          rw [this]
        have HF := Lib.hid hfin
        have e3 : decide ((i : Int) < 9) = false := by rw [decide_eq_false_iff_not]; omega
        clear hfin hA hN h9 hp hall
        go_wp2
        go_ret2
        exact ⟨ret_num HF.out.symm, rfl⟩
end Go.Proofs.YtahhgphlfodonaaDoor
