/-
  NumSigns' walk: with noughts, or ones, ahead of bits the number is the same.
-/
import Derived.Test.YtbfcbnkjjiejiaaNumBack
import Derived.Test.YtbfcbnkjjiejiaaNumApp
namespace Go.Proofs.Ytbfcbnkjjiejiaa
open Go.RowKit Go.Lib
attribute [local go_sem ↓] slice_from

set_option maxHeartbeats 1600000 in
theorem numSigns_pos (n k more : Int) (w : World) (hn : -9223372036854775808 ≤ n ∧ n ≤ 9223372036854775807) (hk : 0 ≤ k ∧ k ≤ 255) (hm : 0 ≤ more ∧ more ≤ 255) (hs : 0 ≤ n / 2 ^ (2 + k % 60).toNat) :
    Calls Try.prog 4 #[.int .i64 n, .int .u8 k, .int .u8 more] w fun e w' => e = .returned (.bool true) ∧ Below w.heap.size w w' := by
  obtain ⟨hk0, hk1⟩ := hk
  obtain ⟨hm0, hm1⟩ := hm
  have hx := shr2_bd n hn (2 + k % 60).toNat (by omega)
  have hR : ((more % 9).toNat : Int) = more % 9 := by omega
  have hR9 : (more % 9).toNat ≤ 8 := by omega
  go_enter Try.func4, Try.ntmps4
  go_wp2_with fail
  generalize n / 2 ^ (2 + k % 60).toNat = x at *
  have hxw : -9223372036854775808 ≤ x ∧ x ≤ 9223372036854775807 := ⟨by omega, by omega⟩
  have hfit : M.binFits x (10 : Nat) = true := (M.binFits_iff (by decide) (by decide) (by unfold M.most; omega) (by unfold M.most; omega)).2 (M.room_nine 1 hx)
  have HC := putBinary_any x (10 : Nat) w hxw
  rw [hfit, M.binR_yes hfit] at HC
  have HC := hid HC
  have hsg := M.signs_pos hs hx.2
  have HS := hid hsg
  have hb0 : (M.bin x 10)[0]? = some 128 := by rw [M.bin_ten, M.share_pos hs hx.2]; rfl
  have HB0 := hid hb0
  clear hn hfit hsg hb0
  generalize hRR : (more % 9).toNat = R at *
  have HRR := hid hRR
  clear hRR
  refine HC.out.mono ?_
  rintro e w1 ⟨A1, N1, rfl, r1, b1⟩
  have hN1 : N1 = 10 := by rw [← r1.len]; exact M.listOf_len _ _
  subst hN1
  rename_i HC0
  clear HC0
  have hdd : decide (x < 0) = false := by simpa using hs
  obtain ⟨bb, off, z0, hA1, hbb, hz0, hz1, hzk, hcz⟩ := r1.at_ (k := 0) (by decide)
  have ez : z0 = 128 := by
    have := HB0.out
    rw [show M.bin x (10 : Nat) = M.bin x ((10 : Nat) : Int).toNat from rfl] at this
    rw [hzk] at this
    injection this
  subst ez
  subst hA1
  clear hzk
  go_wp2
  have hx1 := hx.1
  have hx2 := hx.2
  try rw [show (128 + 0 : Int) = 128 from rfl]
  go_loopw [11, 12] (fun v i wr => ∃ j : Nat, j ≤ R ∧ i = .int .i64 j ∧ Own wr w1.heap.size v (1 + j) (128 :: List.replicate j 0) ∧ Below w1.heap.size w1 wr) (fun _ i _ => R - (intOf i).toNat)
  case atStart => exact ⟨0, Nat.zero_le _, rfl, Own.lit w1 _ [128] (Nat.le_refl _) (by decide) (by decide), (Below.refl _ _).alloc (Nat.le_refl _) _⟩
  case round =>
    obtain ⟨j, hj, rfl, hown, hbel⟩ := hrel
    have hsz := hbel.size
    by_cases hlt : j < R
    · go_wp2_with (at_builtin
                   refine wpList_app rfl _ _ rfl w1.heap.size _ _ (1 + j) _ rfl (hown.alloc _) _ 1 1 [0] rfl (Rd.lit wr 5 (0, 0) [0] (by decide)) (by omega) (by simp; omega) ?_
                   intro v' w' hown' hbel')
      go_roundw
      case rel =>
        refine ⟨j + 1, by omega, by go_num, ?_, hbel.trans ((Below.refl _ _).alloc hsz _ |>.trans hbel')⟩
        rw [List.replicate_succ', ← List.cons_append]
        exact hown'
      case measure => simp [intOf]; omega
    · have hjR : j = R := by omega
      subst hjR
      clear hlt hj
      have hcz' := (hbel.cell (p := ⟨bb, off, none⟩) hbb).trans hcz
      have hr1 : Rd wr w1.heap.size (cutA (some ⟨bb, off, none⟩) 10 1) 9 (M.low x 9 9) := by
        have h := (r1.below hbel).cut (k := 1) (c := 10) (by decide) (by decide)
        rw [show List.drop 1 (M.bin x ((10 : Nat) : Int).toNat) = M.low x 9 9 from M.drop_ten x] at h
        exact h
      have hd2 : decide (0 ≤ x) = true := by simpa using hs
      go_wp2_with (first
        | (at_builtin
           refine wpList_app rfl (.tmp 56) (.tmp 58) rfl w1.heap.size _ _ (1 + j) _ rfl (hown.alloc _) _ 1 1 [0] rfl (Rd.lit wr 5 (0, 0) [0] (by decide)) (by omega) (by simp; omega) ?_
           intro v2 w2 hown2 hbel2
           have hbel3 : Below w1.heap.size wr w2 := (Below.refl _ _).alloc hsz _ |>.trans hbel2)
        | (at_builtin
           refine wpList_app rfl (.tmp 60) (.tmp 62) rfl w1.heap.size _ _ (1 + j + 1) _ rfl hown2 _ 9 9 _ rfl (hr1.below hbel3) (by omega) (by have := (hbel.trans hbel3).size; omega) ?_
           intro v4 w4 hown4 hbel4))
      obtain ⟨A4, c4, rfl, hrd4, hn4, hc4⟩ := hown4.rd
      have HBIN : Hid (Calls Try.prog 13 #[.slice A4 (1 + j + 1 + 9) c4] w4 fun e w' => e = .returned (.tuple #[.int .i64 x, .bool true]) ∧ w4 = w') := hid (by
        have h := binary_any A4 _ c4 _ w4 _ hrd4 hn4 hc4
        rw [(HS.out j).1, (HS.out j).2] at h
        exact h)
      refine HBIN.out.mono ?_
      rintro e w' ⟨rfl, rfl⟩
      go_wp2_with fail
      refine (known_any _).mono ?_
      rintro e w5 ⟨rfl, b5⟩
      have e3 : (x == x) = true := by simp
      have h14 := (hbel.trans hbel3).trans hbel4
      have h15 := h14.trans (b5.mono h14.size)
      clear hown hown2 hown4 hrd4 hr1 hbel hbel2 hbel3 hbel4 b5
      go_wp2
      go_ret
      exact ⟨rfl, b1.trans (h15.mono b1.size)⟩

set_option maxHeartbeats 1600000 in
theorem numSigns_neg (n k more : Int) (w : World) (hn : -9223372036854775808 ≤ n ∧ n ≤ 9223372036854775807) (hk : 0 ≤ k ∧ k ≤ 255) (hm : 0 ≤ more ∧ more ≤ 255) (hs : n / 2 ^ (2 + k % 60).toNat < 0) :
    Calls Try.prog 4 #[.int .i64 n, .int .u8 k, .int .u8 more] w fun e w' => e = .returned (.bool true) ∧ Below w.heap.size w w' := by
  obtain ⟨hk0, hk1⟩ := hk
  obtain ⟨hm0, hm1⟩ := hm
  have hx := shr2_bd n hn (2 + k % 60).toNat (by omega)
  have hR : ((more % 9).toNat : Int) = more % 9 := by omega
  have hR9 : (more % 9).toNat ≤ 8 := by omega
  go_enter Try.func4, Try.ntmps4
  go_wp2_with fail
  generalize n / 2 ^ (2 + k % 60).toNat = x at *
  have hxw : -9223372036854775808 ≤ x ∧ x ≤ 9223372036854775807 := ⟨by omega, by omega⟩
  have hfit : M.binFits x (10 : Nat) = true := (M.binFits_iff (by decide) (by decide) (by unfold M.most; omega) (by unfold M.most; omega)).2 (M.room_nine 1 hx)
  have HC := putBinary_any x (10 : Nat) w hxw
  rw [hfit, M.binR_yes hfit] at HC
  have HC := hid HC
  have hsg := M.signs_neg hs hx.1
  have HS := hid hsg
  have hb0 : (M.bin x 10)[0]? = some 255 := by rw [M.bin_ten, M.share_neg hs hx.1]; rfl
  have HB0 := hid hb0
  clear hn hfit hsg hb0
  generalize hRR : (more % 9).toNat = R at *
  have HRR := hid hRR
  clear hRR
  refine HC.out.mono ?_
  rintro e w1 ⟨A1, N1, rfl, r1, b1⟩
  have hN1 : N1 = 10 := by rw [← r1.len]; exact M.listOf_len _ _
  subst hN1
  rename_i HC0
  clear HC0
  have hdd : decide (x < 0) = true := by simpa using hs
  obtain ⟨bb, off, z0, hA1, hbb, hz0, hz1, hzk, hcz⟩ := r1.at_ (k := 0) (by decide)
  have ez : z0 = 255 := by
    have := HB0.out
    rw [show M.bin x (10 : Nat) = M.bin x ((10 : Nat) : Int).toNat from rfl] at this
    rw [hzk] at this
    injection this
  subst ez
  subst hA1
  clear hzk
  go_wp2
  have hx1 := hx.1
  have hx2 := hx.2
  try rw [show (128 + 0 : Int) = 128 from rfl]
  go_loopw [11, 12] (fun v i wr => ∃ j : Nat, j ≤ R ∧ i = .int .i64 j ∧ Own wr w1.heap.size v (1 + j) (255 :: List.replicate j 255) ∧ Below w1.heap.size w1 wr) (fun _ i _ => R - (intOf i).toNat)
  case atStart => exact ⟨0, Nat.zero_le _, rfl, Own.lit w1 _ [255] (Nat.le_refl _) (by decide) (by decide), (Below.refl _ _).alloc (Nat.le_refl _) _⟩
  case round =>
    obtain ⟨j, hj, rfl, hown, hbel⟩ := hrel
    have hsz := hbel.size
    by_cases hlt : j < R
    · go_wp2_with (at_builtin
                   refine wpList_app rfl _ _ rfl w1.heap.size _ _ (1 + j) _ rfl (hown.alloc _) _ 1 1 [255] rfl (Rd.lit wr 5 (0, 0) [255] (by decide)) (by omega) (by simp; omega) ?_
                   intro v' w' hown' hbel')
      go_roundw
      case rel =>
        refine ⟨j + 1, by omega, by go_num, ?_, hbel.trans ((Below.refl _ _).alloc hsz _ |>.trans hbel')⟩
        rw [List.replicate_succ', ← List.cons_append]
        exact hown'
      case measure => simp [intOf]; omega
    · have hjR : j = R := by omega
      subst hjR
      clear hlt hj
      have hcz' := (hbel.cell (p := ⟨bb, off, none⟩) hbb).trans hcz
      have hr1 : Rd wr w1.heap.size (cutA (some ⟨bb, off, none⟩) 10 1) 9 (M.low x 9 9) := by
        have h := (r1.below hbel).cut (k := 1) (c := 10) (by decide) (by decide)
        rw [show List.drop 1 (M.bin x ((10 : Nat) : Int).toNat) = M.low x 9 9 from M.drop_ten x] at h
        exact h
      have hd2 : decide (0 ≤ x) = false := by rw [decide_eq_false_iff_not]; omega
      go_wp2_with (first
        | (at_builtin
           refine wpList_app rfl (.tmp 56) (.tmp 58) rfl w1.heap.size _ _ (1 + j) _ rfl (hown.alloc _) _ 1 1 [255] rfl (Rd.lit wr 5 (0, 0) [255] (by decide)) (by omega) (by simp; omega) ?_
           intro v2 w2 hown2 hbel2
           have hbel3 : Below w1.heap.size wr w2 := (Below.refl _ _).alloc hsz _ |>.trans hbel2)
        | (at_builtin
           refine wpList_app rfl (.tmp 60) (.tmp 62) rfl w1.heap.size _ _ (1 + j + 1) _ rfl hown2 _ 9 9 _ rfl (hr1.below hbel3) (by omega) (by have := (hbel.trans hbel3).size; omega) ?_
           intro v4 w4 hown4 hbel4))
      obtain ⟨A4, c4, rfl, hrd4, hn4, hc4⟩ := hown4.rd
      have HBIN : Hid (Calls Try.prog 13 #[.slice A4 (1 + j + 1 + 9) c4] w4 fun e w' => e = .returned (.tuple #[.int .i64 x, .bool true]) ∧ w4 = w') := hid (by
        have h := binary_any A4 _ c4 _ w4 _ hrd4 hn4 hc4
        rw [(HS.out j).1, (HS.out j).2] at h
        exact h)
      refine HBIN.out.mono ?_
      rintro e w' ⟨rfl, rfl⟩
      go_wp2_with fail
      refine (known_any _).mono ?_
      rintro e w5 ⟨rfl, b5⟩
      have e3 : (x == x) = true := by simp
      have h14 := (hbel.trans hbel3).trans hbel4
      have h15 := h14.trans (b5.mono h14.size)
      clear hown hown2 hown4 hrd4 hr1 hbel hbel2 hbel3 hbel4 b5
      go_wp2
      go_ret
      exact ⟨rfl, b1.trans (h15.mono b1.size)⟩

theorem numSigns_any (n k more : Int) (w : World) (hn : -9223372036854775808 ≤ n ∧ n ≤ 9223372036854775807) (hk : 0 ≤ k ∧ k ≤ 255) (hm : 0 ≤ more ∧ more ≤ 255) :
    Calls Try.prog 4 #[.int .i64 n, .int .u8 k, .int .u8 more] w fun e w' => e = .returned (.bool true) ∧ Below w.heap.size w w' := by
  by_cases hs : 0 ≤ n / 2 ^ (2 + k % 60).toNat
  · exact numSigns_pos n k more w hn hk hm hs
  · exact numSigns_neg n k more w hn hk hm (by omega)
end Go.Proofs.Ytbfcbnkjjiejiaa
