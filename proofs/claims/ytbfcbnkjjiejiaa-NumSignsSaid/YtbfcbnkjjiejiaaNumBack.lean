/-
  NumBack's walk: what is put is so wide, and parsed as it was.
-/
import Derived.Test.YtbfcbnkjjiejiaaNumStr
import Derived.Test.YtbfcbnkjjiejiaaNumMathB
namespace Go.Proofs.Ytbfcbnkjjiejiaa
open Go.RowKit Go.Lib

/-- A number that is shifted by two places or more. -/
theorem shr2_bd (n : Int) (hn : -9223372036854775808 ≤ n ∧ n ≤ 9223372036854775807) : ∀ k : Nat, 2 ≤ k → -2305843009213693952 ≤ n / 2 ^ k ∧ n / 2 ^ k ≤ 2305843009213693951
  | 0, h => absurd h (by decide)
  | 1, h => absurd h (by decide)
  | 2, _ => by rw [show (2 : Int) ^ 2 = 4 from rfl]; omega
  | k + 3, _ => by
    have ih := shr2_bd n hn (k + 2) (by omega)
    rw [show k + 3 = (k + 2) + 1 from rfl, Int.pow_succ, ← Int.ediv_ediv_of_nonneg (Int.pow_nonneg (by decide))]
    omega

set_option maxHeartbeats 400000 in
theorem numBack_any (n k wide : Int) (w : World) (hn : -9223372036854775808 ≤ n ∧ n ≤ 9223372036854775807) (hk : 0 ≤ k ∧ k ≤ 255) (hw : 0 ≤ wide ∧ wide ≤ 255) :
    Calls Try.prog 7 #[.int .i64 n, .int .u8 k, .int .u8 wide] w fun e w' => e = .returned (.bool true) ∧ Below w.heap.size w w' := by
  obtain ⟨hk0, hk1⟩ := hk
  obtain ⟨hw0, hw1⟩ := hw
  have hx := shr2_bd n hn (2 + k % 60).toNat (by omega)
  have hW2 : 2 ≤ 2 + wide % 31 := by omega
  have hW32 : 2 + wide % 31 ≤ 32 := by omega
  go_enter Try.func7, Try.ntmps7
  go_wp2_with fail
  generalize n / 2 ^ (2 + k % 60).toNat = x at *
  generalize 2 + wide % 31 = W at *
  obtain ⟨N, rfl⟩ := Int.eq_ofNat_of_zero_le (by omega : 0 ≤ W)
  have hxw : -9223372036854775808 ≤ x ∧ x ≤ 9223372036854775807 := ⟨by omega, by omega⟩
  have hx0 : -M.most ≤ x := by unfold M.most; omega
  have hx1 : x ≤ M.most := by unfold M.most; omega
  have H12 : Hid (M.putFits x (12 : Nat) = true) := hid (by
    unfold M.putFits
    rw [(M.binFits_iff (by decide) (by decide) hx0 hx1).2 (M.room_nine 3 hx), Bool.or_true])
  have H12b := hid (M.put_back (N := 12) (by decide) (by decide) hx0 hx1 H12.out)
  have HBK := hid (fun h => M.put_back (x := x) (N := N) (by omega) (by omega) hx0 hx1 h)
  have HNO := hid (fun h => M.putR_no (x := x) (w := N) h)
  clear hx hx0 hx1
  refine (put_any x N w hxw).mono ?_
  rintro e w1 ⟨A1, N1, rfl, r1, b1⟩
  cases hf : M.putFits x N
  case' true =>
    obtain ⟨g1, g2, g3⟩ := HBK.out hf
    have hN1 : N1 = N := by rw [← r1.len, g1]
    subst hN1
    have HP := hid (parse_any A1 N1 N1 _ w1 _ r1 (Nat.le_refl _) (by unfold maxLen; omega))
    have HP' : Hid (Calls Try.prog 17 #[.slice A1 N1 N1] w1 fun e w' => e = .returned (.tuple #[.int .i64 x, .bool true]) ∧ w1 = w') := hid (by
      have h := HP.out
      rw [show parN (M.putR x N1) = x from g3, show parOk (M.putR x N1) = true from g2] at h
      exact h)
    clear HP g1 g2 g3 r1 hf
    go_wp2_with fail
    refine HP'.out.mono ?_
    rintro e w' ⟨rfl, rfl⟩
    have e1 : ((N1 : Int) != N1) = false := by simp
    have e2 : (x != x) = false := by simp
    go_wp2_with fail
  case' false =>
    have hz := HNO.out hf
    rw [hz] at r1
    have hN1 : N1 = 0 := r1.len.symm
    subst hN1
    have HP := hid (parse_any A1 0 0 _ w1 _ r1 (Nat.le_refl _) (by unfold maxLen; omega))
    have HP' : Hid (Calls Try.prog 17 #[.slice A1 0 0] w1 fun e w' => e = .returned (.tuple #[.int .i64 0, .bool true]) ∧ w1 = w') := HP
    clear HP r1 hf hz
    go_wp2_with fail
    refine HP'.out.mono ?_
    rintro e w' ⟨rfl, rfl⟩
    go_wp2_with fail
  all_goals
    have HQ := hid (put_any x (12 : Nat) w1 hxw)
    rw [H12.out] at HQ
    refine HQ.out.mono ?_
    rintro e w2 ⟨A2, N2, rfl, r2, b2⟩
    obtain ⟨g1, g2, g3⟩ := H12b.out
    have hN2 : N2 = 12 := by rw [← r2.len, g1]
    subst hN2
    have HR : Hid (Calls Try.prog 17 #[.slice A2 12 12] w2 fun e w' => e = .returned (.tuple #[.int .i64 x, .bool true]) ∧ w2 = w') := hid (by
      have h := parse_any A2 12 12 _ w2 _ r2 (Nat.le_refl _) (by decide)
      rw [show parN (M.putR x (12 : Nat)) = x from g3, show parOk (M.putR x (12 : Nat)) = true from g2] at h
      exact h)
    clear g1 g2 g3 r2
    go_wp2_with fail
    refine HR.out.mono ?_
    rintro e w' ⟨rfl, rfl⟩
    go_wp2_with fail
    refine (known_any _).mono ?_
    rintro e w3 ⟨rfl, b3⟩
    have e3 : (x == x) = true := by simp
    go_wp2
    go_ret
    have b13 := b2.trans (b3.mono b2.size)
    exact ⟨rfl, b1.trans (b13.mono b1.size)⟩
end Go.Proofs.Ytbfcbnkjjiejiaa
