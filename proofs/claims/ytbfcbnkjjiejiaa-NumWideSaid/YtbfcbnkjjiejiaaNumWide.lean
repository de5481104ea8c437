/-
  NumWide's walk: what has room in few digits has room in more; the first of both ways that may be is told.
-/
import Derived.Test.YtbfcbnkjjiejiaaNumBack
namespace Go.Proofs.Ytbfcbnkjjiejiaa
open Go.RowKit Go.Lib

set_option maxHeartbeats 1600000 in
theorem numWide_any (n k wide : Int) (w : World) (hn : -9223372036854775808 ≤ n ∧ n ≤ 9223372036854775807) (hk : 0 ≤ k ∧ k ≤ 255) (hw : 0 ≤ wide ∧ wide ≤ 255) :
    Calls Try.prog 3 #[.int .i64 n, .int .u8 k, .int .u8 wide] w fun e w' => e = .returned (.bool true) ∧ Below w.heap.size w w' := by
  obtain ⟨hk0, hk1⟩ := hk
  obtain ⟨hw0, hw1⟩ := hw
  have hx := shr2_bd n hn (2 + k % 60).toNat (by omega)
  have hW2 : 2 ≤ 2 + wide % 20 := by omega
  have hW32 : 2 + wide % 20 ≤ 21 := by omega
  go_enter Try.func3, Try.ntmps3
  go_wp2_with fail
  generalize n / 2 ^ (2 + k % 60).toNat = x at *
  generalize 2 + wide % 20 = W at *
  obtain ⟨N, rfl⟩ := Int.eq_ofNat_of_zero_le (by omega : 0 ≤ W)
  have hxw : -9223372036854775808 ≤ x ∧ x ≤ 9223372036854775807 := ⟨by omega, by omega⟩
  have hx0 : -M.most ≤ x := by unfold M.most; omega
  have hx1 : x ≤ M.most := by unfold M.most; omega
  have hN1 : ((N + 1 : Nat) : Int) = (N : Int) + 1 := by omega
  -- what has room here has room in one more
  have HO : Hid (M.octFits x N = true → M.octFits x ((N : Int) + 1) = true ∧ 0 ≤ x) := hid fun h => by
    have h1 := (M.octFits_iff (N := N) (by omega) (by omega) hx1).1 h
    refine ⟨?_, h1.1⟩
    rw [← hN1]
    exact (M.octFits_iff (N := N + 1) (by omega) (by omega) hx1).2 ⟨h1.1, M.digits_more (by omega) h1.2⟩
  have HB : Hid (M.binFits x N = true → M.binFits x ((N : Int) + 1) = true) := hid fun h => by
    have h1 := (M.binFits_iff (N := N) (by omega) (by omega) hx0 hx1).1 h
    rw [← hN1]
    exact (M.binFits_iff (N := N + 1) (by omega) (by omega) hx0 hx1).2 (M.room_more (by omega) h1)
  have HBK := hid (fun h => (M.put_back (x := x) (N := N) (by omega) (by omega) hx0 hx1 h).1)
  clear hx hx0 hx1 hN1
  have HP : Hid (M.putFits x N = (M.octFits x N || M.binFits x N)) := hid rfl
  have HPb : Hid (M.octFits x N = false → M.putR x N = M.binR x N) := hid fun h => by unfold M.putR; rw [h]; rfl
  have C1 := hid (fun W => putOctal_any x N W)
  have C2 := hid (fun W => putOctal_any x ((N : Int) + 1) W)
  have C3 := hid (fun W => putBinary_any x N W hxw)
  have C4 := hid (fun W => putBinary_any x ((N : Int) + 1) W hxw)
  have C5 := hid (fun W => put_any x N W hxw)
  clear hxw hn
  cases ho : M.octFits x N
  case' false =>
    have hR := HPb.out ho
    cases hb : M.binFits x N
  case' true =>
    obtain ⟨ho1, hx0⟩ := HO.out ho
    have hd : decide (0 ≤ x) = true := by simpa using hx0
    cases hb : M.binFits x N
  all_goals
    clear HO HPb
    have hp := HP.out
    rw [ho, hb] at hp
    simp only [Bool.or_false, Bool.or_true] at hp
    clear HP
    rw [ho] at C1
    rw [hb] at C3
    rw [hp] at C5
  case' true.true => rw [ho1] at C2; rw [HB.out hb] at C4
  case' true.false => rw [ho1] at C2
  case' false.true => rw [HB.out hb] at C4; rw [hR] at C5 HBK
  all_goals
    try have HL := hid (HBK.out hp)
    clear HBK HB ho hb hp
    try clear hR
    try clear ho1
    try clear hx0
    generalize M.octFits x ((N : Int) + 1) = t2 at *
    generalize M.binFits x ((N : Int) + 1) = t4 at *
    generalize M.binR x N = l3 at *
    try generalize M.putR x N = l5 at *
    refine (C1.out _).mono ?_
    rintro e w1 ⟨A1, N1, rfl, r1, b1⟩
    go_wp2_with fail
    refine (C2.out _).mono ?_
    rintro e w2 ⟨A2, N2, rfl, r2, b2⟩
    go_wp2_with fail
    refine (C3.out _).mono ?_
    rintro e w3 ⟨A3, N3, rfl, r3, b3⟩
    go_wp2_with fail
    refine (C4.out _).mono ?_
    rintro e w4 ⟨A4, N4, rfl, r4, b4⟩
    go_wp2_with fail
    refine (C5.out _).mono ?_
    rintro e w5 ⟨A5, N5, rfl, r5, b5⟩
    go_wp2_with fail
    refine (known_any _).mono ?_
    rintro e w6 ⟨rfl, b6⟩
    have b56 := b6
    have b46 := b5.trans (b56.mono b5.size)
    have b36 := b4.trans (b46.mono b4.size)
    have b26 := b3.trans (b36.mono b3.size)
    have b16 := b2.trans (b26.mono b2.size)
    have b06 := b1.trans (b16.mono b1.size)
    have hlen := r5.len
    have c3 := run_str (r3.below b36) N3
    have c5 := run_str (r5.below b56) N5
    clear r1 r2 r3 r4 r5 b1 b2 b3 b4 b5 b6 b16 b26 b36 b46 b56 C1 C2 C3 C4 C5
    try have hN : N5 = N := by rw [← hlen, HL.out]
    try subst hN
    clear hlen
    generalize strOf l3 = s3 at *
    have e1 : ((N5 : Int) == N5) = true := by simp
    have e2 : (s3.toList == s3.toList) = true := by simp
    go_wp2
    go_ret
    exact ⟨rfl, b06⟩
end Go.Proofs.Ytbfcbnkjjiejiaa
