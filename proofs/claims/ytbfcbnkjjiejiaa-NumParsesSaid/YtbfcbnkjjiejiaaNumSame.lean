/-
  The laws' helpers: both readings and both puts are the same.
-/
import Derived.Test.YtbfcbnkjjiejiaaNumStr
namespace Go.Proofs.Ytbfcbnkjjiejiaa
open Go.RowKit Go.Lib

set_option maxHeartbeats 800000 in
theorem parses_any (A : Option Addr) (n c : Nat) (zs : List Int) (w : World) (B : Nat) (hr : Rd w B A n zs) (hn : n ≤ c) (hc : c ≤ maxLen) :
    Calls Try.prog 14 #[.slice A n c] w fun e w' => e = .returned (.bool true) ∧ w = w' := by
  have H1 := hid (octal_any A n c zs w B hr hn hc)
  have H2 := hid (octalRef_any A n c zs w B hr hn hc)
  have H3 := hid (binary_any A n c zs w B hr hn hc)
  have H4 := hid (binaryRef_any A n c zs w B hr hn hc)
  have H5 := hid (parse_any A n c zs w B hr hn hc)
  have H6 := hid (parseRef_any A n c zs w B hr hn hc)
  clear hr hn hc
  generalize M.octN zs = n1 at *
  generalize M.octOk zs = k1 at *
  generalize M.binN zs = n2 at *
  generalize M.binOk zs = k2 at *
  generalize parN zs = n3 at *
  generalize parOk zs = k3 at *
  go_enter Try.func14, Try.ntmps14
  go_wp2_with fail
  (with_reducible refine H1.out.mono ?_)
  rintro e w' ⟨rfl, rfl⟩
  go_wp2_with fail
  (with_reducible refine H2.out.mono ?_)
  rintro e w' ⟨rfl, rfl⟩
  go_wp2_with fail
  (with_reducible refine H3.out.mono ?_)
  rintro e w' ⟨rfl, rfl⟩
  go_wp2_with fail
  (with_reducible refine H4.out.mono ?_)
  rintro e w' ⟨rfl, rfl⟩
  go_wp2_with fail
  (with_reducible refine H5.out.mono ?_)
  rintro e w' ⟨rfl, rfl⟩
  go_wp2_with fail
  (with_reducible refine H6.out.mono ?_)
  rintro e w' ⟨rfl, rfl⟩
  clear H1 H2 H3 H4 H5 H6
  have e1 : (n1 == n1) = true := by simp
  have e2 : (n2 == n2) = true := by simp
  have e3 : (n3 == n3) = true := by simp
  have b1 : (k1 == k1) = true := by simp
  have b2 : (k2 == k2) = true := by simp
  have b3 : (k3 == k3) = true := by simp
  go_wp2
  go_ret
  exact ⟨rfl, rfl⟩

set_option maxHeartbeats 800000 in
theorem puts_any (n wide : Int) (w : World) (hn : -9223372036854775808 ≤ n ∧ n ≤ 9223372036854775807) :
    Calls Try.prog 16 #[.int .i64 n, .int .i64 wide] w fun e w' => e = .returned (.bool true) ∧ Below w.heap.size w w' := by
  have H1 := hid (fun W => putOctal_any n wide W)
  have H2 := hid (fun W => putOctalRef_any n wide W)
  have H3 := hid (fun W => putBinary_any n wide W hn)
  have H4 := hid (fun W => putBinaryRef_any n wide W hn)
  have H5 := hid (fun W => put_any n wide W hn)
  have H6 := hid (fun W => putRef_any n wide W hn)
  clear hn
  generalize M.octR n wide = n1 at *
  generalize M.octFits n wide = k1 at *
  generalize M.binR n wide = n2 at *
  generalize M.binFits n wide = k2 at *
  generalize M.putR n wide = n3 at *
  generalize M.putFits n wide = k3 at *
  go_enter Try.func16, Try.ntmps16
  go_wp2_with fail
  refine (H1.out _).mono ?_
  rintro e w1 ⟨A1, N1, rfl, r1, b1⟩
  go_wp2_with fail
  refine (H2.out _).mono ?_
  rintro e w2 ⟨A2, N2, rfl, r2, b2⟩
  go_wp2_with fail
  refine (H3.out _).mono ?_
  rintro e w3 ⟨A3, N3, rfl, r3, b3⟩
  go_wp2_with fail
  refine (H4.out _).mono ?_
  rintro e w4 ⟨A4, N4, rfl, r4, b4⟩
  go_wp2_with fail
  refine (H5.out _).mono ?_
  rintro e w5 ⟨A5, N5, rfl, r5, b5⟩
  go_wp2_with fail
  refine (H6.out _).mono ?_
  rintro e w6 ⟨A6, N6, rfl, r6, b6⟩
  clear H1 H2 H3 H4 H5 H6
  have b56 := b6
  have b46 := b5.trans (b56.mono b5.size)
  have b36 := b4.trans (b46.mono b4.size)
  have b26 := b3.trans (b36.mono b3.size)
  have b16 := b2.trans (b26.mono b2.size)
  have b06 := b1.trans (b16.mono b1.size)
  have c1 := run_str (r1.below b16) N1
  have c2 := run_str (r2.below b26) N2
  have c3 := run_str (r3.below b36) N3
  have c4 := run_str (r4.below b46) N4
  have c5 := run_str (r5.below b56) N5
  have c6 := run_str r6 N6
  clear r1 r2 r3 r4 r5 r6 b1 b2 b3 b4 b5 b6 b16 b26 b36 b46 b56
  generalize strOf n1 = s1 at *
  generalize strOf n2 = s2 at *
  generalize strOf n3 = s3 at *
  have d1 : (s1.toList == s1.toList) = true := by simp
  have d2 : (s2.toList == s2.toList) = true := by simp
  have d3 : (s3.toList == s3.toList) = true := by simp
  have g1 : (k1 == k1) = true := by simp
  have g2 : (k2 == k2) = true := by simp
  have g3 : (k3 == k3) = true := by simp
  go_wp2
  go_ret
  exact ⟨rfl, b06⟩
end Go.Proofs.Ytbfcbnkjjiejiaa
