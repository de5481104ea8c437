/-
  NumParses' walk: both readings of any bytes, and of bytes of choices, are the same.
-/
import Derived.Test.YtbfcbnkjjiejiaaNumField
import Derived.Test.YtbfcbnkjjiejiaaNumSame
import Derived.Test.YtbfcbnkjjiejiaaNumRow
namespace Go.Proofs.Ytbfcbnkjjiejiaa
open Go.RowKit Go.Lib
attribute [local go_sem ↓] slice_from slice_to

set_option maxHeartbeats 400000 in
theorem numParses_go (A0 : Option Addr) (n0 c0 : Nat) (z0 : List Int) (A1 : Option Addr) (n1 c1 : Nat) (z1 : List Int) (n : Int) (w : World)
    (hr0 : Rd w w.heap.size A0 n0 z0) (hn0 : n0 ≤ c0) (hc0 : c0 ≤ maxLen) (hr1 : Rd w w.heap.size A1 n1 z1) (hn1 : n1 ≤ c1) (hc1 : c1 ≤ maxLen) (hk : 0 ≤ n ∧ n ≤ 255) :
    Calls Try.prog 5 #[.slice A0 n0 c0, .slice A1 n1 c1, .int .u8 n] w fun e w' => e = .returned (.bool true) ∧ Below w.heap.size w w' := by
  by_cases h : 200 < n0
  · have e1 : decide ((200 : Int) < (n0 : Int)) = true := by rw [decide_eq_true_eq]; omega
    go_enter Try.func5, Try.ntmps5
    go_wp2_with fail
    refine (known_any _).mono ?_
    rintro e w1 ⟨rfl, b1⟩
    go_wp2
    go_ret
    exact ⟨rfl, b1⟩
  · have e1 : decide ((200 : Int) < (n0 : Int)) = false := by rw [decide_eq_false_iff_not]; omega
    have hr0' := hid hr0
    have hr1' := hid hr1
    clear hr0 hr1
    go_enter Try.func5, Try.ntmps5
    go_wp2_with fail
    refine (known_any _).mono ?_
    rintro e w1 ⟨rfl, b1⟩
    go_wp2_with fail
    refine (parses_any A0 n0 c0 z0 _ _ (hr0'.out.below b1) hn0 hc0).mono ?_
    rintro e w' ⟨rfl, rfl⟩
    go_wp2_with fail
    refine (field_any A1 n1 c1 z1 n _ ((hr1'.out.below b1).more b1.size) hn1 hc1 hk).mono ?_
    rintro e w2 ⟨A, N, c, ls, rfl, hr, hN, hc, b2⟩
    go_wp2_with fail
    refine (parses_any A N c ls _ _ hr hN hc).mono ?_
    rintro e w' ⟨rfl, rfl⟩
    go_wp2
    go_ret
    exact ⟨rfl, b1.trans (b2.mono b1.size)⟩

theorem numParses_any (A0 : Option Addr) (n0 c0 : Nat) (z0 : List Int) (A1 : Option Addr) (n1 c1 : Nat) (z1 : List Int) (n : Int) (w : World)
    (h0 : Rd w w.heap.size A0 n0 (z0.take n0) ∧ n0 ≤ c0 ∧ c0 ≤ maxLen) (h1 : Rd w w.heap.size A1 n1 (z1.take n1) ∧ n1 ≤ c1 ∧ c1 ≤ maxLen) (hk : 0 ≤ n ∧ n ≤ 255) :
    Calls Try.prog 5 #[.slice A0 n0 c0, .slice A1 n1 c1, .int .u8 n] w fun e w' => e = .returned (.bool true) ∧ Below w.heap.size w w' :=
  numParses_go A0 n0 c0 _ A1 n1 c1 _ n w h0.1 h0.2.1 h0.2.2 h1.1 h1.2.1 h1.2.2 hk
end Go.Proofs.Ytbfcbnkjjiejiaa
