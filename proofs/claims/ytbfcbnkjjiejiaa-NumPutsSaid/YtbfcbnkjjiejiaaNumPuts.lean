/-
  NumPuts' walk: whatever number and width come in, the law answers true and changes nothing that was there.
-/
import Derived.Test.YtbfcbnkjjiejiaaNumSame
import Derived.OpenShut
import Derived.BigQuiet
namespace Go.Proofs.Ytbfcbnkjjiejiaa
open Go.RowKit Go.Lib

theorem shr_bd (n : Int) (k : Nat) (hn : -9223372036854775808 ≤ n ∧ n ≤ 9223372036854775807) : -9223372036854775808 ≤ n / 2 ^ k ∧ n / 2 ^ k ≤ 9223372036854775807 := by
  induction k with
  | zero => simpa using hn
  | succ k ih => rw [Int.pow_succ, ← Int.ediv_ediv_of_nonneg (Int.pow_nonneg (by decide))]; omega

set_option maxHeartbeats 400000 in
theorem numPuts_any (n wide k : Int) (w : World) (hn : -9223372036854775808 ≤ n ∧ n ≤ 9223372036854775807) (hk : 0 ≤ k ∧ k ≤ 255) :
    Calls Try.prog 6 #[.int .i64 n, .int .i64 wide, .int .u8 k] w fun e w' => e = .returned (.bool true) ∧ Below w.heap.size w w' := by
  by_cases h : 1000 < wide
  · have e1 : decide (1000 < wide) = true := by simpa using h
    go_enter Try.func6, Try.ntmps6
    go_wp2_with fail
    refine (known_any _).mono ?_
    rintro e w1 ⟨rfl, b1⟩
    go_wp2
    go_ret
    exact ⟨rfl, b1⟩
  · have e1 : decide (1000 < wide) = false := by simpa using h
    obtain ⟨hk0, hk1⟩ := hk
    go_enter Try.func6, Try.ntmps6
    go_wp2_with fail
    refine (known_any _).mono ?_
    rintro e w1 ⟨rfl, b1⟩
    go_wp2_with fail
    refine (puts_any _ _ _ hn).mono ?_
    rintro e w2 ⟨rfl, b2⟩
    go_wp2_with fail
    refine (puts_any _ _ _ hn).mono ?_
    rintro e w3 ⟨rfl, b3⟩
    go_wp2_with fail
    refine (puts_any _ _ _ (shr_bd n _ hn)).mono ?_
    rintro e w4 ⟨rfl, b4⟩
    go_wp2
    go_ret
    have b34 := b3.trans (b4.mono b3.size)
    have b24 := b2.trans (b34.mono b2.size)
    exact ⟨rfl, b1.trans (b24.mono b1.size)⟩
end Go.Proofs.Ytbfcbnkjjiejiaa
