/-
  The chapter's example.
-/
import Derived.Test.YthejomfchjlcnaaChRef
set_option linter.unusedVariables false
set_option linter.unusedSimpArgs false
namespace Go.Proofs.Ythejomfchjlcnaa
open Go.RowKit Go.Lib

theorem RdI.lit3 (w : World) (a b c : Int) (ha : -9223372036854775808 ≤ a ∧ a ≤ 9223372036854775807) (hb : -9223372036854775808 ≤ b ∧ b ≤ 9223372036854775807) (hc : -9223372036854775808 ≤ c ∧ c ≤ 9223372036854775807) :
    RdI (w.alloc (.cells #[.int .i64 a, .int .i64 b, .int .i64 c] 3)) (w.heap.size + 1) (some ⟨w.heap.size, 0, none⟩) 3 [a, b, c] := by
  have hbk : Blk (w.alloc (.cells #[.int .i64 a, .int .i64 b, .int .i64 c] 3)) w.heap.size 3 [.int .i64 a, .int .i64 b, .int .i64 c] := Blk.new w 3 [.int .i64 a, .int .i64 b, .int .i64 c]
  refine ⟨rfl, ?_, fun _ => ⟨w.heap.size, 0, rfl, by omega, fun j z hz => ?_⟩⟩
  · intro z hz
    simp at hz
    rcases hz with rfl | rfl | rfl
    · exact ha
    · exact hb
    · exact hc
  · match j, hz with
    | 0, hz => simp at hz; subst hz; exact hbk.cell rfl
    | 1, hz => simp at hz; subst hz; exact hbk.cell rfl
    | 2, hz => simp at hz; subst hz; exact hbk.cell rfl
theorem spans_ex : C.spans [5, 5, 3] = [(0, 2, 5), (2, 3, 3)] := by decide
theorem cov_ex3 : C.cov 0 0 [(0, 2, 5), (2, 3, 3)] 3 = true := by decide
theorem cov_ex4 : C.cov 0 0 [(0, 2, 5), (2, 3, 3)] 4 = false := by decide

set_option maxRecDepth 100000 in
set_option maxHeartbeats 4000000 in
theorem known_any (w : World) :
    Calls Try.prog 7 #[] w fun e w' => e = .returned (.bool true) ∧ Below w.heap.size w w' := by
  have HS := hid (spans_any (some ⟨w.heap.size, 0, none⟩) 3 3 [5, 5, 3] (by omega) (w.alloc (.cells #[.int .i64 5, .int .i64 5, .int .i64 3] 3)) ((RdI.lit3 w 5 5 3 (by omega) (by omega) (by omega)).more (by simp)))
  rw [spans_ex] at HS
  have HB0 := hid ((Below.refl _ w).alloc (Nat.le_refl _) (.cells #[.int .i64 5, .int .i64 5, .int .i64 3] 3))
  go_enter Try.func7, Try.ntmps7
  go_wp2_with (go_at_call 6; (with_reducible refine HS.out.mono ?_); rintro e w1 ⟨v, rfl, ho, b1⟩
               obtain ⟨A, c, rfl, hr, hc, _⟩ := ho.rd
               obtain ⟨b1', o1, p1, hA, _, hp1, x1, x2, x3⟩ := hr.at_ (k := 0) (by decide)
               obtain ⟨b2', o2, p2, hA2, _, hp2, y1, y2, y3⟩ := hr.at_ (k := 1) (by decide)
               subst hA
               cases hA2
               cases hp1
               cases hp2
               simp only [Nat.zero_mul, Nat.add_zero] at x1 x2 x3
               have HR := hid (show RdS w1 w1.heap.size (some ⟨b1', o1, none⟩) 2 [(0, 2, 5), (2, 3, 3)] from hr)
               have HB1 := hid (HB0.out.trans (b1.mono (by simp)))
               have HC := hid (show 2 ≤ c from hc)
               clear hr b1 ho hc)
  (with_reducible refine (covers_any _ 2 c _ 3 w1 HR.out (by omega) HC.out).mono ?_)
  rintro e w2 ⟨rfl, b2⟩
  rw [cov_ex3]
  have HR2 := hid ((HR.out.below b2).more b2.size)
  have HB2 := hid (HB1.out.trans (b2.mono HB1.out.size))
  clear b2 x1 x2 x3 y1 y2 y3
  go_wp2_with (go_at_call 8; (with_reducible refine (covers_any _ 2 c _ 4 w2 HR2.out (by omega) HC.out).mono ?_); rintro e w3 ⟨rfl, b3⟩; rw [cov_ex4]; have HB3 := hid (HB2.out.trans (b3.mono HB2.out.size)); clear b3)
  go_ret
  exact ⟨rfl, HB3.out⟩
end Go.Proofs.Ythejomfchjlcnaa
