/-
  Check: the document's answer.
-/
import Derived.Test.YtjpflljmeaihgaaDoorSpCheck
import Derived.Deep.QuietTactic
import Derived.BigQuiet
namespace Go.Proofs.YtjpflljmeaihgaaDoor
open Go.RowKit Go.Lib

set_option maxRecDepth 100000 in
set_option maxHeartbeats 1000000 in
theorem refCheck_any (A : Option Addr) (n c : Nat) (l : List M.Pt) (stored real : Int) (w : World) (hr : RdP w w.heap.size A n l) (hi : M.i64s l) (hn : n ≤ 1000000) :
    Calls Tryd.prog 12 #[.slice A n c, .int .i64 stored, .int .i64 real] w fun e w' => e = .returned (.int .i64 (M.check l stored real)) ∧ Below w.heap.size w w' := by
  have HL := hid hr.len
  have HR := hid hr
  have HI := hid hi
  clear hr hi
  by_cases hlong : 1000 < n
  · have HE := hid (M.check_long (l := l) stored real (by rw [HL.out]; exact hlong))
    have d1 : decide ((1000 : Int) < (n : Int)) = true := by rw [decide_eq_true_eq]; omega
    go_enter Tryd.func12, Tryd.ntmps12
    go_wp2
    go_ret
    exact ⟨by rw [HE.out]; rfl, Below.refl _ _⟩
  have HLo := hid (show ¬ 1000 < l.length by rw [HL.out]; exact hlong)
  have d1 : decide ((1000 : Int) < (n : Int)) = false := by rw [decide_eq_false_iff_not]; omega
  by_cases hreal : real < 0 ∨ 1099511627776 < real
  · have HE := hid (M.check_real (l := l) stored HLo.out hreal)
    by_cases h0 : real < 0
    case' pos => have d2 : decide (real < 0) = true := by rw [decide_eq_true_eq]; exact h0
    case' neg =>
      have d2 : decide (real < 0) = false := by rw [decide_eq_false_iff_not]; exact h0
      have d3 : decide (1099511627776 < real) = true := by rw [decide_eq_true_eq]; omega
    all_goals
      clear hreal h0
      go_enter Tryd.func12, Tryd.ntmps12
      go_wp2
      go_ret
      exact ⟨by rw [HE.out]; rfl, Below.refl _ _⟩
  have HE := hid (M.check_walk (l := l) stored HLo.out hreal)
  have h0 : 0 ≤ real := by omega
  have h1 : real ≤ 1099511627776 := by omega
  have d2 : decide (real < 0) = false := by rw [decide_eq_false_iff_not]; omega
  have d3 : decide (1099511627776 < real) = false := by rw [decide_eq_false_iff_not]; omega
  clear hreal
  go_enter Tryd.func12, Tryd.ntmps12
  go_wp2
  go_loopw [7, 8, 9] (fun e s i wr => Hid (Below w.heap.size w wr) ∧ ∃ (k : Nat) (en sn : Int), i = .int .i64 k ∧ e = .int .i64 en ∧ s = .int .i64 sn ∧ k ≤ n ∧ 0 ≤ en ∧ en ≤ real ∧ 0 ≤ sn ∧ sn ≤ en ∧ Hid (M.walk real 0 0 l = M.walk real en sn (l.drop k))) (fun _ _ i _ => n - (RowKit.intOf i).toNat)
  case atStart => exact ⟨hid (Below.refl _ _), 0, 0, 0, rfl, rfl, rfl, Nat.zero_le _, Int.le_refl _, h0, Int.le_refl _, Int.le_refl _, hid rfl⟩
  case round =>
    obtain ⟨HB, k, en, sn, rfl, rfl, rfl, hk, he0, he1, hs0, hs1, HW⟩ := hrel
    by_cases hlt : k < n
    · obtain ⟨b, off, ⟨p, q⟩, rfl, hb, hp, hc1, hc2⟩ := (HR.out.below HB.out).at_ hlt
      dsimp only at hc1 hc2
      have HST := hid (fun h1 => M.walk_step HW.out hp h1)
      have HBD := hid (fun h1 => M.walk_bad HW.out hp h1)
      obtain ⟨⟨p0, p1⟩, q0, q1⟩ := HI.out _ (List.mem_of_getElem? hp)
      clear hp
      dsimp only at HST HBD p0 p1 q0 q1
      obtain ⟨kk, hkk⟩ : ∃ kk, kk = k + 1 := ⟨_, rfl⟩
      rw [← hkk] at HST
      by_cases hbad : p < en ∨ q < 0 ∨ real - p < q
      · have HE2 := hid (show M.check l stored real = 11 by rw [HE.out, HBD.out hbad]; rfl)
        clear HST HBD
        by_cases c1 : p < en
        case' pos => have d4 : decide (p < en) = true := by rw [decide_eq_true_eq]; exact c1
        case' neg =>
          have d4 : decide (p < en) = false := by rw [decide_eq_false_iff_not]; exact c1
          by_cases c2 : q < 0
          case' pos => have d5 : decide (q < 0) = true := by rw [decide_eq_true_eq]; exact c2
          case' neg =>
            have d5 : decide (q < 0) = false := by rw [decide_eq_false_iff_not]; exact c2
            by_cases c3 : real < p
            case' pos => have d6 : decide (real < p) = true := by rw [decide_eq_true_eq]; exact c3
            case' neg =>
              have d6 : decide (real < p) = false := by rw [decide_eq_false_iff_not]; exact c3
              have d7 : decide (real - p < q) = true := by rw [decide_eq_true_eq]; omega
        all_goals
          by_cases hk0 : k = 0
          case' pos =>
            subst hk0
            simp only [Nat.zero_mul, Nat.add_zero] at hc1 hc2
          case' neg => have hk1 : 0 < k := by omega
          all_goals
            go_wp2_with fail
            go_quiet (fail)
            go_wp2
            go_ret
            exact ⟨by rw [HE2.out]; rfl, below_drewN' HB.out _⟩
      · have HST2 := hid (HST.out hbad)
        have c1 : ¬ p < en := by omega
        have c2 : ¬ q < 0 := by omega
        have c3 : ¬ real - p < q := by omega
        have d4 : decide (p < en) = false := by rw [decide_eq_false_iff_not]; exact c1
        have d5 : decide (q < 0) = false := by rw [decide_eq_false_iff_not]; exact c2
        have d6 : decide (real < p) = false := by rw [decide_eq_false_iff_not]; omega
        have d7 : decide (real - p < q) = false := by rw [decide_eq_false_iff_not]; exact c3
        clear hbad HST HBD
        by_cases hk0 : k = 0
        case' pos =>
          subst hk0
          simp only [Nat.zero_mul, Nat.add_zero] at hc1 hc2
        case' neg => have hk1 : 0 < k := by omega
        all_goals
          go_wp2_with fail
          go_quiet (fail)
          go_wp2_with fail
          go_quiet (fail)
          go_wp2
          go_roundw
          case rel => exact ⟨hid (below_drewN' HB.out _), kk, p + q, sn + q, (by subst hkk; first | rfl | go_num), by go_num, by go_num, by omega, by omega, by omega, by omega, by omega, HST2⟩
          case measure => simp [RowKit.intOf]; omega
    · obtain rfl : k = n := by omega
      have HN := hid (show M.walk real 0 0 l = some (en, sn) from M.walk_end (by rw [HL.out]; exact HW.out))
      have d8 : decide (k < k) = false := by simp
      by_cases hs : sn = stored
      · have d7 : (sn != stored) = false := by simpa using hs
        have HE2 := hid (show M.check l stored real = 0 by rw [HE.out, HN.out]; show (if sn = stored then (0:Int) else 11) = 0; rw [if_pos hs])
        clear hs hlt
        go_wp2
        go_ret
        exact ⟨by rw [HE2.out]; rfl, HB.out⟩
      · have d7 : (sn != stored) = true := by simpa using hs
        have HE2 := hid (show M.check l stored real = 11 by rw [HE.out, HN.out]; show (if sn = stored then (0:Int) else 11) = 11; rw [if_neg hs])
        clear hs hlt
        go_wp2
        go_ret
        exact ⟨by rw [HE2.out]; rfl, HB.out⟩
end Go.Proofs.YtjpflljmeaihgaaDoor
