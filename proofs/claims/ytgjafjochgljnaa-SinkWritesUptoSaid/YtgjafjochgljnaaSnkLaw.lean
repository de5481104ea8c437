/-
  SinkWrites' walk, where what comes in is of some amount.
-/
import Derived.Test.YtgjafjochgljnaaSnkWrites
namespace Go.Proofs.Ytgjafjochgljnaa
open Go.RowKit Go.Lib

set_option maxRecDepth 100000 in
set_option maxHeartbeats 2000000 in
theorem sinkWrites_nat (room : Int) (A : Option Addr) (n c : Nat) (ls : List (List Int)) (kk : Nat) (w : World) (hro : room ≤ 9223372036854775807) (hr : RdR w w.heap.size A n ls) (hnc : n ≤ c) (hc : c ≤ maxLen) (hk : kk ≤ 255) (ham : n + ls.flatten.length ≤ 2000000) :
    Calls Try.prog 4 #[.int .i64 room, .slice A n c, .int .u8 kk] w fun e w' => e = .returned (.bool true) ∧ Below w.heap.size w w' := by
  have hcm : n ≤ maxLen := Nat.le_trans hnc hc
  have HCM := hid hcm
  have HRR := hid (fun (W : World) (hb : Below w.heap.size w W) => hr.keep (w' := W) fun p hp => hb.cell hp)
  have HAT := hid (fun (k : Nat) (hk : k < n) => hr.2 k hk)
  have HFL := hid (fun k => flat_front ls k)
  have HALL : Hid ((ls.take n).flatten = ls.flatten) := hid (by rw [List.take_of_length_le (by rw [hr.len]; exact Nat.le_refl _)])
  unfold maxLen at hcm
  clear hr hnc hc
  go_enter Try.func4, Try.ntmps4
  go_wp2_with fail
  go_loopw [7, 8] (fun v i wr => ∃ k : Nat, k ≤ n ∧ v = .int .i64 ((n + (ls.take k).flatten.length : Nat) : Int) ∧ i = .int .i64 k ∧ wr = w) (fun _ i _ => n - (intOf i).toNat)
  case atStart => exact ⟨0, Nat.zero_le _, by simp, rfl, rfl⟩
  case round =>
    obtain ⟨k, hkn, rfl, rfl, rfl⟩ := hrel
    by_cases hlt : k < n
    · obtain ⟨b, off, A', c', l, rfl, hbB, hl, c0, hrl, hlc, hcc⟩ := HAT.out k hlt
      have hnx := flat_next hl
      have hf1 := HFL.out (k + 1)
      rw [hnx, List.length_append] at hf1
      have HNX : Hid ((ls.take (k + 1)).flatten.length = (ls.take k).flatten.length + l.length) := hid (by rw [hnx, List.length_append])
      generalize (ls.take k).flatten.length = T at *
      have e1 : IntKind.i64.wrap (((n + T : Nat) : Int) + l.length) = ((n + (T + l.length) : Nat) : Int) := by rw [IntWalk.i64_in _ (by omega)]; omega
      clear hrl hl hnx
      go_wp2
      go_roundw
      case rel => exact ⟨k + 1, by omega, by rw [HNX.out]; exact congrArg (Value.int .i64) (by omega), by go_num, by trivial⟩
      case measure => simp [intOf]; omega
    · obtain rfl : k = n := by omega
      rw [HALL.out]
      generalize hT : ls.flatten.length = T at *
      have HT := hid hT
      clear hT
      by_cases h5 : 500 < k + T
      · have e5 : decide ((500 : Int) < ((k + T : Nat) : Int)) = true := by rw [decide_eq_true_eq]; omega
        go_wp2_with fail
        refine (known_any _).mono ?_
        rintro e w1 ⟨rfl, b1⟩
        go_wp2
        go_ret
        exact ⟨rfl, b1⟩
      · have HW := hid (fun (r : Int) (W : World) (h : r ≤ 9223372036854775807) (hb : Below wr.heap.size wr W) => writes_any r A k c ls W wr.heap.size h (HRR.out W hb) hb.size HCM.out (by rw [HT.out]; omega))
        have e5 : decide ((500 : Int) < ((k + T : Nat) : Int)) = false := by rw [decide_eq_false_iff_not]; omega
        go_wp2_with fail
        refine (known_any _).mono ?_
        rintro e w1 ⟨rfl, b1⟩
        have B1 := hid b1
        clear b1
        go_wp2_with fail
        (with_reducible refine (HW.out _ _ hro B1.out).mono ?_)
        rintro e w2 ⟨rfl, b2⟩
        have B2 := hid (B1.out.trans (b2.mono B1.out.size))
        clear b2
        go_wp2_with fail
        (with_reducible refine (HW.out _ _ (by omega) B2.out).mono ?_)
        rintro e w3 ⟨rfl, b3⟩
        go_wp2
        go_ret
        exact ⟨rfl, B2.out.trans (b3.mono B2.out.size)⟩

theorem sinkWrites_any (room : Int) (A : Option Addr) (n c : Nat) (ls : List (List Int)) (kk : Int) (w : World) (hro : -9223372036854775808 ≤ room ∧ room ≤ 9223372036854775807) (hr : RdR w w.heap.size A n ls) (hnc : n ≤ c) (hc : c ≤ maxLen) (hk : 0 ≤ kk ∧ kk ≤ 255) (ham : n + ls.flatten.length ≤ 2000000) :
    Calls Try.prog 4 #[.int .i64 room, .slice A n c, .int .u8 kk] w fun e w' => e = .returned (.bool true) ∧ Below w.heap.size w w' := by
  obtain ⟨k', rfl⟩ : ∃ k' : Nat, kk = k' := ⟨kk.toNat, by omega⟩
  exact sinkWrites_nat room A n c ls k' w hro.2 hr hnc hc (by omega) ham
end Go.Proofs.Ytgjafjochgljnaa
