/-
  The contracts of the small functions of layer 1 that read a field: how many blanks lead, how many digits, whether all else is filling, whether it is marked, and what a width is.
-/
import Derived.Test.YtjpflljmeaihgaaDoorNumMem
import Derived.Test.YtjpflljmeaihgaaDoorPNumMath
import Derived.Test.YtjpflljmeaihgaaDoorRows
import Derived.WalkKit
namespace Go.Proofs.YtjpflljmeaihgaaDoor.H
open Go.RowKit Go.Lib

theorem elem22 : Tryd.prog.elem 23 = 5 := by kernel_rfl
theorem cells5 : (Tryd.prog.info? 5).map (·.size) = some 1 := by kernel_rfl
/-- 's[l:]' of bytes, the address under one name. -/
theorem slice_from (w : World) (a : Option Addr) (len cap : Nat) (kl : IntKind) (l : Int) (h0 : 0 ≤ l) (h1 : l ≤ len) :
    (Instr.slice 23 (.slice a len cap) (some (.int kl l)) none none).run Tryd.prog w = .ok (.slice (cutA a cap l.toNat) (len - l.toNat) (cap - l.toNat)) w := by
  have ht : Tryd.prog.underlying 23 = some (.slice (Tryd.prog.elem 23)) := by rw [elem22]; exact Tryd.underlying23
  rw [run_slice_l w 23 a len cap ht kl l h0 h1, elem22]
  have hs : (sizeOf 5).run Tryd.prog w = .ok 1 w := by
    obtain ⟨i, hi, hz⟩ := Option.map_eq_some_iff.1 cells5
    simp [sizeOf, typeInfo, hi, hz]
  rw [hs]
  simp [Result.andThen, sliced, cutA]
attribute [local go_sem ↓] slice_from

set_option maxHeartbeats 400000 in
theorem blanks_any (A : Option Addr) (n c : Nat) (zs : List Int) (w : World) (B : Nat) (hr : Rd w B A n zs) (hn : n ≤ maxLen) :
    Calls Tryd.prog 93 #[.slice A n c] w fun e w' => e = .returned (.int .i64 (M.lead (· == 32) zs)) ∧ w = w' := by
  unfold maxLen at hn
  have HL := hid hr.len
  go_enter Tryd.func93, Tryd.ntmps93
  go_wp2
  go_loop [7] (fun i => ∃ k : Nat, k ≤ n ∧ i = .int .i64 k ∧ Hid (∀ j x, j < k → zs[j]? = some x → (x == 32) = true)) (fun i => n - (intOf i).toNat)
  case atStart => exact ⟨0, Nat.zero_le _, rfl, hid (fun j x hj => absurd hj (by omega))⟩
  case round =>
    obtain ⟨k, hk, rfl, hall⟩ := hrel
    by_cases hlt : k < n
    · obtain ⟨b, off, z, rfl, hb, hz0, hz1, hzk, hc⟩ := hr.at_ hlt
      have HZ := hid hzk
      clear hzk
      by_cases hz : z = 32
      · subst hz
        go_wp2
        go_round
        case rel => exact ⟨k + 1, by omega, by go_num, hid (M.upto_succ (p := (· == 32)) hall.out HZ.out rfl)⟩
        case measure => simp [intOf]; omega
      · go_wp2
        go_ret
        exact ⟨ret_int (by rw [M.lead_at (p := (· == 32)) hall.out HZ.out (by simpa using hz)]), rfl⟩
    · go_wp2
      go_ret
      have hkn : k = n := by omega
      exact ⟨ret_int (by rw [M.lead_all (p := (· == 32)) (fun j x hj => hall.out j x (by have := HL.out; omega)), HL.out]), rfl⟩

set_option maxHeartbeats 400000 in
theorem digits_any (A : Option Addr) (n c : Nat) (zs : List Int) (w : World) (B : Nat) (hr : Rd w B A n zs) (hn : n ≤ maxLen) :
    Calls Tryd.prog 94 #[.slice A n c] w fun e w' => e = .returned (.int .i64 (M.lead M.dig zs)) ∧ w = w' := by
  unfold maxLen at hn
  have HL := hid hr.len
  go_enter Tryd.func94, Tryd.ntmps94
  go_wp2
  go_loop [7] (fun i => ∃ k : Nat, k ≤ n ∧ i = .int .i64 k ∧ Hid (∀ j x, j < k → zs[j]? = some x → M.dig x = true)) (fun i => n - (intOf i).toNat)
  case atStart => exact ⟨0, Nat.zero_le _, rfl, hid (fun j x hj => absurd hj (by omega))⟩
  case round =>
    obtain ⟨k, hk, rfl, hall⟩ := hrel
    by_cases hlt : k < n
    · obtain ⟨b, off, z, rfl, hb, hz0, hz1, hzk, hc⟩ := hr.at_ hlt
      have HZ := hid hzk
      clear hzk
      by_cases h1 : z < 48
      · go_wp2
        go_ret
        exact ⟨ret_int (by rw [M.lead_at hall.out HZ.out (by simp [M.dig]; omega)]), rfl⟩
      · by_cases h2 : 55 < z
        · go_wp2
          go_ret
          exact ⟨ret_int (by rw [M.lead_at hall.out HZ.out (by simp [M.dig]; omega)]), rfl⟩
        · go_wp2
          go_round
          case rel => exact ⟨k + 1, by omega, by go_num, hid (M.upto_succ hall.out HZ.out (by simp [M.dig]; omega))⟩
          case measure => simp [intOf]; omega
    · go_wp2
      go_ret
      have hkn : k = n := by omega
      exact ⟨ret_int (by rw [M.lead_all (fun j x hj => hall.out j x (by have := HL.out; omega)), HL.out]), rfl⟩

set_option maxHeartbeats 400000 in
theorem filling_any (A : Option Addr) (n c : Nat) (zs : List Int) (w : World) (B : Nat) (hr : Rd w B A n zs) (hn : n ≤ maxLen) :
    Calls Tryd.prog 95 #[.slice A n c] w fun e w' => e = .returned (.bool (zs.all M.fil)) ∧ w = w' := by
  unfold maxLen at hn
  have HL := hid hr.len
  go_enter Tryd.func95, Tryd.ntmps95
  go_wp2
  go_loop [7] (fun i => ∃ k : Nat, k ≤ n ∧ i = .int .i64 k ∧ Hid (∀ j x, j < k → zs[j]? = some x → M.fil x = true)) (fun i => n - (intOf i).toNat)
  case atStart => exact ⟨0, Nat.zero_le _, rfl, hid (fun j x hj => absurd hj (by omega))⟩
  case round =>
    obtain ⟨k, hk, rfl, hall⟩ := hrel
    by_cases hlt : k < n
    · obtain ⟨b, off, z, rfl, hb, hz0, hz1, hzk, hc⟩ := hr.at_ hlt
      have HZ := hid hzk
      clear hzk
      by_cases h1 : z = 32
      · subst h1
        go_wp2
        go_round
        case rel => exact ⟨k + 1, by omega, by go_num, hid (M.upto_succ hall.out HZ.out (by simp [M.fil]))⟩
        case measure => simp [intOf]; omega
      · by_cases h2 : z = 0
        · subst h2
          go_wp2
          go_round
          case rel => exact ⟨k + 1, by omega, by go_num, hid (M.upto_succ hall.out HZ.out (by simp [M.fil]))⟩
          case measure => simp [intOf]; omega
        · have g1 : (z != 32) = true := by simpa using h1
          have g2 : (z != 0) = true := by simpa using h2
          have g3 : (z == 0) = false := by simpa using h2
          have g4 : (z == 32) = false := by simpa using h1
          go_wp2
          go_ret
          exact ⟨ret_bool (by rw [M.all_no HZ.out (by simp [M.fil, h1, h2])]), rfl⟩
    · go_wp2
      go_ret
      exact ⟨ret_bool (by rw [M.all_yes (fun j x hj => hall.out j x (by have := HL.out; omega))]), rfl⟩

theorem marked_no (A : Option Addr) (n c : Nat) (zs : List Int) (w : World) (B : Nat) (hr : Rd w B A n zs) (hn : n ≤ maxLen) (hm : M.marked zs = false) :
    Calls Tryd.prog 80 #[.slice A n c] w fun e w' => e = .returned (.bool false) ∧ w = w' := by
  unfold maxLen at hn
  cases zs with
  | nil =>
    obtain rfl : n = 0 := hr.len.symm
    clear hm
    go_enter Tryd.func80, Tryd.ntmps80
    go_wp2
    go_ret
    exact ⟨rfl, rfl⟩
  | cons z l =>
    have h0 : 0 < n := by have := hr.len; simp at this; omega
    obtain ⟨b, off, z', rfl, hb, hz0, hz1, hzk, hc⟩ := hr.at_ h0
    obtain rfl : z = z' := by simpa using hzk
    have hz : decide (128 ≤ z) = false := by simpa [M.marked] using hm
    clear hm hzk
    rw [Nat.add_zero] at hc
    go_enter Tryd.func80, Tryd.ntmps80
    go_wp2
    go_ret
    exact ⟨rfl, rfl⟩
theorem marked_yes (A : Option Addr) (n c : Nat) (zs : List Int) (w : World) (B : Nat) (hr : Rd w B A n zs) (hn : n ≤ maxLen) (hm : M.marked zs = true) :
    Calls Tryd.prog 80 #[.slice A n c] w fun e w' => e = .returned (.bool true) ∧ w = w' := by
  unfold maxLen at hn
  cases zs with
  | nil => simp [M.marked] at hm
  | cons z l =>
    have h0 : 0 < n := by have := hr.len; simp at this; omega
    obtain ⟨b, off, z', rfl, hb, hz0, hz1, hzk, hc⟩ := hr.at_ h0
    obtain rfl : z = z' := by simpa using hzk
    have hz : 128 ≤ z := by simpa [M.marked] using hm
    clear hm hzk
    rw [Nat.add_zero] at hc
    go_enter Tryd.func80, Tryd.ntmps80
    go_wp2
    go_ret
    exact ⟨rfl, rfl⟩

set_option maxHeartbeats 400000 in
theorem blank_any (A : Option Addr) (n c : Nat) (zs : List Int) (w : World) (B : Nat) (hr : Rd w B A n zs) (hn : n ≤ maxLen) :
    Calls Tryd.prog 83 #[.slice A n c, .bool true] w fun e w' => e = .returned (.bool (zs.all M.fil)) ∧ w = w' := by
  unfold maxLen at hn
  have HL := hid hr.len
  go_enter Tryd.func83, Tryd.ntmps83
  go_wp2
  go_loop [5] (fun i => ∃ k : Nat, k ≤ n ∧ i = .int .i64 k ∧ Hid (∀ j x, j < k → zs[j]? = some x → M.fil x = true)) (fun i => n - (intOf i).toNat)
  case atStart => exact ⟨0, Nat.zero_le _, rfl, hid (fun j x hj => absurd hj (by omega))⟩
  case round =>
    obtain ⟨k, hk, rfl, hall⟩ := hrel
    by_cases hlt : k < n
    · obtain ⟨b, off, z, rfl, hb, hz0, hz1, hzk, hc⟩ := hr.at_ hlt
      have HZ := hid hzk
      clear hzk
      by_cases h1 : z = 32
      · subst h1
        go_wp2
        go_round
        case rel => exact ⟨k + 1, by omega, by go_num, hid (M.upto_succ hall.out HZ.out (by simp [M.fil]))⟩
        case measure => simp [intOf]; omega
      · by_cases h2 : z = 0
        · subst h2
          go_wp2
          go_round
          case rel => exact ⟨k + 1, by omega, by go_num, hid (M.upto_succ hall.out HZ.out (by simp [M.fil]))⟩
          case measure => simp [intOf]; omega
        · have g1 : (z != 32) = true := by simpa using h1
          have g2 : (z != 0) = true := by simpa using h2
          have g3 : (z == 0) = false := by simpa using h2
          have g4 : (z == 32) = false := by simpa using h1
          go_wp2
          go_ret
          exact ⟨ret_bool (by rw [M.all_no HZ.out (by simp [M.fil, h1, h2])]), rfl⟩
    · go_wp2
      go_ret
      exact ⟨ret_bool (by rw [M.all_yes (fun j x hj => hall.out j x (by have := HL.out; omega))]), rfl⟩
end Go.Proofs.YtjpflljmeaihgaaDoor.H
