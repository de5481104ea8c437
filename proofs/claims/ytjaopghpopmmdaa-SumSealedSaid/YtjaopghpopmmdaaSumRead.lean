/-
  The contracts of the small functions of layer 1 that read a field: how many blanks lead, how many digits, whether all else is filling, and what a width is.
-/
import Derived.Test.YtjaopghpopmmdaaNumMem
import Derived.Test.YtjaopghpopmmdaaNumMath
import Derived.Test.YtjaopghpopmmdaaRows
import Derived.WalkKit
namespace Go.Proofs.Ytjaopghpopmmdaa
open Go.RowKit Go.Lib

theorem elem22 : Try.prog.elem 22 = 5 := by kernel_rfl
theorem cells5 : (Try.prog.info? 5).map (·.size) = some 1 := by kernel_rfl
/-- 's[l:]' of bytes, the address under one name. -/
theorem slice_from (w : World) (a : Option Addr) (len cap : Nat) (kl : IntKind) (l : Int) (h0 : 0 ≤ l) (h1 : l ≤ len) :
    (Instr.slice 22 (.slice a len cap) (some (.int kl l)) none none).run Try.prog w = .ok (.slice (cutA a cap l.toNat) (len - l.toNat) (cap - l.toNat)) w := by
  have ht : Try.prog.underlying 22 = some (.slice (Try.prog.elem 22)) := by rw [elem22]; exact Try.underlying22
  rw [run_slice_l w 22 a len cap ht kl l h0 h1, elem22]
  have hs : (sizeOf 5).run Try.prog w = .ok 1 w := by
    obtain ⟨i, hi, hz⟩ := Option.map_eq_some_iff.1 cells5
    simp [sizeOf, typeInfo, hi, hz]
  rw [hs]
  simp [Result.andThen, sliced, cutA]
attribute [local go_sem ↓] slice_from

set_option maxHeartbeats 400000 in
theorem blanks_any (A : Option Addr) (n c : Nat) (zs : List Int) (w : World) (B : Nat) (hr : Rd w B A n zs) (hn : n ≤ maxLen) :
    Calls Try.prog 34 #[.slice A n c] w fun e w' => e = .returned (.int .i64 (M.lead (· == 32) zs)) ∧ w = w' := by
  unfold maxLen at hn
  have HL := hid hr.len
  go_enter Try.func34, Try.ntmps34
  go_wp2
  go_loop [7] (fun i => ∃ k : Nat, k ≤ n ∧ i = .int .i64 k ∧ Hid (∀ j x, j < k → zs[j]? = some x → (x == 32) = true)) (fun i => n - (intOf i).toNat)
  case atStart => exact ⟨0, Nat.zero_le _, rfl, hid (fun j x hj => absurd hj (by omega))⟩
  case round =>
    obtain ⟨k, hk, rfl, hall⟩ := hrel
    by_cases hlt : k < n
    · obtain ⟨b, off, z, rfl, hb, hz0, hz1, hzk, hc⟩ := hr.at_ hlt
      have HZ := hid hzk
      clear hzk
      by_cases hz : z = 32
      · subst hz
        go_wp2
        go_round
        case rel => exact ⟨k + 1, by omega, by go_num, hid (M.upto_succ (p := (· == 32)) hall.out HZ.out rfl)⟩
        case measure => simp [intOf]; omega
      · go_wp2
        go_ret
        exact ⟨ret_int (by rw [M.lead_at (p := (· == 32)) hall.out HZ.out (by simpa using hz)]), rfl⟩
    · go_wp2
      go_ret
      have hkn : k = n := by omega
      exact ⟨ret_int (by rw [M.lead_all (p := (· == 32)) (fun j x hj => hall.out j x (by have := HL.out; omega)), HL.out]), rfl⟩

set_option maxHeartbeats 400000 in
theorem digits_any (A : Option Addr) (n c : Nat) (zs : List Int) (w : World) (B : Nat) (hr : Rd w B A n zs) (hn : n ≤ maxLen) :
    Calls Try.prog 35 #[.slice A n c] w fun e w' => e = .returned (.int .i64 (M.lead M.dig zs)) ∧ w = w' := by
  unfold maxLen at hn
  have HL := hid hr.len
  go_enter Try.func35, Try.ntmps35
  go_wp2
  go_loop [7] (fun i => ∃ k : Nat, k ≤ n ∧ i = .int .i64 k ∧ Hid (∀ j x, j < k → zs[j]? = some x → M.dig x = true)) (fun i => n - (intOf i).toNat)
  case atStart => exact ⟨0, Nat.zero_le _, rfl, hid (fun j x hj => absurd hj (by omega))⟩
  case round =>
    obtain ⟨k, hk, rfl, hall⟩ := hrel
    by_cases hlt : k < n
    · obtain ⟨b, off, z, rfl, hb, hz0, hz1, hzk, hc⟩ := hr.at_ hlt
      have HZ := hid hzk
      clear hzk
      by_cases h1 : z < 48
      · go_wp2
        go_ret
        exact ⟨ret_int (by rw [M.lead_at hall.out HZ.out (by simp [M.dig]; omega)]), rfl⟩
      · by_cases h2 : 55 < z
        · go_wp2
          go_ret
          exact ⟨ret_int (by rw [M.lead_at hall.out HZ.out (by simp [M.dig]; omega)]), rfl⟩
        · go_wp2
          go_round
          case rel => exact ⟨k + 1, by omega, by go_num, hid (M.upto_succ hall.out HZ.out (by simp [M.dig]; omega))⟩
          case measure => simp [intOf]; omega
    · go_wp2
      go_ret
      have hkn : k = n := by omega
      exact ⟨ret_int (by rw [M.lead_all (fun j x hj => hall.out j x (by have := HL.out; omega)), HL.out]), rfl⟩

set_option maxHeartbeats 400000 in
theorem filling_any (A : Option Addr) (n c : Nat) (zs : List Int) (w : World) (B : Nat) (hr : Rd w B A n zs) (hn : n ≤ maxLen) :
    Calls Try.prog 36 #[.slice A n c] w fun e w' => e = .returned (.bool (zs.all M.fil)) ∧ w = w' := by
  unfold maxLen at hn
  have HL := hid hr.len
  go_enter Try.func36, Try.ntmps36
  go_wp2
  go_loop [7] (fun i => ∃ k : Nat, k ≤ n ∧ i = .int .i64 k ∧ Hid (∀ j x, j < k → zs[j]? = some x → M.fil x = true)) (fun i => n - (intOf i).toNat)
  case atStart => exact ⟨0, Nat.zero_le _, rfl, hid (fun j x hj => absurd hj (by omega))⟩
  case round =>
    obtain ⟨k, hk, rfl, hall⟩ := hrel
    by_cases hlt : k < n
    · obtain ⟨b, off, z, rfl, hb, hz0, hz1, hzk, hc⟩ := hr.at_ hlt
      have HZ := hid hzk
      clear hzk
      by_cases h1 : z = 32
      · subst h1
        go_wp2
        go_round
        case rel => exact ⟨k + 1, by omega, by go_num, hid (M.upto_succ hall.out HZ.out (by simp [M.fil]))⟩
        case measure => simp [intOf]; omega
      · by_cases h2 : z = 0
        · subst h2
          go_wp2
          go_round
          case rel => exact ⟨k + 1, by omega, by go_num, hid (M.upto_succ hall.out HZ.out (by simp [M.fil]))⟩
          case measure => simp [intOf]; omega
        · have g1 : (z != 32) = true := by simpa using h1
          have g2 : (z != 0) = true := by simpa using h2
          have g3 : (z == 0) = false := by simpa using h2
          have g4 : (z == 32) = false := by simpa using h1
          go_wp2
          go_ret
          exact ⟨ret_bool (by rw [M.all_no HZ.out (by simp [M.fil, h1, h2])]), rfl⟩
    · go_wp2
      go_ret
      exact ⟨ret_bool (by rw [M.all_yes (fun j x hj => hall.out j x (by have := HL.out; omega))]), rfl⟩

theorem width_yes (n : Int) (w : World) (h1 : 2 ≤ n) (h2 : n ≤ 32) : Calls Try.prog 32 #[.int .i64 n] w fun e w' => e = .returned (.bool true) ∧ w = w' := by
  go_enter Try.func32, Try.ntmps32
  go_wp2
  go_ret
  exact ⟨rfl, rfl⟩
theorem width_no (n : Int) (w : World) (h : n < 2 ∨ 32 < n) : Calls Try.prog 32 #[.int .i64 n] w fun e w' => e = .returned (.bool false) ∧ w = w' := by
  rcases h with h | h
  · go_enter Try.func32, Try.ntmps32
    go_wp2
    go_ret
    exact ⟨rfl, rfl⟩
  · have h' : 2 ≤ n := by omega
    have h'' : decide (n ≤ 32) = false := by simp; omega
    go_enter Try.func32, Try.ntmps32
    go_wp2
    go_ret
    exact ⟨rfl, rfl⟩

set_option maxHeartbeats 400000 in
theorem blank_any (A : Option Addr) (n c : Nat) (zs : List Int) (w : World) (B : Nat) (hr : Rd w B A n zs) (hn : n ≤ maxLen) :
    Calls Try.prog 37 #[.slice A n c, .bool true] w fun e w' => e = .returned (.bool (zs.all M.fil)) ∧ w = w' := by
  unfold maxLen at hn
  have HL := hid hr.len
  go_enter Try.func37, Try.ntmps37
  go_wp2
  go_loop [5] (fun i => ∃ k : Nat, k ≤ n ∧ i = .int .i64 k ∧ Hid (∀ j x, j < k → zs[j]? = some x → M.fil x = true)) (fun i => n - (intOf i).toNat)
  case atStart => exact ⟨0, Nat.zero_le _, rfl, hid (fun j x hj => absurd hj (by omega))⟩
  case round =>
    obtain ⟨k, hk, rfl, hall⟩ := hrel
    by_cases hlt : k < n
    · obtain ⟨b, off, z, rfl, hb, hz0, hz1, hzk, hc⟩ := hr.at_ hlt
      have HZ := hid hzk
      clear hzk
      by_cases h1 : z = 32
      · subst h1
        go_wp2
        go_round
        case rel => exact ⟨k + 1, by omega, by go_num, hid (M.upto_succ hall.out HZ.out (by simp [M.fil]))⟩
        case measure => simp [intOf]; omega
      · by_cases h2 : z = 0
        · subst h2
          go_wp2
          go_round
          case rel => exact ⟨k + 1, by omega, by go_num, hid (M.upto_succ hall.out HZ.out (by simp [M.fil]))⟩
          case measure => simp [intOf]; omega
        · have g1 : (z != 32) = true := by simpa using h1
          have g2 : (z != 0) = true := by simpa using h2
          have g3 : (z == 0) = false := by simpa using h2
          have g4 : (z == 32) = false := by simpa using h1
          go_wp2
          go_ret
          exact ⟨ret_bool (by rw [M.all_no HZ.out (by simp [M.fil, h1, h2])]), rfl⟩
    · go_wp2
      go_ret
      exact ⟨ret_bool (by rw [M.all_yes (fun j x hj => hall.out j x (by have := HL.out; omega))]), rfl⟩
end Go.Proofs.Ytjaopghpopmmdaa
