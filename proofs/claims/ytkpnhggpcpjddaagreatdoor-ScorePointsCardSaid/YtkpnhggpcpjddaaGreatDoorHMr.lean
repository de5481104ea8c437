/-
  Texts of one chapter, merged.
-/
import Derived.Test.YtkpnhggpcpjddaaGreatDoorHMa
import Derived.Test.YtkpnhggpcpjddaaGreatDoorRows
import Derived.WalkKit
import Derived.Laws.BitsAllLaws
import Derived.Laws.BitsLemmas
set_option linter.unusedVariables false
set_option linter.unusedSimpArgs false
/-! The contracts of the small functions of layer 1 that read a field: how many blanks lead, how many digits, whether all else is filling, whether it is marked, and what a width is. -/
namespace Go.Proofs.YtkpnhggpcpjddaaGreatDoor
open Go.RowKit Go.Lib

theorem elem22 : Tryz.prog.elem 22 = 5 := by kernel_rfl
theorem cells5 : (Tryz.prog.info? 5).map (·.size) = some 1 := by kernel_rfl
/-- 's[l:]' of bytes, the address under one name. -/
theorem slice_from (w : World) (a : Option Addr) (len cap : Nat) (kl : IntKind) (l : Int) (h0 : 0 ≤ l) (h1 : l ≤ len) :
    (Instr.slice 22 (.slice a len cap) (some (.int kl l)) none none).run Tryz.prog w = .ok (.slice (cutA a cap l.toNat) (len - l.toNat) (cap - l.toNat)) w := by
  have ht : Tryz.prog.underlying 22 = some (.slice (Tryz.prog.elem 22)) := by rw [elem22]; exact Tryz.underlying22
  rw [run_slice_l w 22 a len cap ht kl l h0 h1, elem22]
  have hs : (sizeOf 5).run Tryz.prog w = .ok 1 w := by
    obtain ⟨i, hi, hz⟩ := Option.map_eq_some_iff.1 cells5
    simp [sizeOf, typeInfo, hi, hz]
  rw [hs]
  simp [Result.andThen, sliced, cutA]
attribute [local go_sem ↓] slice_from

set_option maxHeartbeats 400000 in
theorem blanks_any (A : Option Addr) (n c : Nat) (zs : List Int) (w : World) (B : Nat) (hr : Rd w B A n zs) (hn : n ≤ maxLen) :
    Calls Tryz.prog 100 #[.slice A n c] w fun e w' => e = .returned (.int .i64 (M.lead (· == 32) zs)) ∧ w = w' := by
  unfold maxLen at hn
  have HL := hid hr.len
  go_enter Tryz.func100, Tryz.ntmps100
  go_wp2
  go_loop [7] (fun i => ∃ k : Nat, k ≤ n ∧ i = .int .i64 k ∧ Hid (∀ j x, j < k → zs[j]? = some x → (x == 32) = true)) (fun i => n - (intOf i).toNat)
  case atStart => exact ⟨0, Nat.zero_le _, rfl, hid (fun j x hj => absurd hj (by omega))⟩
  case round =>
    obtain ⟨k, hk, rfl, hall⟩ := hrel
    by_cases hlt : k < n
    · obtain ⟨b, off, z, rfl, hb, hz0, hz1, hzk, hc⟩ := hr.at_ hlt
      have HZ := hid hzk
      clear hzk
      by_cases hz : z = 32
      · subst hz
        go_wp2
        go_round
        case rel => exact ⟨k + 1, by omega, by go_num, hid (M.upto_succ (p := (· == 32)) hall.out HZ.out rfl)⟩
        case measure => simp [intOf]; omega
      · go_wp2
        go_ret
        exact ⟨ret_int (by rw [M.lead_at (p := (· == 32)) hall.out HZ.out (by simpa using hz)]), rfl⟩
    · go_wp2
      go_ret
      have hkn : k = n := by omega
      exact ⟨ret_int (by rw [M.lead_all (p := (· == 32)) (fun j x hj => hall.out j x (by have := HL.out; omega)), HL.out]), rfl⟩

set_option maxHeartbeats 400000 in
theorem digits_any (A : Option Addr) (n c : Nat) (zs : List Int) (w : World) (B : Nat) (hr : Rd w B A n zs) (hn : n ≤ maxLen) :
    Calls Tryz.prog 101 #[.slice A n c] w fun e w' => e = .returned (.int .i64 (M.lead M.dig zs)) ∧ w = w' := by
  unfold maxLen at hn
  have HL := hid hr.len
  go_enter Tryz.func101, Tryz.ntmps101
  go_wp2
  go_loop [7] (fun i => ∃ k : Nat, k ≤ n ∧ i = .int .i64 k ∧ Hid (∀ j x, j < k → zs[j]? = some x → M.dig x = true)) (fun i => n - (intOf i).toNat)
  case atStart => exact ⟨0, Nat.zero_le _, rfl, hid (fun j x hj => absurd hj (by omega))⟩
  case round =>
    obtain ⟨k, hk, rfl, hall⟩ := hrel
    by_cases hlt : k < n
    · obtain ⟨b, off, z, rfl, hb, hz0, hz1, hzk, hc⟩ := hr.at_ hlt
      have HZ := hid hzk
      clear hzk
      by_cases h1 : z < 48
      · go_wp2
        go_ret
        exact ⟨ret_int (by rw [M.lead_at hall.out HZ.out (by simp [M.dig]; omega)]), rfl⟩
      · by_cases h2 : 55 < z
        · go_wp2
          go_ret
          exact ⟨ret_int (by rw [M.lead_at hall.out HZ.out (by simp [M.dig]; omega)]), rfl⟩
        · go_wp2
          go_round
          case rel => exact ⟨k + 1, by omega, by go_num, hid (M.upto_succ hall.out HZ.out (by simp [M.dig]; omega))⟩
          case measure => simp [intOf]; omega
    · go_wp2
      go_ret
      have hkn : k = n := by omega
      exact ⟨ret_int (by rw [M.lead_all (fun j x hj => hall.out j x (by have := HL.out; omega)), HL.out]), rfl⟩

set_option maxHeartbeats 400000 in
theorem filling_any (A : Option Addr) (n c : Nat) (zs : List Int) (w : World) (B : Nat) (hr : Rd w B A n zs) (hn : n ≤ maxLen) :
    Calls Tryz.prog 102 #[.slice A n c] w fun e w' => e = .returned (.bool (zs.all M.fil)) ∧ w = w' := by
  unfold maxLen at hn
  have HL := hid hr.len
  go_enter Tryz.func102, Tryz.ntmps102
  go_wp2
  go_loop [7] (fun i => ∃ k : Nat, k ≤ n ∧ i = .int .i64 k ∧ Hid (∀ j x, j < k → zs[j]? = some x → M.fil x = true)) (fun i => n - (intOf i).toNat)
  case atStart => exact ⟨0, Nat.zero_le _, rfl, hid (fun j x hj => absurd hj (by omega))⟩
  case round =>
    obtain ⟨k, hk, rfl, hall⟩ := hrel
    by_cases hlt : k < n
    · obtain ⟨b, off, z, rfl, hb, hz0, hz1, hzk, hc⟩ := hr.at_ hlt
      have HZ := hid hzk
      clear hzk
      by_cases h1 : z = 32
      · subst h1
        go_wp2
        go_round
        case rel => exact ⟨k + 1, by omega, by go_num, hid (M.upto_succ hall.out HZ.out (by simp [M.fil]))⟩
        case measure => simp [intOf]; omega
      · by_cases h2 : z = 0
        · subst h2
          go_wp2
          go_round
          case rel => exact ⟨k + 1, by omega, by go_num, hid (M.upto_succ hall.out HZ.out (by simp [M.fil]))⟩
          case measure => simp [intOf]; omega
        · have g1 : (z != 32) = true := by simpa using h1
          have g2 : (z != 0) = true := by simpa using h2
          have g3 : (z == 0) = false := by simpa using h2
          have g4 : (z == 32) = false := by simpa using h1
          go_wp2
          go_ret
          exact ⟨ret_bool (by rw [M.all_no HZ.out (by simp [M.fil, h1, h2])]), rfl⟩
    · go_wp2
      go_ret
      exact ⟨ret_bool (by rw [M.all_yes (fun j x hj => hall.out j x (by have := HL.out; omega))]), rfl⟩

theorem marked_no (A : Option Addr) (n c : Nat) (zs : List Int) (w : World) (B : Nat) (hr : Rd w B A n zs) (hn : n ≤ maxLen) (hm : M.marked zs = false) :
    Calls Tryz.prog 90 #[.slice A n c] w fun e w' => e = .returned (.bool false) ∧ w = w' := by
  unfold maxLen at hn
  cases zs with
  | nil =>
    obtain rfl : n = 0 := hr.len.symm
    clear hm
    go_enter Tryz.func90, Tryz.ntmps90
    go_wp2
    go_ret
    exact ⟨rfl, rfl⟩
  | cons z l =>
    have h0 : 0 < n := by have := hr.len; simp at this; omega
    obtain ⟨b, off, z', rfl, hb, hz0, hz1, hzk, hc⟩ := hr.at_ h0
    obtain rfl : z = z' := by simpa using hzk
    have hz : decide (128 ≤ z) = false := by simpa [M.marked] using hm
    clear hm hzk
    rw [Nat.add_zero] at hc
    go_enter Tryz.func90, Tryz.ntmps90
    go_wp2
    go_ret
    exact ⟨rfl, rfl⟩
theorem marked_yes (A : Option Addr) (n c : Nat) (zs : List Int) (w : World) (B : Nat) (hr : Rd w B A n zs) (hn : n ≤ maxLen) (hm : M.marked zs = true) :
    Calls Tryz.prog 90 #[.slice A n c] w fun e w' => e = .returned (.bool true) ∧ w = w' := by
  unfold maxLen at hn
  cases zs with
  | nil => simp [M.marked] at hm
  | cons z l =>
    have h0 : 0 < n := by have := hr.len; simp at this; omega
    obtain ⟨b, off, z', rfl, hb, hz0, hz1, hzk, hc⟩ := hr.at_ h0
    obtain rfl : z = z' := by simpa using hzk
    have hz : 128 ≤ z := by simpa [M.marked] using hm
    clear hm hzk
    rw [Nat.add_zero] at hc
    go_enter Tryz.func90, Tryz.ntmps90
    go_wp2
    go_ret
    exact ⟨rfl, rfl⟩

set_option maxHeartbeats 400000 in
theorem blank_any (A : Option Addr) (n c : Nat) (zs : List Int) (w : World) (B : Nat) (hr : Rd w B A n zs) (hn : n ≤ maxLen) :
    Calls Tryz.prog 78 #[.slice A n c, .bool true] w fun e w' => e = .returned (.bool (zs.all M.fil)) ∧ w = w' := by
  unfold maxLen at hn
  have HL := hid hr.len
  go_enter Tryz.func78, Tryz.ntmps78
  go_wp2
  go_loop [5] (fun i => ∃ k : Nat, k ≤ n ∧ i = .int .i64 k ∧ Hid (∀ j x, j < k → zs[j]? = some x → M.fil x = true)) (fun i => n - (intOf i).toNat)
  case atStart => exact ⟨0, Nat.zero_le _, rfl, hid (fun j x hj => absurd hj (by omega))⟩
  case round =>
    obtain ⟨k, hk, rfl, hall⟩ := hrel
    by_cases hlt : k < n
    · obtain ⟨b, off, z, rfl, hb, hz0, hz1, hzk, hc⟩ := hr.at_ hlt
      have HZ := hid hzk
      clear hzk
      by_cases h1 : z = 32
      · subst h1
        go_wp2
        go_round
        case rel => exact ⟨k + 1, by omega, by go_num, hid (M.upto_succ hall.out HZ.out (by simp [M.fil]))⟩
        case measure => simp [intOf]; omega
      · by_cases h2 : z = 0
        · subst h2
          go_wp2
          go_round
          case rel => exact ⟨k + 1, by omega, by go_num, hid (M.upto_succ hall.out HZ.out (by simp [M.fil]))⟩
          case measure => simp [intOf]; omega
        · have g1 : (z != 32) = true := by simpa using h1
          have g2 : (z != 0) = true := by simpa using h2
          have g3 : (z == 0) = false := by simpa using h2
          have g4 : (z == 32) = false := by simpa using h1
          go_wp2
          go_ret
          exact ⟨ret_bool (by rw [M.all_no HZ.out (by simp [M.fil, h1, h2])]), rfl⟩
    · go_wp2
      go_ret
      exact ⟨ret_bool (by rw [M.all_yes (fun j x hj => hall.out j x (by have := HL.out; omega))]), rfl⟩
end Go.Proofs.YtkpnhggpcpjddaaGreatDoor

/-! The contracts of Octal, the program's and the document's: of any bytes both answer the same number and the same bool. -/
namespace Go.Proofs.YtkpnhggpcpjddaaGreatDoor
open Go.RowKit Go.Lib
attribute [local go_sem ↓] slice_from

theorem ofInt_i64 (a : Nat) (ha : a < 9223372036854775808) : (BitVec.ofInt 64 (a : Int)).toNat = a := by
  rw [BitVec.ofInt_natCast, BitVec.toNat_ofNat]; exact Nat.mod_eq_of_lt (by omega)
/-- Or of a number of whole 8's and one below 8: their sum. -/
theorem i64_or_8 (x y : Int) (h0 : 0 ≤ y) (h1 : y < 8) (hx : -9223372036854775808 ≤ 8 * x) (hx' : 8 * x + y < 9223372036854775808) :
    bits .or .i64 (8 * x) y = 8 * x + y := by
  obtain ⟨y, rfl⟩ := Int.eq_ofNat_of_zero_le h0
  have ey : (BitVec.ofInt 64 ((y : Nat) : Int)).toNat = y := ofInt_i64 y (by omega)
  have ex : (BitVec.ofInt 64 (8 * x)).toNat = 2 ^ 3 * (((8 * x) % 18446744073709551616).toNat / 8) := by
    rw [BitVec.toNat_ofInt]
    show ((8 * x) % 18446744073709551616).toNat = _
    omega
  show IntKind.i64.wrap ((BitVec.ofInt 64 (8 * x) ||| BitVec.ofInt 64 (y : Int)).toNat : Int) = _
  rw [BitVec.toNat_or, ex, ey, ← Nat.two_pow_add_eq_or_of_lt (by omega), IntKind.wrap_i64]
  omega
theorem i64_or_256 (x y : Int) (h0 : 0 ≤ y) (h1 : y < 256) (hx : -9223372036854775808 ≤ 256 * x) (hx' : 256 * x + y < 9223372036854775808) :
    bits .or .i64 (256 * x) y = 256 * x + y := by
  obtain ⟨y, rfl⟩ := Int.eq_ofNat_of_zero_le h0
  have ey : (BitVec.ofInt 64 ((y : Nat) : Int)).toNat = y := ofInt_i64 y (by omega)
  have ex : (BitVec.ofInt 64 (256 * x)).toNat = 2 ^ 8 * (((256 * x) % 18446744073709551616).toNat / 256) := by
    rw [BitVec.toNat_ofInt]
    show ((256 * x) % 18446744073709551616).toNat = _
    omega
  show IntKind.i64.wrap ((BitVec.ofInt 64 (256 * x) ||| BitVec.ofInt 64 (y : Int)).toNat : Int) = _
  rw [BitVec.toNat_or, ex, ey, ← Nat.two_pow_add_eq_or_of_lt (by omega), IntKind.wrap_i64]
  omega

def ret2 (a : Int) (b : Bool) : Ending := .returned (.tuple #[.int .i64 a, .bool b])
theorem ret2_eq {a a' : Int} {b b' : Bool} (h : a = a') (h' : b = b') : Ending.returned (.tuple #[.int .i64 a, .bool b]) = .returned (.tuple #[.int .i64 a', .bool b']) := by rw [h, h']

set_option maxHeartbeats 400000 in
theorem octal_any (A : Option Addr) (n c : Nat) (zs : List Int) (w : World) (B : Nat) (hr : Rd w B A n zs) (hn : n ≤ c) (hc : c ≤ maxLen) :
    Calls Tryz.prog 83 #[.slice A n c] w fun e w' => e = .returned (.tuple #[.int .i64 (M.octN zs), .bool (M.octOk zs)]) ∧ w = w' := by
  have hm : n ≤ maxLen := Nat.le_trans hn hc
  have hb := M.lead_le (· == 32) zs
  rw [hr.len] at hb
  have hr1 := hr.cut hb hn
  rw [M.rest_eq] at hr1
  have hd := M.lead_le M.dig (M.rest zs)
  rw [hr1.len] at hd
  have hr2 := hr1.cut hd (Nat.sub_le_sub_right hn _)
  rw [M.tail_eq] at hr2
  have hrd := hr1.front hd
  rw [M.digs_eq] at hrd
  have HB := blanks_any A n c zs w B hr hm
  have HD := digits_any _ _ (c - M.lead (· == 32) zs) _ w B hr1 (by omega)
  have HF := filling_any _ _ (c - M.lead (· == 32) zs - M.lead M.dig (M.rest zs)) _ w B hr2 (by omega)
  generalize M.lead (· == 32) zs = L at *
  generalize M.lead M.dig (M.rest zs) = D at *
  unfold maxLen at hm hc
  have HB := hid HB
  have HD := hid HD
  have HF := hid HF
  clear hr1 hr2 hr
  rename_i HB0 HD0 HF0
  clear HB0 HD0 HF0
  cases hfil : (M.tail zs).all M.fil with
  | false =>
    have HFF := hid hfil
    clear hfil
    go_enter Tryz.func83, Tryz.ntmps83
    go_wp2_with fail
    refine HB.out.mono ?_
    rintro e w' ⟨rfl, rfl⟩
    go_wp2_with fail
    refine HD.out.mono ?_
    rintro e w' ⟨rfl, rfl⟩
    go_wp2_with fail
    refine HF.out.mono ?_
    rintro e w' ⟨rfl, rfl⟩
    rw [HFF.out]
    go_wp2
    go_ret2
    have hno := M.octOk_false_of_tail HFF.out
    exact ⟨ret2_eq (by rw [M.octN_no hno]) (by rw [hno]), rfl⟩
  | true =>
    have HFF := hid hfil
    clear hfil
    go_enter Tryz.func83, Tryz.ntmps83
    go_wp2_with fail
    refine HB.out.mono ?_
    rintro e w' ⟨rfl, rfl⟩
    go_wp2_with fail
    refine HD.out.mono ?_
    rintro e w' ⟨rfl, rfl⟩
    go_wp2_with fail
    refine HF.out.mono ?_
    rintro e w' ⟨rfl, rfl⟩
    rw [HFF.out]
    clear HB HD HF
    go_wp2
    go_loop [6, 21] (fun v i => ∃ k : Nat, k ≤ D ∧ i = .int .i64 k ∧ v = .int .i64 (M.val ((M.digs zs).take k)) ∧ M.val ((M.digs zs).take k) ≤ M.most) (fun _ i => D - (intOf i).toNat)
    case atStart => exact ⟨0, Nat.zero_le _, rfl, rfl, by rw [List.take_zero, M.val_nil]; decide⟩
    case round =>
      obtain ⟨k, hk, rfl, rfl, hv⟩ := hrel
      have hv0 := M.val_take_nonneg zs k
      by_cases hlt : k < D
      · obtain ⟨b, off, z, hA, hbB, hz0, hz1, hzk, hc⟩ := hrd.at_ hlt
        have hzd := M.dig_bd hzk
        have HZ := hid (M.val_succ hzk)
        have HK := hid hzk
        clear hzk
        generalize hval : M.val ((M.digs zs).take k) = v at *
        have HV := hid hval
        clear hval
        unfold M.most at hv
        rw [hA]
        go_wp2
        · go_ret2
          have hst : (4611686018427387904 - (z - 48)) / 8 < v := by assumption
          have hno : M.octOk zs = false := by
            refine M.octOk_over (M.val_over (k := k + 1) (M.digs_dig zs) ?_)
            rw [HZ.out]
            unfold M.most
            omega
          exact ⟨ret2_eq (by rw [M.octN_no hno]) (by rw [hno]), rfl⟩
        · have hgo : v ≤ (4611686018427387904 - (z - 48)) / 8 := by assumption
          have he : bits .or .i64 (v * 8) (z - 48) = 8 * v + (z - 48) := by
            rw [Int.mul_comm]
            exact i64_or_8 v (z - 48) (by omega) (by omega) (by omega) (by omega)
          go_round
          case rel => exact ⟨k + 1, by omega, by go_num, by rw [he, HZ.out], by rw [HZ.out]; unfold M.most; omega⟩
          case measure => simp [intOf]; omega
      · have hkD : k = D := by omega
        have hall : (M.digs zs).take k = M.digs zs := List.take_of_length_le (by rw [hrd.len]; omega)
        rw [hall] at hv ⊢
        clear hall
        have hyes := M.octOk_yes HFF.out hv
        have HY := hid hyes
        have HN := hid (M.octN_yes hyes)
        clear hyes hv hv0
        go_wp2
        go_ret2
        exact ⟨ret2_eq (by rw [HN.out]) (by rw [HY.out]), rfl⟩

theorem dig_no {z : Int} (h : M.dig z = false) : z < 48 ∨ 55 < z := by
  by_cases h1 : z < 48
  · exact .inl h1
  · right
    simp only [M.dig] at h
    by_cases h2 : 55 < z
    · exact h2
    · have : decide (48 ≤ z) = true := by simp; omega
      have : decide (z ≤ 55) = true := by simp; omega
      simp_all

set_option maxHeartbeats 800000 in
theorem octalRef_any (A : Option Addr) (n c : Nat) (zs : List Int) (w : World) (B : Nat) (hr : Rd w B A n zs) (hn : n ≤ c) (hc : c ≤ maxLen) :
    Calls Tryz.prog 58 #[.slice A n c] w fun e w' => e = .returned (.tuple #[.int .i64 (M.octN zs), .bool (M.octOk zs)]) ∧ w = w' := by
  have hm : n ≤ maxLen := Nat.le_trans hn hc
  have hb := M.lead_le (· == 32) zs
  rw [hr.len] at hb
  have hr1 := hr.cut hb hn
  rw [M.rest_eq] at hr1
  have hd := M.lead_le M.dig (M.rest zs)
  rw [hr1.len] at hd
  have hr2 := hr.cut (k := M.lead (· == 32) zs + M.lead M.dig (M.rest zs)) (c := c) (by omega) hn
  rw [← List.drop_drop, M.rest_eq, M.tail_eq] at hr2
  have hrd := hr1.front hd
  rw [M.digs_eq] at hrd
  have HF := hid (fun q => blank_any _ _ q _ w B hr2 (by omega))
  have HR := hid (M.rest_eq zs)
  have H32 := hid (fun (k : Nat) z => M.lead_lt (p := (· == 32)) (zs := zs) (k := k) (z := z))
  have H32e := hid (fun z => M.lead_end (p := (· == 32)) (zs := zs) (z := z))
  have HDe := hid (fun z => M.lead_end (p := M.dig) (zs := M.rest zs) (z := z))
  have HDa := hid (fun (k : Nat) z => M.digs_at (zs := zs) (k := k) (z := z))
  have HDl := hid hrd.len
  generalize hL : M.lead (· == 32) zs = L at *
  generalize hD : M.lead M.dig (M.rest zs) = D at *
  unfold maxLen at hm hc
  clear hr1 hr2 hrd hL hD
  have hone : (0 : Nat) ≤ L := Nat.zero_le _
  go_enter Tryz.func58, Tryz.ntmps58
  go_wp2
  go_loop [4] (fun i => ∃ k : Nat, k ≤ L ∧ i = .int .i64 k) (fun i => L - (intOf i).toNat)
  case atStart => exact ⟨0, Nat.zero_le _, rfl⟩
  case round =>
    obtain ⟨k, hk, rfl⟩ := hrel
    by_cases hlt : k < L
    · obtain ⟨b, off, z, hA, hbB, hz0, hz1, hzk, hc⟩ := hr.at_ (k := k) (by omega)
      obtain rfl : z = 32 := by simpa using H32.out k z hlt hzk
      clear hzk
      have hkn : k < n := by omega
      rw [hA]
      go_wp2
      go_round
      case rel => exact ⟨k + 1, by omega, by go_num⟩
      case measure => simp [intOf]; omega
    · obtain rfl : k = L := by omega
      clear hk hlt
      clear H32
      by_cases hkn : k < n
      case' pos =>
        obtain ⟨b, off, z, hA, hbB, hz0, hz1, hzk, hc⟩ := hr.at_ hkn
        have h32 : (z == 32) = false := by simpa using H32e.out z hzk
        clear hzk
        rw [hA]
        go_wp2
        rw [← hA]
        clear hA hc h32
      case' neg =>
        go_wp2
        have hkn' : k ≤ n := by omega
      all_goals
        clear hkn
        go_loop [4, 5] (fun i v => ∃ j : Nat, j ≤ D ∧ i = .int .i64 ((k + j : Nat) : Int) ∧ v = .int .i64 (M.val ((M.digs zs).take j)) ∧ M.val ((M.digs zs).take j) ≤ M.most + 7) (fun i _ => k + D - (intOf i).toNat)
        case atStart => exact ⟨0, Nat.zero_le _, rfl, rfl, by rw [List.take_zero, M.val_nil]; decide⟩
        case round =>
          obtain ⟨j, hj, rfl, rfl, hv⟩ := hrel
          have hv0 := M.val_take_nonneg zs j
          by_cases hlt : j < D
          · obtain ⟨b, off, z, hA, hbB, hz0, hz1, hzk, hc⟩ := hr.at_ (k := k + j) (by omega)
            have hzr : (M.digs zs)[j]? = some z := HDa.out j z hlt (by rw [← HR.out, List.getElem?_drop]; exact hzk)
            have hzd := M.dig_bd hzr
            have HZ := hid (M.val_succ hzr)
            clear hzr hzk
            generalize hval : M.val ((M.digs zs).take j) = v at *
            have HV := hid hval
            clear hval
            unfold M.most at hv
            have hkj : k + j < n := by omega
            by_cases hst : 576460752303423488 < v
            · rw [hA]
              go_wp2
              go_ret2
              have hno : M.octOk zs = false := by
                refine M.octOk_over (M.val_over (k := j + 1) (M.digs_dig zs) ?_)
                rw [HZ.out]
                unfold M.most
                omega
              exact ⟨ret2_eq (by rw [M.octN_no hno]) (by rw [hno]), rfl⟩
            · rw [hA]
              go_wp2
              go_round
              case rel => exact ⟨j + 1, by omega, by go_num, by rw [HZ.out]; go_num, by rw [HZ.out]; unfold M.most; omega⟩
              case measure => simp [intOf]; omega
          · have hjD : j = D := by omega
            have hall : (M.digs zs).take j = M.digs zs := List.take_of_length_le (by have := HDl.out; omega)
            rw [hall] at hv hv0 ⊢
            clear hall
            subst hjD
            clear hj hlt
            generalize hval : M.val (M.digs zs) = v at *
            have HV := hid hval
            clear hval
            unfold M.most at hv
            have hnd : ∀ z, zs[k + j]? = some z → M.dig z = false := fun z hz => HDe.out z (by rw [← HR.out, List.getElem?_drop]; exact hz)
            have HND := hid hnd
            clear hnd
            have hfin : M.octOk zs = ((M.tail zs).all M.fil && decide (v ≤ 4611686018427387904)) := by
              unfold M.octOk
              rw [HV.out]
              rfl
            have HFIN := hid hfin
            clear hfin
            by_cases hkj : k + j < n
            case' pos =>
              obtain ⟨b, off, z, hA, hbB, hz0, hz1, hzk, hc⟩ := hr.at_ (k := k + j) hkj
              have hzd := dig_no (HND.out z hzk)
              clear hzk
              subst hA
              have ecut : cutA (some ⟨b, off, none⟩) c (k + j) = some ⟨b, off + (k + j), none⟩ := by
                unfold cutA
                rw [if_neg (by omega)]
                simp only [Option.map_some, Addr.add]
                split
                · rename_i h0
                  rw [h0]
                  rfl
                · rfl
              simp only [ecut] at HF
              clear ecut
              rcases hzd with hzd | hzd
              case' inl =>
                have e1 : decide (48 ≤ z) = false := by simp; omega
              case' inr =>
                have e1 : decide (z ≤ 55) = false := by simp; omega
                have e2 : decide (48 ≤ z) = true := by simp; omega
            case' neg =>
              by_cases hck : c = k + j
              case' pos => simp only [show cutA A c (k + j) = A from if_pos hck] at HF
              case' neg => simp only [show cutA A c (k + j) = A.map (·.add (k + j)) from if_neg hck] at HF
            all_goals
              by_cases hvm : v ≤ 4611686018427387904
              case' pos =>
                have hdv : decide (v ≤ 4611686018427387904) = true := by simpa using hvm
                rw [hdv, Bool.and_true] at HFIN
                clear hdv
                cases hfil : (M.tail zs).all M.fil
                case' false =>
                  simp only [hfil] at HF HFIN
                  clear hfil
                  have HN := hid (M.octN_no HFIN.out)
                  go_wp2_with fail
                  (with_reducible refine (HF.out _).mono ?_)
                  rintro e w' ⟨rfl, rfl⟩
                  go_wp2
                case' true =>
                  simp only [hfil] at HF HFIN
                  clear hfil
                  have HN := hid (M.octN_yes HFIN.out)
                  rw [HV.out] at HN
                  go_wp2_with fail
                  (with_reducible refine (HF.out _).mono ?_)
                  rintro e w' ⟨rfl, rfl⟩
                  go_wp2
              case' neg =>
                have hdv : decide (v ≤ 4611686018427387904) = false := by simpa using hvm
                rw [hdv, Bool.and_false] at HFIN
                clear hdv
                have HN := hid (M.octN_no HFIN.out)
                go_wp2
              all_goals
                go_ret2
                exact ⟨ret2_eq (by rw [HN.out]) (by rw [HFIN.out]), rfl⟩
end Go.Proofs.YtkpnhggpcpjddaaGreatDoor

/-! The contracts of Binary and Parse, the program's and the document's: of any bytes both answer the same number and the same bool. -/
namespace Go.Proofs.YtkpnhggpcpjddaaGreatDoor
open Go.RowKit Go.Lib
attribute [local go_sem ↓] slice_from

theorem first_of (z : Int) (h : 128 ≤ z) (h' : z ≤ 255) : wrap64 (IntKind.i8.wrap (z * 2 % 256) / 2) = M.first z := by
  obtain ⟨n, rfl⟩ := Int.eq_ofNat_of_zero_le (by omega : 0 ≤ z)
  have h1 : n < 256 := by omega
  have h2 : 128 ≤ n := by omega
  clear h h'
  have : ∀ m : Fin 256, 128 ≤ m.val → wrap64 (IntKind.i8.wrap ((m.val : Int) * 2 % 256) / 2) = M.first (m.val : Int) := by decide +kernel
  exact this ⟨n, h1⟩ h2
theorem first_lo (z : Int) (h : 128 ≤ z) (h' : z ≤ 255) : -64 ≤ M.first z := by unfold M.first; split <;> omega
theorem first_hi (z : Int) (h : 128 ≤ z) (h' : z ≤ 255) : M.first z ≤ 63 := by unfold M.first; split <;> omega

set_option maxHeartbeats 400000 in
theorem binary_any (A : Option Addr) (n c : Nat) (zs : List Int) (w : World) (B : Nat) (hr : Rd w B A n zs) (hn : n ≤ c) (hc : c ≤ maxLen) :
    Calls Tryz.prog 91 #[.slice A n c] w fun e w' => e = .returned (.tuple #[.int .i64 (M.binN zs), .bool (M.binOk zs)]) ∧ w = w' := by
  have hm : n ≤ maxLen := Nat.le_trans hn hc
  cases hmk : M.marked zs with
  | false =>
    have HM := hid (marked_no A n c zs w B hr hm hmk)
    have hno : M.binOk zs = false := by simp [M.binOk, hmk]
    have HO := hid hno
    have HN := hid (M.binN_no hno)
    clear hmk hno
    go_enter Tryz.func91, Tryz.ntmps91
    go_wp2_with fail
    (with_reducible refine HM.out.mono ?_)
    rintro e w' ⟨rfl, rfl⟩
    go_wp2
    go_ret2
    exact ⟨ret2_eq (by rw [HN.out]) (by rw [HO.out]), rfl⟩
  | true =>
    have HM := hid (marked_yes A n c zs w B hr hm hmk)
    match zs, hmk with
    | z :: l, hmk =>
    have hz : 128 ≤ z := by simpa [M.marked] using hmk
    clear hmk
    have h0 : 0 < n := by have := hr.len; simp at this; omega
    have hr1 := hr.cut (k := 1) (by omega) hn
    simp only [List.drop_succ_cons, List.drop_zero] at hr1
    have hlb := hr1.bd
    have hll := hr1.len
    obtain ⟨b, off, z', hA, hbB, hz0, hz1, hzk, hcz⟩ := hr.at_ h0
    obtain rfl : z = z' := by simpa using hzk
    clear hzk
    rw [Nat.add_zero] at hcz
    clear hr
    subst hA
    unfold maxLen at hm hc
    have h1 : (1 : Int) ≤ (n : Int) := by omega
    have HLB := hid hlb
    have HLL := hid hll
    clear hlb hll
    go_enter Tryz.func91, Tryz.ntmps91
    go_wp2_with fail
    (with_reducible refine HM.out.mono ?_)
    rintro e w' ⟨rfl, rfl⟩
    go_wp2
    rw [first_of z hz hz1]
    have hf0 := first_lo z hz hz1
    have hf1 := first_hi z hz hz1
    go_loop [4, 20] (fun v i => ∃ k : Nat, k ≤ n - 1 ∧ i = .int .i64 k ∧ v = .int .i64 (M.bits z (l.take k)) ∧ -M.most ≤ M.bits z (l.take k) ∧ M.bits z (l.take k) ≤ M.most + 255) (fun _ i => n - 1 - (intOf i).toNat)
    case atStart => exact ⟨0, Nat.zero_le _, rfl, rfl, by show _ ≤ M.first z; unfold M.most; omega, by show M.first z ≤ _; unfold M.most; omega⟩
    case round =>
      obtain ⟨k, hk, rfl, rfl, hv0, hv1⟩ := hrel
      by_cases hlt : k < n - 1
      · · obtain ⟨b', off', y, hA', hbB', hy0, hy1, hyk, hcy⟩ := hr1.at_ hlt
          have eA : cutA (some ⟨b, off, none⟩) c 1 = some ⟨b, off + 1, none⟩ := by
            unfold cutA
            rw [if_neg (by omega)]
            rfl
          rw [eA] at hA' ⊢
          injection hA' with hA'
          injection hA' with h1' h2'
          subst h1'
          subst h2'
          clear eA
          have HZ : Hid (M.bits z (l.take (k + 1)) = 256 * M.bits z (l.take k) + y) := hid (by rw [M.take_snoc' hyk, M.bits_snoc])
          clear hyk
          have HST := hid (fun h => M.bits_stop (z := z) (l := l) (k := k) (by have := HLL.out; omega) HLB.out h)
          generalize hval : M.bits z (l.take k) = v at *
          have HV := hid hval
          clear hval
          unfold M.most at hv0 hv1
          by_cases hst : 18014398509481984 < v
          · have hno : M.binOk (z :: l) = false := by
              unfold M.binOk
              rcases HST.out (.inl hst) with h | h
              · rw [show decide (M.binV (z :: l) ≤ M.most) = false by rw [decide_eq_false_iff_not]; show ¬ M.bits z l ≤ _; omega]; simp
              · rw [show decide (-M.most ≤ M.binV (z :: l)) = false by rw [decide_eq_false_iff_not]; show ¬ _ ≤ M.bits z l; omega]; simp
            have HO := hid hno
            have HN := hid (M.binN_no hno)
            clear hno
            go_wp2
            go_ret2
            exact ⟨ret2_eq (by rw [HN.out]) (by rw [HO.out]), rfl⟩
          · by_cases hst' : v < -18014398509481984
            · have hno : M.binOk (z :: l) = false := by
                unfold M.binOk
                rcases HST.out (.inr hst') with h | h
                · rw [show decide (M.binV (z :: l) ≤ M.most) = false by rw [decide_eq_false_iff_not]; show ¬ M.bits z l ≤ _; omega]; simp
                · rw [show decide (-M.most ≤ M.binV (z :: l)) = false by rw [decide_eq_false_iff_not]; show ¬ _ ≤ M.bits z l; omega]; simp
              have HO := hid hno
              have HN := hid (M.binN_no hno)
              clear hno
              go_wp2
              go_ret2
              exact ⟨ret2_eq (by rw [HN.out]) (by rw [HO.out]), rfl⟩
            · have e1 : decide (v < -18014398509481984) = false := by simpa using hst'
              go_wp2
              have he : bits .or .i64 (v * 256) y = 256 * v + y := by
                rw [Int.mul_comm]
                exact i64_or_256 v y (by omega) (by omega) (by omega) (by omega)
              go_round
              case rel => exact ⟨k + 1, by omega, by go_num, by rw [he, HZ.out], by rw [HZ.out]; unfold M.most; omega, by rw [HZ.out]; unfold M.most; omega⟩
              case measure => simp [intOf]; omega
      · have hall : l.take k = l := List.take_of_length_le (by have := HLL.out; omega)
        rw [hall] at hv0 hv1 ⊢
        clear hall
        have hbv : M.binV (z :: l) = M.bits z l := rfl
        have hmk : M.marked (z :: l) = true := by simpa [M.marked] using hz
        by_cases hend : M.most < M.bits z l
        · have hno : M.binOk (z :: l) = false := by
            unfold M.binOk
            rw [hbv, show decide (M.bits z l ≤ M.most) = false by rw [decide_eq_false_iff_not]; omega]
            simp
          have HO := hid hno
          have HN := hid (M.binN_no hno)
          clear hno hbv hmk
          generalize M.bits z l = v at *
          unfold M.most at hv0 hv1 hend
          go_wp2
          go_ret2
          exact ⟨ret2_eq (by rw [HN.out]) (by rw [HO.out]), rfl⟩
        · have hyes : M.binOk (z :: l) = true := by
            unfold M.binOk
            rw [hbv, hmk, show decide (M.bits z l ≤ M.most) = true by rw [decide_eq_true_eq]; omega, show decide (-M.most ≤ M.bits z l) = true by rw [decide_eq_true_eq]; omega]
            rfl
          have HO := hid hyes
          have HN := hid (M.binN_yes hyes)
          rw [hbv] at HN
          clear hyes hbv hmk
          generalize M.bits z l = v at *
          unfold M.most at hv0 hv1 hend
          go_wp2
          go_ret2
          exact ⟨ret2_eq (by rw [HN.out]) (by rw [HO.out]), rfl⟩

theorem firstRef_lo (z : Int) (h : 192 ≤ z) : z - 128 - 128 = M.first z := by unfold M.first; rw [if_neg (by omega)]; omega
theorem firstRef_hi (z : Int) (h : z < 192) : z - 128 = M.first z := by unfold M.first; rw [if_pos h]
theorem binOk_end (z : Int) (l : List Int) (hz : 128 ≤ z) : M.binOk (z :: l) = (decide (-4611686018427387904 ≤ M.bits z l) && decide (M.bits z l ≤ 4611686018427387904)) := by
  show (decide (128 ≤ z) && _) = _
  rw [show decide (128 ≤ z) = true by simpa using hz]
  rfl

set_option maxHeartbeats 800000 in
theorem binaryRef_any (A : Option Addr) (n c : Nat) (zs : List Int) (w : World) (B : Nat) (hr : Rd w B A n zs) (hn : n ≤ c) (hc : c ≤ maxLen) :
    Calls Tryz.prog 80 #[.slice A n c] w fun e w' => e = .returned (.tuple #[.int .i64 (M.binN zs), .bool (M.binOk zs)]) ∧ w = w' := by
  have hm : n ≤ maxLen := Nat.le_trans hn hc
  unfold maxLen at hm hc
  match zs with
  | [] =>
    obtain rfl : n = 0 := hr.len.symm
    clear hr
    go_enter Tryz.func80, Tryz.ntmps80
    go_wp2
    go_ret2
    exact ⟨ret2_eq rfl rfl, rfl⟩
  | z :: l =>
  have h0 : 0 < n := by have := hr.len; simp at this; omega
  have hlb := hr.bd
  have hll : l.length + 1 = n := by have := hr.len; simpa using this
  obtain ⟨b, off, z', hA, hbB, hz0, hz1, hzk, hcz⟩ := hr.at_ h0
  obtain rfl : z = z' := by simpa using hzk
  clear hzk
  rw [Nat.add_zero] at hcz
  subst hA
  have HLB : Hid (∀ c ∈ l, 0 ≤ c ∧ c ≤ 255) := hid fun c hc => hlb c (by simp [hc])
  have HLL := hid hll
  clear hlb hll
  have hn0 : ((n : Int) == 0) = false := by simp; omega
  by_cases hz : z < 128
  · have hno : M.binOk (z :: l) = false := by
      have : M.marked (z :: l) = false := by simp [M.marked]; omega
      simp [M.binOk, this]
    have HO := hid hno
    have HN := hid (M.binN_no hno)
    clear hno
    have hd : decide (z < 128) = true := by simpa using hz
    go_enter Tryz.func80, Tryz.ntmps80
    go_wp2
    go_ret2
    exact ⟨ret2_eq (by rw [HN.out]) (by rw [HO.out]), rfl⟩
  · have hd : decide (z < 128) = false := by simpa using hz
    have HOE := hid (binOk_end z l (by omega))
    have hf0 := first_lo z (by omega) hz1
    have hf1 := first_hi z (by omega) hz1
    by_cases h192 : z < 192
    case' pos =>
      have HF := hid (firstRef_hi z h192)
      have h64 : z - 128 < 64 := by omega
      clear h192
      go_enter Tryz.func80, Tryz.ntmps80
      go_wp2
      rw [HF.out]
    case' neg =>
      have HF := hid (firstRef_lo z (by omega))
      have h64 : 64 ≤ z - 128 := by omega
      clear h192
      go_enter Tryz.func80, Tryz.ntmps80
      go_wp2
      rw [HF.out]
    all_goals
      clear h64 hd
      go_loop [4, 5] (fun v i => ∃ k : Nat, k ≤ n - 1 ∧ i = .int .i64 ((k + 1 : Nat) : Int) ∧ v = .int .i64 (M.bits z (l.take k)) ∧ -M.most - 256 ≤ M.bits z (l.take k) ∧ M.bits z (l.take k) ≤ M.most + 255) (fun _ i => n - (intOf i).toNat)
      case atStart => exact ⟨0, Nat.zero_le _, rfl, rfl, by show _ ≤ M.first z; unfold M.most; omega, by show M.first z ≤ _; unfold M.most; omega⟩
      case round =>
        obtain ⟨k, hk, rfl, rfl, hv0, hv1⟩ := hrel
        by_cases hlt : k < n - 1
        · obtain ⟨b', off', y, hA', hbB', hy0, hy1, hyk, hcy⟩ := hr.at_ (k := k + 1) (by omega)
          injection hA' with hA'
          injection hA' with h1' h2'
          subst h1'
          subst h2'
          have hyk' : l[k]? = some y := by simpa using hyk
          have HZ : Hid (M.bits z (l.take (k + 1)) = 256 * M.bits z (l.take k) + y) := hid (by rw [M.take_snoc' hyk', M.bits_snoc])
          clear hyk hyk'
          have HST := hid (fun h => M.bits_stop (z := z) (l := l) (k := k) (by have := HLL.out; omega) HLB.out h)
          generalize hval : M.bits z (l.take k) = v at *
          have HV := hid hval
          clear hval
          unfold M.most at hv0 hv1
          by_cases hst : 18014398509481984 < v ∨ v < -18014398509481985
          · have hno : M.binOk (z :: l) = false := by
              rw [HOE.out]
              rcases HST.out (by omega) with h | h
              · unfold M.most at h
                rw [show decide (M.bits z l ≤ 4611686018427387904) = false by rw [decide_eq_false_iff_not]; omega]; simp
              · unfold M.most at h
                rw [show decide (-4611686018427387904 ≤ M.bits z l) = false by rw [decide_eq_false_iff_not]; omega]; simp
            have HO := hid hno
            have HN := hid (M.binN_no hno)
            clear hno
            rcases hst with hst | hst
            · go_wp2
              go_ret2
              exact ⟨ret2_eq (by rw [HN.out]) (by rw [HO.out]), rfl⟩
            · have hst' : ¬ 18014398509481984 < v := by omega
              have e1 : decide (v < -18014398509481985) = true := by simpa using hst
              go_wp2
              go_ret2
              exact ⟨ret2_eq (by rw [HN.out]) (by rw [HO.out]), rfl⟩
          · have hst' : ¬ 18014398509481984 < v := by omega
            have hst'' : -18014398509481985 ≤ v := by omega
            have e1 : decide (v < -18014398509481985) = false := by simpa using hst''
            clear hst
            go_wp2
            go_round
            case rel => exact ⟨k + 1, by omega, by go_num, by rw [HZ.out], by rw [HZ.out]; unfold M.most; omega, by rw [HZ.out]; unfold M.most; omega⟩
            case measure => simp [intOf]; omega
        · have hall : l.take k = l := List.take_of_length_le (by have := HLL.out; omega)
          rw [hall] at hv0 hv1 ⊢
          clear hall
          have hbv : M.binV (z :: l) = M.bits z l := rfl
          have HBV := hid hbv
          clear hbv
          generalize M.bits z l = v at *
          unfold M.most at hv0 hv1
          by_cases hend : 4611686018427387904 < v
          · have hno : M.binOk (z :: l) = false := by
              rw [HOE.out, show decide (v ≤ 4611686018427387904) = false by rw [decide_eq_false_iff_not]; omega]
              simp
            have HO := hid hno
            have HN := hid (M.binN_no hno)
            clear hno
            go_wp2
            go_ret2
            exact ⟨ret2_eq (by rw [HN.out]) (by rw [HO.out]), rfl⟩
          · by_cases hend' : v < -4611686018427387904
            · have hno : M.binOk (z :: l) = false := by
                rw [HOE.out, show decide (-4611686018427387904 ≤ v) = false by rw [decide_eq_false_iff_not]; omega]
                simp
              have HO := hid hno
              have HN := hid (M.binN_no hno)
              clear hno
              have e1 : decide (v < -4611686018427387904) = true := by simpa using hend'
              go_wp2
              go_ret2
              exact ⟨ret2_eq (by rw [HN.out]) (by rw [HO.out]), rfl⟩
            · have hyes : M.binOk (z :: l) = true := by
                rw [HOE.out, show decide (v ≤ 4611686018427387904) = true by rw [decide_eq_true_eq]; omega, show decide (-4611686018427387904 ≤ v) = true by rw [decide_eq_true_eq]; omega]
                rfl
              have HO := hid hyes
              have HN := hid (M.binN_yes hyes)
              rw [HBV.out] at HN
              clear hyes
              have e1 : decide (v < -4611686018427387904) = false := by simpa using hend'
              go_wp2
              go_ret2
              exact ⟨ret2_eq (by rw [HN.out]) (by rw [HO.out]), rfl⟩

/-! ### Parse -/
def parN (zs : List Int) : Int := if M.marked zs then M.binN zs else M.octN zs
def parOk (zs : List Int) : Bool := if M.marked zs then M.binOk zs else M.octOk zs

theorem parse_any (A : Option Addr) (n c : Nat) (zs : List Int) (w : World) (B : Nat) (hr : Rd w B A n zs) (hn : n ≤ c) (hc : c ≤ maxLen) :
    Calls Tryz.prog 73 #[.slice A n c] w fun e w' => e = .returned (.tuple #[.int .i64 (parN zs), .bool (parOk zs)]) ∧ w = w' := by
  have HB := hid (binary_any A n c zs w B hr hn hc)
  have HO := hid (octal_any A n c zs w B hr hn hc)
  cases hm : M.marked zs with
  | true =>
    have HM := hid (marked_yes A n c zs w B hr (Nat.le_trans hn hc) hm)
    have HN : Hid (parN zs = M.binN zs) := hid (by simp [parN, hm])
    have HK : Hid (parOk zs = M.binOk zs) := hid (by simp [parOk, hm])
    clear hm hr hn hc
    go_enter Tryz.func73, Tryz.ntmps73
    go_wp2_with fail
    (with_reducible refine HM.out.mono ?_)
    rintro e w' ⟨rfl, rfl⟩
    go_wp2_with fail
    (with_reducible refine HB.out.mono ?_)
    rintro e w' ⟨rfl, rfl⟩
    go_wp2
    go_ret2
    exact ⟨ret2_eq (by rw [HN.out]) (by rw [HK.out]), rfl⟩
  | false =>
    have HM := hid (marked_no A n c zs w B hr (Nat.le_trans hn hc) hm)
    have HN : Hid (parN zs = M.octN zs) := hid (by simp [parN, hm])
    have HK : Hid (parOk zs = M.octOk zs) := hid (by simp [parOk, hm])
    clear hm hr hn hc
    go_enter Tryz.func73, Tryz.ntmps73
    go_wp2_with fail
    (with_reducible refine HM.out.mono ?_)
    rintro e w' ⟨rfl, rfl⟩
    go_wp2_with fail
    (with_reducible refine HO.out.mono ?_)
    rintro e w' ⟨rfl, rfl⟩
    go_wp2
    go_ret2
    exact ⟨ret2_eq (by rw [HN.out]) (by rw [HK.out]), rfl⟩

theorem parseRef_any (A : Option Addr) (n c : Nat) (zs : List Int) (w : World) (B : Nat) (hr : Rd w B A n zs) (hn : n ≤ c) (hc : c ≤ maxLen) :
    Calls Tryz.prog 61 #[.slice A n c] w fun e w' => e = .returned (.tuple #[.int .i64 (parN zs), .bool (parOk zs)]) ∧ w = w' := by
  have HB := hid (binaryRef_any A n c zs w B hr hn hc)
  have HO := hid (octalRef_any A n c zs w B hr hn hc)
  unfold maxLen at hc
  match zs with
  | [] =>
    obtain rfl : n = 0 := hr.len.symm
    have HN : Hid (parN [] = M.octN []) := hid rfl
    have HK : Hid (parOk [] = M.octOk []) := hid rfl
    clear hr
    go_enter Tryz.func61, Tryz.ntmps61
    go_wp2_with fail
    (with_reducible refine HO.out.mono ?_)
    rintro e w' ⟨rfl, rfl⟩
    go_wp2
    go_ret2
    exact ⟨ret2_eq (by rw [HN.out]) (by rw [HK.out]), rfl⟩
  | z :: l =>
    have h0 : 0 < n := by have := hr.len; simp at this; omega
    obtain ⟨b, off, z', hA, hbB, hz0, hz1, hzk, hcz⟩ := hr.at_ h0
    obtain rfl : z = z' := by simpa using hzk
    clear hzk
    rw [Nat.add_zero] at hcz
    subst hA
    clear hr
    by_cases hz : 128 ≤ z
    · have hm : M.marked (z :: l) = true := by simpa [M.marked] using hz
      have HN : Hid (parN (z :: l) = M.binN (z :: l)) := hid (by simp [parN, hm])
      have HK : Hid (parOk (z :: l) = M.binOk (z :: l)) := hid (by simp [parOk, hm])
      clear hm
      have hd : decide (128 ≤ z) = true := by simpa using hz
      go_enter Tryz.func61, Tryz.ntmps61
      go_wp2_with fail
      (with_reducible refine HB.out.mono ?_)
      rintro e w' ⟨rfl, rfl⟩
      go_wp2
      go_ret2
      exact ⟨ret2_eq (by rw [HN.out]) (by rw [HK.out]), rfl⟩
    · have hm : M.marked (z :: l) = false := by simp [M.marked]; omega
      have HN : Hid (parN (z :: l) = M.octN (z :: l)) := hid (by simp [parN, hm])
      have HK : Hid (parOk (z :: l) = M.octOk (z :: l)) := hid (by simp [parOk, hm])
      clear hm
      have hd : decide (128 ≤ z) = false := by simpa using hz
      go_enter Tryz.func61, Tryz.ntmps61
      go_wp2_with fail
      (with_reducible refine HO.out.mono ?_)
      rintro e w' ⟨rfl, rfl⟩
      go_wp2
      go_ret2
      exact ⟨ret2_eq (by rw [HN.out]) (by rw [HK.out]), rfl⟩
end Go.Proofs.YtkpnhggpcpjddaaGreatDoor
