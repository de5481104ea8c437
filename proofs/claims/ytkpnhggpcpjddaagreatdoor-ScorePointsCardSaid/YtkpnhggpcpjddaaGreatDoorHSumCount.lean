/-
  The contracts of what adds up: a byte as it counts, the closures, their sum; Unsigned and Signed.
-/
import Derived.Test.YtkpnhggpcpjddaaGreatDoorHdZero
import Derived.Test.YtkpnhggpcpjddaaGreatDoorHMa
import Derived.Test.YtkpnhggpcpjddaaGreatDoorHMr
set_option linter.unusedVariables false
set_option linter.unusedSimpArgs false
namespace Go.Proofs.YtkpnhggpcpjddaaGreatDoor
open Go.RowKit Go.Lib

set_option maxHeartbeats 400000 in
theorem counted_any (A : Option Addr) (n c : Nat) (zs : List Int) (w : World) (B : Nat) (hr : Rd w B A n zs) (hn : n ≤ maxLen) (k : Nat) (z : Int) (hk : zs[k]? = some z) :
    Calls Tryz.prog 86 #[.slice A n c, .int .i64 k] w fun e w' => e = .returned (.int .u8 (M.cu k z)) ∧ w = w' := by
  unfold maxLen at hn
  have hkn : k < n := by rw [← hr.len]; exact (List.getElem?_eq_some_iff.1 hk).1
  obtain ⟨b, off, z', rfl, hb, hz0, hz1, hzk, hc⟩ := hr.at_ hkn
  obtain rfl : z = z' := by rw [hk] at hzk; injection hzk
  clear hk hzk hb hr
  have hik : (0 : Int) ≤ k := by omega
  by_cases h1 : k < 148
  · have e1 : decide ((148 : Int) ≤ k) = false := by rw [decide_eq_false_iff_not]; omega
    have HV := hid (M.cu_out (i := k) (z := z) (.inl h1))
    go_enter Tryz.func86, Tryz.ntmps86
    go_wp2
    go_ret
    exact ⟨ret_int HV.out.symm, rfl⟩
  · by_cases h2 : k < 156
    · have e1 : decide ((148 : Int) ≤ k) = true := by rw [decide_eq_true_eq]; omega
      have e2 : decide ((k : Int) < 156) = true := by rw [decide_eq_true_eq]; omega
      have HV := hid (M.cu_in (i := k) (z := z) (by omega) h2)
      go_enter Tryz.func86, Tryz.ntmps86
      go_wp2
      go_ret
      exact ⟨ret_int HV.out.symm, rfl⟩
    · have e1 : decide ((148 : Int) ≤ k) = true := by rw [decide_eq_true_eq]; omega
      have e2 : decide ((k : Int) < 156) = false := by rw [decide_eq_false_iff_not]; omega
      have HV := hid (M.cu_out (i := k) (z := z) (.inr (by omega)))
      go_enter Tryz.func86, Tryz.ntmps86
      go_wp2
      go_ret
      exact ⟨ret_int HV.out.symm, rfl⟩

theorem i8_of (n : Int) : IntKind.i8.wrap n = (n + 128) % 256 - 128 := by
  simp [IntKind.wrap, IntKind.bits, IntKind.signed]
  omega
theorem i8_lo {v : Int} (h0 : 0 ≤ v) (h1 : v ≤ 127) : IntKind.i8.wrap v = v := by rw [i8_of]; omega
theorem i8_hi {v : Int} (h0 : 127 < v) (h1 : v ≤ 255) : IntKind.i8.wrap v = v - 256 := by rw [i8_of]; omega
theorem cs_of_cu {i : Nat} {z : Int} (h : 0 ≤ z ∧ z ≤ 255) : IntKind.i8.wrap (M.cu i z) = M.cs i z := by
  unfold M.cu M.cs
  by_cases h1 : 148 ≤ i ∧ i < 156
  · rw [if_pos h1, if_pos h1]; rfl
  · rw [if_neg h1, if_neg h1]
    by_cases h2 : 127 < z
    · rw [if_pos h2, i8_hi h2 h.2]
    · rw [if_neg h2, i8_lo h.1 (by omega)]

set_option maxHeartbeats 400000 in
theorem unsignedFn_any (A : Option Addr) (n c : Nat) (zs : List Int) (w : World) (B : Nat) (hr : Rd w B A n zs) (hn : n ≤ maxLen) (k : Nat) (z : Int) (hk : zs[k]? = some z) (p : Addr) (hp : w.cell? p = some (.slice A n c)) :
    Calls Tryz.prog 85 #[.int .i64 k, .pointer (some p)] w fun e w' => e = .returned (.int .i64 (M.cu k z)) ∧ w = w' := by
  have HC := hid (counted_any A n c zs w B hr hn k z hk)
  have hb := M.cu_bd (i := k) (hr.bd z (List.mem_of_getElem? hk))
  obtain ⟨hb0, hb1⟩ := hb
  clear hr hk
  generalize M.cu k z = v at *
  go_enter Tryz.func85, Tryz.ntmps85
  go_wp2_with fail
  (with_reducible refine HC.out.mono ?_)
  rintro e w' ⟨rfl, rfl⟩
  go_wp2
  go_ret
  exact ⟨rfl, rfl⟩

set_option maxHeartbeats 400000 in
theorem signedFn_any (A : Option Addr) (n c : Nat) (zs : List Int) (w : World) (B : Nat) (hr : Rd w B A n zs) (hn : n ≤ maxLen) (k : Nat) (z : Int) (hk : zs[k]? = some z) (p : Addr) (hp : w.cell? p = some (.slice A n c)) :
    Calls Tryz.prog 87 #[.int .i64 k, .pointer (some p)] w fun e w' => e = .returned (.int .i64 (M.cs k z)) ∧ w = w' := by
  have HC := hid (counted_any A n c zs w B hr hn k z hk)
  have hzb := hr.bd z (List.mem_of_getElem? hk)
  have hb := M.cu_bd (i := k) hzb
  have HW := hid (cs_of_cu (i := k) hzb)
  have HX : Hid (wrap64 (IntKind.i8.wrap (M.cu k z)) = M.cs k z) := hid (by
    rw [HW.out]
    have := M.cs_bd (i := k) hzb
    unfold wrap64
    omega)
  have hs := M.cs_bd (i := k) hzb
  obtain ⟨hb0, hb1⟩ := hb
  obtain ⟨hs0, hs1⟩ := hs
  clear hr hk hzb
  generalize M.cu k z = v at *
  go_enter Tryz.func87, Tryz.ntmps87
  go_wp2_with fail
  (with_reducible refine HC.out.mono ?_)
  rintro e w' ⟨rfl, rfl⟩
  go_wp2
  go_ret
  exact ⟨ret_int HX.out, rfl⟩

set_option maxHeartbeats 800000 in
theorem unsignedTog_any (A : Option Addr) (n c : Nat) (zs : List Int) (w : World) (B : Nat) (hr : Rd w B A n zs) (hs : n ≤ 65536) (p : Addr) (hp : w.cell? p = some (.slice A n c)) :
    Calls Tryz.prog 84 #[.int .i64 n, .func (.func 85) #[] #[.pointer (some p)]] w fun e w' => e = .returned (.int .i64 (M.tot M.cu 0 zs)) ∧ w = w' := by
  have HF := hid (fun (k : Nat) (z : Int) (hk : zs[k]? = some z) => unsignedFn_any A n c zs w B hr (by unfold maxLen; omega) k z hk p hp)
  have HL := hid hr.len
  have HB := hid hr.bd
  clear hr hp
  go_enter Tryz.func84, Tryz.ntmps84
  go_wp2
  go_loop [5, 8] (fun v i => ∃ k : Nat, k ≤ n ∧ i = .int .i64 k ∧ v = .int .i64 (M.tot M.cu 0 (zs.take k))) (fun _ i => n - (intOf i).toNat)
  case atStart => exact ⟨0, Nat.zero_le _, rfl, by rw [List.take_zero]; rfl⟩
  case round =>
    obtain ⟨k, hk, rfl, rfl⟩ := hrel
    by_cases hlt : k < n
    · obtain ⟨z, hz⟩ : ∃ z, zs[k]? = some z := ⟨zs[k]'(by rw [HL.out]; exact hlt), List.getElem?_eq_getElem _⟩
      have HZ := hid hz
      have HC := hid (HF.out k z hz)
      have HT := hid (M.tot_take M.cu hz)
      have hzb := HB.out z (List.mem_of_getElem? hz)
      have hqb := M.cu_bd (i := k) hzb
      have hb := M.tot_cu_bd (zs := zs.take k) 0 (fun x hx => HB.out x (List.mem_of_mem_take hx))
      have hl : (zs.take k).length ≤ k := List.length_take_le _ _
      obtain ⟨hs0, hs1⟩ := hqb
      obtain ⟨hb0, hb1⟩ := hb
      clear hz hzb
      generalize M.cu k z = q at *
      generalize M.tot M.cu 0 (zs.take k) = v at *
      have hv0 : -8388608 ≤ v := by omega
      have hv1 : v ≤ 16711680 := by omega
      clear hb0 hb1
      generalize (zs.take k).length = m at *
      go_wp2_with fail
      (with_reducible refine HC.out.mono ?_)
      rintro e w' ⟨rfl, rfl⟩
      go_wp2
      go_round
      case rel => exact ⟨k + 1, by omega, by go_num, by rw [HT.out]⟩
      case measure => simp [intOf]; omega
    · obtain rfl : k = n := by omega
      have hall : zs.take k = zs := List.take_of_length_le (by rw [HL.out]; exact Nat.le_refl _)
      rw [hall]
      clear hall
      go_wp2
      go_ret
      exact ⟨rfl, rfl⟩

set_option maxHeartbeats 800000 in
theorem signedTog_any (A : Option Addr) (n c : Nat) (zs : List Int) (w : World) (B : Nat) (hr : Rd w B A n zs) (hs : n ≤ 65536) (p : Addr) (hp : w.cell? p = some (.slice A n c)) :
    Calls Tryz.prog 84 #[.int .i64 n, .func (.func 87) #[] #[.pointer (some p)]] w fun e w' => e = .returned (.int .i64 (M.tot M.cs 0 zs)) ∧ w = w' := by
  have HF := hid (fun (k : Nat) (z : Int) (hk : zs[k]? = some z) => signedFn_any A n c zs w B hr (by unfold maxLen; omega) k z hk p hp)
  have HL := hid hr.len
  have HB := hid hr.bd
  clear hr hp
  go_enter Tryz.func84, Tryz.ntmps84
  go_wp2
  go_loop [5, 8] (fun v i => ∃ k : Nat, k ≤ n ∧ i = .int .i64 k ∧ v = .int .i64 (M.tot M.cs 0 (zs.take k))) (fun _ i => n - (intOf i).toNat)
  case atStart => exact ⟨0, Nat.zero_le _, rfl, by rw [List.take_zero]; rfl⟩
  case round =>
    obtain ⟨k, hk, rfl, rfl⟩ := hrel
    by_cases hlt : k < n
    · obtain ⟨z, hz⟩ : ∃ z, zs[k]? = some z := ⟨zs[k]'(by rw [HL.out]; exact hlt), List.getElem?_eq_getElem _⟩
      have HZ := hid hz
      have HC := hid (HF.out k z hz)
      have HT := hid (M.tot_take M.cs hz)
      have hzb := HB.out z (List.mem_of_getElem? hz)
      have hqb := M.cs_bd (i := k) hzb
      have hb := M.tot_cs_bd (zs := zs.take k) 0 (fun x hx => HB.out x (List.mem_of_mem_take hx))
      have hl : (zs.take k).length ≤ k := List.length_take_le _ _
      obtain ⟨hs0, hs1⟩ := hqb
      obtain ⟨hb0, hb1⟩ := hb
      clear hz hzb
      generalize M.cs k z = q at *
      generalize M.tot M.cs 0 (zs.take k) = v at *
      have hv0 : -8388608 ≤ v := by omega
      have hv1 : v ≤ 16711680 := by omega
      clear hb0 hb1
      generalize (zs.take k).length = m at *
      go_wp2_with fail
      (with_reducible refine HC.out.mono ?_)
      rintro e w' ⟨rfl, rfl⟩
      go_wp2
      go_round
      case rel => exact ⟨k + 1, by omega, by go_num, by rw [HT.out]⟩
      case measure => simp [intOf]; omega
    · obtain rfl : k = n := by omega
      have hall : zs.take k = zs := List.take_of_length_le (by rw [HL.out]; exact Nat.le_refl _)
      rw [hall]
      clear hall
      go_wp2
      go_ret
      exact ⟨rfl, rfl⟩
end Go.Proofs.YtkpnhggpcpjddaaGreatDoor
