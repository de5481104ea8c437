/-
  The document's Right and Line.
-/
import Derived.Test.YtefkgkdocglgaaaDoorPaxRight
import Derived.Test.YtefkgkdocglgaaaDoorPaxWidth
namespace Go.Proofs.YtefkgkdocglgaaaDoor
open Go.RowKit Go.Shelf

theorem right_no_value {s t : ByteArray} (h : (tl t).all (fun c => !(c == 0)) = false) : M.right (rc (s, t)) = false := by
  unfold M.right rc; dsimp only; rw [h, Bool.and_false]; rfl

set_option maxRecDepth 100000 in
set_option maxHeartbeats 1000000 in
theorem refRight_any' (s t : ByteArray) (hs : s.size + t.size ≤ 10000000) (w : World) :
    Calls Tryd.prog 31 #[.agg #[.string s, .string t]] w fun e w' => e = .returned (.bool (M.right (rc (s, t)))) ∧ Below w.heap.size w w' := by
  have hb : Below w.heap.size w (w.alloc (.cells #[.string s, .string t] 45)) := (Below.refl _ w).alloc (Nat.le_refl _) _
  go_enter Tryd.func31, Tryd.ntmps31
  go_wp2
  go_loop [3] (fun i => ∃ k : Nat, i = .int .i64 k ∧ k ≤ s.size ∧ ((tl s).take k).all M.keyOk = true) (fun i => s.size - (intOf i).toNat)
  case atStart => exact ⟨0, rfl, Nat.zero_le _, rfl⟩
  case round =>
    obtain ⟨k, rfl, hle, hu⟩ := hrel
    by_cases hp : k < s.size
    · have hb256 : (s[k]'hp).toNat < 256 := UInt8.toNat_lt _
      by_cases hk : M.keyOk ((tl s)[k]'hp) = true
      · have HS := Lib.hid (all_take_succ hp hu hk)
        rw [keyOk_iff, at_tl] at hk
        obtain ⟨k1, k2, k3⟩ := hk
        have e1 : decide (((s[k]'hp).toNat : Int) < 33) = false := by rw [decide_eq_false_iff_not]; omega
        have e2 : decide (((s[k]'hp).toNat : Int) > 126) = false := by rw [decide_eq_false_iff_not]; omega
        have e3 : (((s[k]'hp).toNat : Int) == 61) = false := by simp; omega
        clear hu
        go_wp2
        refine ⟨⟨k + 1, by go_num, by omega, HS.out⟩, ?_⟩
        simp [intOf]; omega
      · have hk' : M.keyOk ((tl s)[k]'hp) = false := by simpa using hk
        have HF := Lib.hid (right_no_key (t := t) (all_not hp hk'))
        rw [keyOk_iff, at_tl] at hk
        clear hk' hu
        by_cases c1 : (s[k]'hp).toNat < 33
        · have e1 : decide (((s[k]'hp).toNat : Int) < 33) = true := by rw [decide_eq_true_eq]; omega
          clear hk
          go_wp2
          go_ret
          exact ⟨ret_bool HF.out.symm, hb⟩
        · have e1 : decide (((s[k]'hp).toNat : Int) < 33) = false := by rw [decide_eq_false_iff_not]; omega
          by_cases c2 : 126 < (s[k]'hp).toNat
          · have e2 : decide (((s[k]'hp).toNat : Int) > 126) = true := by rw [decide_eq_true_eq]; omega
            clear hk
            go_wp2
            go_ret
            exact ⟨ret_bool HF.out.symm, hb⟩
          · have e2 : decide (((s[k]'hp).toNat : Int) > 126) = false := by rw [decide_eq_false_iff_not]; omega
            have e3 : (((s[k]'hp).toNat : Int) == 61) = true := by simp; omega
            clear hk
            go_wp2
            go_ret
            exact ⟨ret_bool HF.out.symm, hb⟩
    · obtain rfl : k = s.size := by omega
      have hall : (tl s).all M.keyOk = true := by rw [List.take_of_length_le (by rw [tl_len]; exact Nat.le_refl _)] at hu; exact hu
      have HR := Lib.hid (right_keys (t := t) hall)
      clear hall hu hp
      go_wp2
      go_loop [4] (fun i => ∃ k : Nat, i = .int .i64 k ∧ k ≤ t.size ∧ ((tl t).take k).all (fun c => !(c == 0)) = true) (fun i => t.size - (intOf i).toNat)
      case atStart => exact ⟨0, rfl, Nat.zero_le _, rfl⟩
      case round =>
        obtain ⟨k, rfl, hle, hu⟩ := hrel
        by_cases hp : k < t.size
        · have hb256 : (t[k]'hp).toNat < 256 := UInt8.toNat_lt _
          by_cases hk : (t[k]'hp).toNat = 0
          · have hz : (fun c : UInt8 => !(c == 0)) ((tl t)[k]'hp) = false := by
              have : t[k]'hp = 0 := UInt8.toNat_inj.1 hk
              simp [at_tl, this]
            have HF := Lib.hid (right_no_value (s := s) (all_not (p := fun c : UInt8 => !(c == 0)) hp hz))
            have e1 : (((t[k]'hp).toNat : Int) == 0) = true := by simp; omega
            clear hz hk hu
            go_wp2
            go_ret
            exact ⟨ret_bool HF.out.symm, hb⟩
          · have hz : (fun c : UInt8 => !(c == 0)) ((tl t)[k]'hp) = true := by
              have : t[k]'hp ≠ 0 := fun e => hk (by rw [e]; rfl)
              simp [at_tl, this]
            have HS := Lib.hid (all_take_succ (p := fun c : UInt8 => !(c == 0)) hp hu hz)
            have e1 : (((t[k]'hp).toNat : Int) == 0) = false := by simp; omega
            clear hz hk hu
            go_wp2
            refine ⟨⟨k + 1, by go_num, by omega, HS.out⟩, ?_⟩
            simp [intOf]; omega
        · obtain rfl : k = t.size := by omega
          have hall : (tl t).all (fun c => !(c == 0)) = true := by rw [List.take_of_length_le (by rw [tl_len]; exact Nat.le_refl _)] at hu; exact hu
          have HR2 := Lib.hid hall
          clear hall hu hp
          by_cases h0 : s.size = 0
          · have hd : (tl s).isEmpty = true := by rw [List.isEmpty_iff]; exact List.eq_nil_of_length_eq_zero h0
            have HD := Lib.hid hd
            have e0 : decide ((s.size : Int) > 0) = false := by rw [decide_eq_false_iff_not]; omega
            have e00 : decide (0 < s.size) = false := by rw [decide_eq_false_iff_not]; omega
            clear hd h0
            go_wp2
            go_ret
            refine ⟨ret_bool ?_, hb⟩
            rw [HR.out, HR2.out, HD.out]; rfl
          · have hd : (tl s).isEmpty = false := by rw [List.isEmpty_eq_false_iff]; intro e; exact h0 (by rw [← tl_len, e]; rfl)
            have HD := Lib.hid hd
            have e0 : decide ((s.size : Int) > 0) = true := by rw [decide_eq_true_eq]; omega
            have e00 : decide (0 < s.size) = true := by rw [decide_eq_true_eq]; omega
            clear hd h0
            go_wp2
            go_ret
            refine ⟨ret_bool ?_, hb⟩
            rw [HR.out, HR2.out, HD.out]; rfl

/-- A line's text. -/
def LineIs (r : R2) (w : World) (e : Ending) (w' : World) : Prop := ∃ x : ByteArray, e = .returned (.string x) ∧ tl x = M.line (rc r) ∧ x.size = M.lineLen (rc r) ∧ Below w.heap.size w w'

set_option maxRecDepth 100000 in
set_option maxHeartbeats 1000000 in
theorem refLine_any (r : R2) (hr : r.1.size + r.2.size ≤ 10000000) (B : Nat) (w : World) (hB : B ≤ w.heap.size) (ht : TB B w) :
    Calls Tryd.prog 32 #[.agg #[.string r.1, .string r.2]] w (LineIs r w) := by
  obtain ⟨s, t⟩ := r
  dsimp only at hr ⊢
  obtain ⟨x, hx⟩ : ∃ x, (⟨#[32]⟩ : ByteArray) ++ s ++ ⟨#[61]⟩ ++ t ++ ⟨#[10]⟩ = x := ⟨_, rfl⟩
  have hxl : tl x = M.body (rc (s, t)) := by
    rw [← hx, tl_append, tl_append, tl_append, tl_append]
    show [32] ++ tl s ++ [61] ++ tl t ++ [10] = 32 :: (tl s ++ 61 :: (tl t ++ [10]))
    simp
  obtain ⟨L, hL⟩ : ∃ L, L = s.size + t.size + 3 := ⟨_, rfl⟩
  have hbl : (M.body (rc (s, t))).length = L := by rw [M.body_length]; show s.size + t.size + 3 = L; omega
  have hxs : x.size = L := by rw [← tl_len, hxl, hbl]
  have hll : M.lineLen (rc (s, t)) = L + M.wid L := by unfold M.lineLen; rw [hbl]
  have hw := M.wid_pos L
  have hL2 : L ≤ 10000003 := by omega
  have HS := Lib.hid (M.wid_spec (L := L) (by omega))
  have HT := Lib.hid ht
  have HX := Lib.hid hx
  have HXL := Lib.hid hxl
  have HXS := Lib.hid hxs
  have hxs1 : x.size ≤ L := Nat.le_of_eq hxs
  have hxs2 : L ≤ x.size := Nat.le_of_eq hxs.symm
  have HLL := Lib.hid hll
  clear hL hbl hll ht hx hxl hxs
  go_enter Tryd.func32, Tryd.ntmps32
  go_wp2
  rw [HX.out]
  go_loopw [4, 5] (fun d _ wr => ∃ dn : Nat, d = .int .i64 dn ∧ 1 ≤ dn ∧ dn ≤ M.wid L ∧ Below w.heap.size w wr) (fun d _ _ => M.wid L - (intOf d).toNat)
  case atStart => exact ⟨1, rfl, Nat.le_refl _, hw.1, (Below.refl _ w).alloc (Nat.le_refl _) _⟩
  case round =>
    obtain ⟨d, rfl, hd1, hd2, hb⟩ := hrel
    have hbs := hb.size
    have C := fun (B' : Nat) (w' : World) (h2 : TB B' w') => itoa_any (x.size + d) (by omega) B' w' h2
    have e : ((x.size + d : Nat) : Int) = (x.size : Int) + (d : Int) := by omega
    rw [e] at C
    have HC := Lib.hid (C B wr (HT.out.on (hb.mono hB)))
    clear C e
    rcases Nat.lt_or_ge d (M.wid L) with hlt | hge
    · have HM := Lib.hid (M.wid_more hd1 hlt)
      go_wp2_with (go_at_call 39; refine HC.out.mono ?_; rintro e w1 ⟨y, rfl, hy, hys, hb1⟩; (have hys2 : d < y.size := by rw [hys, HXS.out]; exact HM.out); (have e1 : ((y.size : Int) == (d : Int)) = false := by simp; omega); (have e2 : (y.size == d) = false := by simp; omega); clear hy hys)
      go_roundw
      case rel => exact ⟨d + 1, by go_num, by omega, by omega, hb.trans (hb1.mono hbs)⟩
      case measure => simp [intOf]; omega
    · obtain rfl : d = M.wid L := by omega
      have H3 := Lib.hid HS.out.2.2.1
      go_wp2_with (go_at_call 39; refine HC.out.mono ?_; rintro e w1 ⟨y, rfl, hy, hys, hb1⟩; (have hys2 : y.size = M.wid L := by rw [hys, HXS.out, H3.out]); (have e1 : ((y.size : Int) == (M.wid L : Int)) = true := by simp; omega); (have e2 : (y.size == M.wid L) = true := by simp; omega); (have hys3 : y.size ≤ 8 := by omega); (have HY := Lib.hid hy); (have HYS := Lib.hid hys2); clear hy hys hys2)
      go_ret
      refine ⟨_, rfl, ?_, ?_, hb.trans (hb1.mono hbs)⟩
      · rw [tl_append, HY.out, HXL.out, HXS.out, M.line_eq, HLL.out]
      · rw [ByteArray.size_append, HYS.out, HXS.out, HLL.out, Nat.add_comm]
end Go.Proofs.YtefkgkdocglgaaaDoor
