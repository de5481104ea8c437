/-
  The document's Utf8 and Plain, their loops.
-/
import Derived.Test.YtpmhmglckeafgaaDoorUtfRef
import Derived.Tactics
namespace Go.Proofs.YtpmhmglckeafgaaDoor
open Go.RowKit Go.Shelf

def strSize : Value → Nat
  | .string r => r.size
  | _ => 0

theorem ext_drop (r : ByteArray) (k : Nat) : (r.extract k r.size).data.toList = r.data.toList.drop k := by
  simp [ByteArray.data_extract]
  rw [List.take_of_length_le]
  simp

set_option maxRecDepth 100000 in
set_option maxHeartbeats 1000000 in
theorem refUtf8_any (s : ByteArray) (w : World) :
    Calls Tryd.prog 20 #[.string s] w fun e w' => e = .returned (.bool (M.utf s.data.toList)) ∧ w = w' := by
  go_enter Tryd.func20, Tryd.ntmps20
  go_wp2
  go_loop [0] (fun v => ∃ r : ByteArray, v = .string r ∧ M.utf r.data.toList = M.utf s.data.toList ∧ r.size ≤ s.size) (fun v => strSize v)
  case atStart => exact ⟨s, rfl, rfl, Nat.le_refl _⟩
  case round =>
    obtain ⟨r, rfl, hu, hr⟩ := hrel
    by_cases h0 : r.data.toList = []
    · rw [h0, M.utf_nil] at hu
      obtain rfl : r = ⟨#[]⟩ := WideShapes.bytes_inj (by rw [h0])
      have HU := Lib.hid hu; clear hu
      clear h0 hr
      go_wp2
      go_ret
      exact ⟨ret_bool HU.out, rfl⟩
    · have hz : 0 < r.size := by rw [← len_eq]; exact List.length_pos_iff.2 h0
      have hst := M.utf_step h0
      have hf := M.long_fits h0
      rw [len_eq] at hf
      by_cases hl : M.long r.data.toList = 0
      · rw [if_pos hl, hu] at hst
        have HS := Lib.hid hst; clear hst hu h0 hf
        have HL := Lib.hid hl; clear hl
        have hd : decide ((r.size : Int) > 0) = true := by rw [decide_eq_true_eq]; omega
        go_wp2_with (go_at_call 30; refine (long_any r hz w).mono ?_; rintro e w' ⟨rfl, rfl⟩; rw [HL.out])
        go_ret
        exact ⟨ret_bool HS.out.symm, rfl⟩
      · rw [if_neg hl, hu] at hst
        have HS := Lib.hid hst; clear hst hu h0
        obtain ⟨k, hk⟩ : ∃ k, M.long r.data.toList = k := ⟨_, rfl⟩
        rw [hk] at hf hl HS
        have HK := Lib.hid hk; clear hk
        have hne : ((k : Int) == 0) = false := by simpa using hl
        have hd : decide ((r.size : Int) > 0) = true := by rw [decide_eq_true_eq]; omega
        have hk0 : 0 < k := by omega
        clear hl
        go_wp2_with (go_at_call 30; refine (long_any r hz w).mono ?_; rintro e w' ⟨rfl, rfl⟩; rw [HK.out])
        go_round
        case rel => exact ⟨_, rfl, by rw [ext_drop, ← HS.out], by simp; omega⟩
        case measure => simp [strSize]; omega

theorem noCtl_take_succ (l : List UInt8) (k : Nat) (h : k < l.length) : M.noCtl (l.take (k + 1)) = (M.noCtl (l.take k) && (!decide (M.at' l k < 32) && !decide (M.at' l k = 127))) := by
  rw [List.take_succ_eq_append_getElem h, M.noCtl_app]
  congr 1
  have e : M.at' l k = (l[k]).toNat := by unfold M.at'; rw [List.getD_eq_getElem?_getD, List.getElem?_eq_getElem h]; rfl
  rw [e]
  have e1 : decide (l[k] < 32) = decide ((l[k]).toNat < 32) := by rw [decide_eq_decide, UInt8.lt_iff_toNat_lt]; rfl
  have e2 : (l[k] == 127) = decide ((l[k]).toNat = 127) := by rw [Bool.eq_iff_iff]; simp [← UInt8.toNat_inj]
  simp [M.noCtl, e1, e2]

theorem noCtl_of_take {l : List UInt8} {k : Nat} (h : M.noCtl (l.take k) = false) : M.noCtl l = false := by
  rw [← List.take_append_drop k l, M.noCtl_app, h]; rfl

set_option maxHeartbeats 1000000 in
theorem refPlain_any (s : ByteArray) (hs : s.size ≤ 1000000) (w : World) :
    Calls Tryd.prog 21 #[.string s] w fun e w' => e = .returned (.bool (M.plain s.data.toList)) ∧ w = w' := by
  go_enter Tryd.func21, Tryd.ntmps21
  go_wp2
  go_loop [3] (fun v => ∃ k : Nat, v = .int .i64 k ∧ k ≤ s.size ∧ M.noCtl (s.data.toList.take k) = true) (fun v => s.size - (intOf v).toNat)
  case atStart => exact ⟨0, rfl, Nat.zero_le _, rfl⟩
  case round =>
    obtain ⟨k, rfl, hk, hn⟩ := hrel
    by_cases hlt : k < s.size
    · have hs1 := noCtl_take_succ s.data.toList k (by rw [len_eq]; exact hlt)
      rw [hn, Bool.true_and, at_eq s k hlt] at hs1
      have hb : (s[k]'hlt).toNat < 256 := UInt8.toNat_lt _
      have HN := Lib.hid hn; clear hn
      have HS := Lib.hid hs1; clear hs1
      go_wp2
      · have h1 : ((s[k]'hlt).toNat : Int) < 32 ∨ (((s[k]'hlt).toNat : Int) == 127) = true := by assumption
        go_ret
        refine ⟨ret_bool ?_, rfl⟩
        unfold M.plain
        rw [noCtl_of_take (k := k + 1), Bool.false_and]
        rw [HS.out]
        rcases h1 with h1 | h1
        · have : (s[k]'hlt).toNat < 32 := by omega
          simp [this]
        · have : (s[k]'hlt).toNat = 127 := by simp at h1; omega
          simp [this]
      · have h1 : 32 ≤ ((s[k]'hlt).toNat : Int) ∧ (((s[k]'hlt).toNat : Int) == 127) = false := by assumption
        refine ⟨⟨k + 1, by go_num, by omega, ?_⟩, by simp [intOf]; omega⟩
        rw [HS.out]
        have h2 : ¬ (s[k]'hlt).toNat < 32 := by omega
        have h3 : ¬ (s[k]'hlt).toNat = 127 := by have := h1.2; simp at this; omega
        simp [h2, h3]
      · have h1 : ((s[k]'hlt).toNat : Int) < 32 := by assumption
        go_ret
        refine ⟨ret_bool ?_, rfl⟩
        unfold M.plain
        rw [noCtl_of_take (k := k + 1), Bool.false_and]
        rw [HS.out]
        have : (s[k]'hlt).toNat < 32 := by omega
        simp [this]
    · obtain rfl : k = s.size := by omega
      have hn' : M.noCtl s.data.toList = true := by rw [← hn, ← len_eq, List.take_length]
      have HN := Lib.hid hn'; clear hn hn'
      go_wp2_with (go_at_call 20; refine (refUtf8_any s w).mono ?_; rintro e w' ⟨rfl, rfl⟩)
      go_ret
      exact ⟨ret_bool (by unfold M.plain; rw [HN.out, Bool.true_and]), rfl⟩
end Go.Proofs.YtpmhmglckeafgaaDoor
