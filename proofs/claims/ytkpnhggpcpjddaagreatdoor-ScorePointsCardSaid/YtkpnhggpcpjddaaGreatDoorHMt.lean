/-
  Texts of one chapter, merged.
-/
import Derived.Test.YtkpnhggpcpjddaaGreatDoorHMb
import Derived.Tactics
import Derived.Laws.RangeString
import Derived.Laws.RangeAny
import Derived.Below
set_option linter.unusedVariables false
set_option linter.unusedSimpArgs false
/-! The document's Utf8 and Plain, their loops. -/
namespace Go.Proofs.YtkpnhggpcpjddaaGreatDoor.S
open Go.RowKit Go.Shelf

def strSize : Value → Nat
  | .string r => r.size
  | _ => 0

theorem ext_drop (r : ByteArray) (k : Nat) : (r.extract k r.size).data.toList = r.data.toList.drop k := by
  simp [ByteArray.data_extract]
  rw [List.take_of_length_le]
  simp

set_option maxRecDepth 100000 in
set_option maxHeartbeats 1000000 in
theorem refUtf8_any (s : ByteArray) (w : World) :
    Calls Tryz.prog 60 #[.string s] w fun e w' => e = .returned (.bool (M.utf s.data.toList)) ∧ w = w' := by
  go_enter Tryz.func60, Tryz.ntmps60
  go_wp2
  go_loop [0] (fun v => ∃ r : ByteArray, v = .string r ∧ M.utf r.data.toList = M.utf s.data.toList ∧ r.size ≤ s.size) (fun v => strSize v)
  case atStart => exact ⟨s, rfl, rfl, Nat.le_refl _⟩
  case round =>
    obtain ⟨r, rfl, hu, hr⟩ := hrel
    by_cases h0 : r.data.toList = []
    · rw [h0, M.utf_nil] at hu
      obtain rfl : r = ⟨#[]⟩ := WideShapes.bytes_inj (by rw [h0])
      have HU := Lib.hid hu; clear hu
      clear h0 hr
      go_wp2
      go_ret
      exact ⟨ret_bool HU.out, rfl⟩
    · have hz : 0 < r.size := by rw [← len_eq]; exact List.length_pos_iff.2 h0
      have hst := M.utf_step h0
      have hf := M.long_fits h0
      rw [len_eq] at hf
      by_cases hl : M.long r.data.toList = 0
      · rw [if_pos hl, hu] at hst
        have HS := Lib.hid hst; clear hst hu h0 hf
        have HL := Lib.hid hl; clear hl
        have hd : decide ((r.size : Int) > 0) = true := by rw [decide_eq_true_eq]; omega
        go_wp2_with (go_at_call 79; refine (long_any r hz w).mono ?_; rintro e w' ⟨rfl, rfl⟩; rw [HL.out])
        go_ret
        exact ⟨ret_bool HS.out.symm, rfl⟩
      · rw [if_neg hl, hu] at hst
        have HS := Lib.hid hst; clear hst hu h0
        obtain ⟨k, hk⟩ : ∃ k, M.long r.data.toList = k := ⟨_, rfl⟩
        rw [hk] at hf hl HS
        have HK := Lib.hid hk; clear hk
        have hne : ((k : Int) == 0) = false := by simpa using hl
        have hd : decide ((r.size : Int) > 0) = true := by rw [decide_eq_true_eq]; omega
        have hk0 : 0 < k := by omega
        clear hl
        go_wp2_with (go_at_call 79; refine (long_any r hz w).mono ?_; rintro e w' ⟨rfl, rfl⟩; rw [HK.out])
        go_round
        case rel => exact ⟨_, rfl, by rw [ext_drop, ← HS.out], by simp; omega⟩
        case measure => simp [strSize]; omega

theorem noCtl_take_succ (l : List UInt8) (k : Nat) (h : k < l.length) : M.noCtl (l.take (k + 1)) = (M.noCtl (l.take k) && (!decide (M.at' l k < 32) && !decide (M.at' l k = 127))) := by
  rw [List.take_succ_eq_append_getElem h, M.noCtl_app]
  congr 1
  have e : M.at' l k = (l[k]).toNat := by unfold M.at'; rw [List.getD_eq_getElem?_getD, List.getElem?_eq_getElem h]; rfl
  rw [e]
  have e1 : decide (l[k] < 32) = decide ((l[k]).toNat < 32) := by rw [decide_eq_decide, UInt8.lt_iff_toNat_lt]; rfl
  have e2 : (l[k] == 127) = decide ((l[k]).toNat = 127) := by rw [Bool.eq_iff_iff]; simp [← UInt8.toNat_inj]
  simp [M.noCtl, e1, e2]

theorem noCtl_of_take {l : List UInt8} {k : Nat} (h : M.noCtl (l.take k) = false) : M.noCtl l = false := by
  rw [← List.take_append_drop k l, M.noCtl_app, h]; rfl

set_option maxHeartbeats 1000000 in
theorem refPlain_any (s : ByteArray) (hs : s.size ≤ 1000000) (w : World) :
    Calls Tryz.prog 27 #[.string s] w fun e w' => e = .returned (.bool (M.plain s.data.toList)) ∧ w = w' := by
  go_enter Tryz.func27, Tryz.ntmps27
  go_wp2
  go_loop [3] (fun v => ∃ k : Nat, v = .int .i64 k ∧ k ≤ s.size ∧ M.noCtl (s.data.toList.take k) = true) (fun v => s.size - (intOf v).toNat)
  case atStart => exact ⟨0, rfl, Nat.zero_le _, rfl⟩
  case round =>
    obtain ⟨k, rfl, hk, hn⟩ := hrel
    by_cases hlt : k < s.size
    · have hs1 := noCtl_take_succ s.data.toList k (by rw [len_eq]; exact hlt)
      rw [hn, Bool.true_and, at_eq s k hlt] at hs1
      have hb : (s[k]'hlt).toNat < 256 := UInt8.toNat_lt _
      have HN := Lib.hid hn; clear hn
      have HS := Lib.hid hs1; clear hs1
      go_wp2
      · have h1 : ((s[k]'hlt).toNat : Int) < 32 ∨ (((s[k]'hlt).toNat : Int) == 127) = true := by assumption
        go_ret
        refine ⟨ret_bool ?_, rfl⟩
        unfold M.plain
        rw [noCtl_of_take (k := k + 1), Bool.false_and]
        rw [HS.out]
        rcases h1 with h1 | h1
        · have : (s[k]'hlt).toNat < 32 := by omega
          simp [this]
        · have : (s[k]'hlt).toNat = 127 := by simp at h1; omega
          simp [this]
      · have h1 : 32 ≤ ((s[k]'hlt).toNat : Int) ∧ (((s[k]'hlt).toNat : Int) == 127) = false := by assumption
        refine ⟨⟨k + 1, by go_num, by omega, ?_⟩, by simp [intOf]; omega⟩
        rw [HS.out]
        have h2 : ¬ (s[k]'hlt).toNat < 32 := by omega
        have h3 : ¬ (s[k]'hlt).toNat = 127 := by have := h1.2; simp at this; omega
        simp [h2, h3]
      · have h1 : ((s[k]'hlt).toNat : Int) < 32 := by assumption
        go_ret
        refine ⟨ret_bool ?_, rfl⟩
        unfold M.plain
        rw [noCtl_of_take (k := k + 1), Bool.false_and]
        rw [HS.out]
        have : (s[k]'hlt).toNat < 32 := by omega
        simp [this]
    · obtain rfl : k = s.size := by omega
      have hn' : M.noCtl s.data.toList = true := by rw [← hn, ← len_eq, List.take_length]
      have HN := Lib.hid hn'; clear hn hn'
      go_wp2_with (go_at_call 60; refine (refUtf8_any s w).mono ?_; rintro e w' ⟨rfl, rfl⟩)
      go_ret
      exact ⟨ret_bool (by unfold M.plain; rw [HN.out, Bool.true_and]), rfl⟩
end Go.Proofs.YtkpnhggpcpjddaaGreatDoor.S

/-! str.Utf8 and str.Plain: ranges over a text. -/
namespace Go.Proofs.YtkpnhggpcpjddaaGreatDoor.S
open Go.RowKit Go.Shelf

theorem mark_bytes : (⟨#[239, 191, 189]⟩ : ByteArray).data.toList = M.markB := rfl

/-- One step of a range over a text. -/
theorem next_step (s : ByteArray) (w : World) (pos : Nat) (hp : pos < s.size) (c n : Nat) (h : M.dec (s.data.toList.drop pos) = (c, n)) (ty : TypeId) :
    (Instr.next (.pointer (some ⟨w.heap.size, 0, none⟩)) true ty).run Tryz.prog (w.iter s pos) = .ok (.tuple #[.bool true, .int .i64 pos, .int .i32 c]) (w.iter s (pos + n)) := by
  have hd := M.decode_dec s pos
  rw [h] at hd
  rw [run_next_any w s pos ty hp, hd]

theorem iter_below (w : World) (s : ByteArray) (pos : Nat) : Below w.heap.size w (w.iter s pos) := (Below.refl _ w).alloc (Nat.le_refl _) _

theorem prefix_eq (s : ByteArray) (pos : Nat) {b : Bool} (h : M.markB.isPrefixOf (s.data.toList.drop pos) = b) : Lib.hasPrefix (s.extract pos s.size).data.toList (⟨#[239, 191, 189]⟩ : ByteArray).data.toList = b := by
  rw [ext_drop]; exact h

theorem drop_ne {s : ByteArray} {pos : Nat} (hp : pos < s.size) : s.data.toList.drop pos ≠ [] := by
  intro e
  have h1 := congrArg List.length e
  rw [List.length_drop, len_eq, List.length_nil] at h1
  omega

set_option maxRecDepth 100000 in
set_option maxHeartbeats 1000000 in
theorem utf8_any (s : ByteArray) (w : World) :
    Calls Tryz.prog 89 #[.string s] w fun e w' => e = .returned (.bool (M.utf s.data.toList)) ∧ Below w.heap.size w w' := by
  go_enter Tryz.func89, Tryz.ntmps89
  go_wp2
  go_loopw [3] (fun _ w' => ∃ pos : Nat, w' = w.iter s pos ∧ pos ≤ s.size ∧ M.utf (s.data.toList.drop pos) = M.utf s.data.toList) (fun _ w' => s.size - w'.iterPos w.heap.size)
  case atStart => exact ⟨0, rfl, Nat.zero_le _, rfl⟩
  case round =>
    obtain ⟨pos, rfl, hle, hu⟩ := hrel
    by_cases hp : pos < s.size
    · have hne := drop_ne hp
      have hst := M.utf_step hne
      have hf := M.long_fits hne
      rw [List.length_drop, len_eq] at hf
      obtain ⟨c, n, hcn⟩ : ∃ c n, M.dec (s.data.toList.drop pos) = (c, n) := ⟨_, _, rfl⟩
      have hw := M.dec_width hne
      rw [hcn, List.length_drop, len_eq] at hw
      have hnx := next_step s w pos hp c n hcn
      rcases M.dec_long hne with ⟨h1, h2, h3, h4⟩ | ⟨h1, h2, h3, h4, h5⟩
      · rw [hcn] at h2
        injection h2 with h2 h2'
        subst h2; subst h2'
        rw [if_pos h1, hu] at hst
        have HS := Lib.hid hst
        have HM := Lib.hid (prefix_eq s pos h4)
        clear hst h4 h1 h3 hu hne hf hcn hw
        go_wp2_with (go_at_call 104; refine (Tryz.strings_HasPrefix _ _ _).mono ?_; rintro e w' ⟨rfl, rfl⟩; rw [HM.out])
        go_ret
        exact ⟨ret_bool HS.out.symm, iter_below w s _⟩
      · rw [hcn] at h2 h3 h4 h5
        dsimp only at h2 h3 h4 h5
        subst h2
        rw [if_neg h1, hu] at hst
        have HS : Hid (M.utf (s.data.toList.drop (pos + M.long (s.data.toList.drop pos))) = M.utf s.data.toList) := by
          rw [← List.drop_drop]; exact hst.symm
        clear hst hu hne hcn h1 h4
        generalize M.long (s.data.toList.drop pos) = n at *
        by_cases hc : c = 65533
        · subst hc
          have HM := Lib.hid (prefix_eq s pos (h3 rfl))
          clear h3 h5
          go_wp2_with (go_at_call 104; refine (Tryz.strings_HasPrefix _ _ _).mono ?_; rintro e w' ⟨rfl, rfl⟩; rw [HM.out])
          refine ⟨⟨pos + n, rfl, by omega, HS.out⟩, by simp; omega⟩
        · have hne : ((c : Int) == 65533) = false := by simp; omega
          clear h3
          go_wp2
          refine ⟨⟨pos + n, rfl, by omega, HS.out⟩, by simp; omega⟩
    · have hnx : ∀ ty, (Instr.next (.pointer (some ⟨w.heap.size, 0, none⟩)) true ty).run Tryz.prog (w.iter s pos) = _ := fun ty => run_next_end w s pos ty hp
      have he : s.data.toList.drop pos = [] := List.drop_eq_nil_of_le (by rw [len_eq]; omega)
      rw [he, M.utf_nil] at hu
      have HU := Lib.hid hu
      clear he hu
      go_wp2
      go_ret
      exact ⟨ret_bool HU.out, iter_below w s _⟩

/-- What the rune loop of Plain has still to see. -/
theorem runes_nil : M.runes [] = true := rfl

set_option maxRecDepth 100000 in
set_option maxHeartbeats 1000000 in
theorem plain_any (s : ByteArray) (w : World) :
    Calls Tryz.prog 71 #[.string s] w fun e w' => e = .returned (.bool (M.plain s.data.toList)) ∧ Below w.heap.size w w' := by
  have hfin := M.runes_plain s.data.toList
  have HF := Lib.hid hfin
  clear hfin
  go_enter Tryz.func71, Tryz.ntmps71
  go_wp2
  go_loopw [4] (fun _ w' => ∃ pos : Nat, w' = w.iter s pos ∧ pos ≤ s.size ∧ M.runes (s.data.toList.drop pos) = M.runes s.data.toList) (fun _ w' => s.size - w'.iterPos w.heap.size)
  case atStart => exact ⟨0, rfl, Nat.zero_le _, rfl⟩
  case round =>
    obtain ⟨pos, rfl, hle, hu⟩ := hrel
    by_cases hp : pos < s.size
    · have hne := drop_ne hp
      have hst := M.runes_step hne
      obtain ⟨c, n, hcn⟩ : ∃ c n, M.dec (s.data.toList.drop pos) = (c, n) := ⟨_, _, rfl⟩
      have hw := M.dec_width hne
      rw [hcn, List.length_drop, len_eq] at hw
      have hc5 : c ≤ 1114111 := by
        rcases M.dec_long hne with ⟨_, h2, _⟩ | ⟨_, _, _, _, h5⟩
        · rw [hcn] at h2; injection h2 with h2; omega
        · rw [hcn] at h5; exact h5
      have hnx := next_step s w pos hp c n hcn
      rw [hcn, hu] at hst
      dsimp only at hst hw
      by_cases hc : c < 32 ∨ c = 127
      · rw [if_pos hc] at hst
        have HS := Lib.hid hst
        clear hst hu hne hcn
        have hfalse : M.plain s.data.toList = false := by rw [← HF.out, HS.out]; rfl
        have HX := Lib.hid hfalse
        clear hfalse
        rcases hc with hc | hc
        · go_wp2
          go_ret
          exact ⟨ret_bool HX.out.symm, iter_below w s _⟩
        · subst hc
          go_wp2
          go_ret
          exact ⟨ret_bool HX.out.symm, iter_below w s _⟩
      · rw [if_neg hc, List.drop_drop] at hst
        have HS := Lib.hid hst
        clear hst hu hne hcn
        have h1 : 32 ≤ (c : Int) := by omega
        have h2 : ((c : Int) == 127) = false := by simp; omega
        clear hc
        go_wp2
        refine ⟨⟨pos + n, rfl, by omega, HS.out.symm⟩, by simp; omega⟩
    · have hnx : ∀ ty, (Instr.next (.pointer (some ⟨w.heap.size, 0, none⟩)) true ty).run Tryz.prog (w.iter s pos) = _ := fun ty => run_next_end w s pos ty hp
      have he : s.data.toList.drop pos = [] := List.drop_eq_nil_of_le (by rw [len_eq]; omega)
      rw [he, runes_nil] at hu
      have hx : M.utf s.data.toList = M.plain s.data.toList := by rw [← HF.out, ← hu]; rfl
      have HX := Lib.hid hx
      clear he hu hx
      have hib := iter_below w s pos
      go_wp2_with (go_at_call 89; refine (utf8_any s _).mono ?_; rintro e w' ⟨rfl, hb⟩)
      go_ret
      exact ⟨ret_bool HX.out, hib.trans (hb.mono hib.size)⟩
end Go.Proofs.YtkpnhggpcpjddaaGreatDoor.S
