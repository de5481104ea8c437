/-
  The contracts of Class, Count and Covers.
-/
import Derived.Test.YthejomfchjlcnaaChSpans
set_option linter.unusedVariables false
set_option linter.unusedSimpArgs false
namespace Go.Proofs.Ythejomfchjlcnaa
open Go.RowKit Go.Lib

theorem has_any (p : C.Sp) (w : World) : Calls Try.prog 14 #[sval p] w fun e w' => e = .returned (.bool (decide (p.1 < p.2.1))) ∧ Below w.heap.size w w' := by
  obtain ⟨a, b, c⟩ := p
  unfold sval
  go_enter Try.func14, Try.ntmps14
  go_wp2
  go_ret
  exact ⟨rfl, (Below.refl _ w).alloc (Nat.le_refl _) _⟩
theorem isClass_any (c : Int) (w : World) : Calls Try.prog 15 #[.int .i64 c] w fun e w' => e = .returned (.bool (decide (1 ≤ c) && decide (c ≤ 9))) ∧ w = w' := by
  by_cases h1 : 1 ≤ c
  · have d1 : decide (1 ≤ c) = true := by rw [decide_eq_true_eq]; exact h1
    go_enter Try.func15, Try.ntmps15
    go_wp2
    go_ret
    first | exact ⟨by rw [d1]; rfl, rfl⟩ | exact ⟨rfl, rfl⟩
  · have d1 : decide (1 ≤ c) = false := by rw [decide_eq_false_iff_not]; exact h1
    go_enter Try.func15, Try.ntmps15
    go_wp2
    go_ret
    first | exact ⟨by rw [d1]; rfl, rfl⟩ | exact ⟨rfl, rfl⟩

theorem hit_any (p : C.Sp) (i : Int) (b : Nat) (w : World) (hb : Boxed w b 3 (.int .i64 i)) :
    Calls Try.prog 17 #[sval p, .pointer (some ⟨b, 0, none⟩)] w fun e w' => e = .returned (.bool (decide (p.1 ≤ i) && decide (i < p.2.1))) ∧ Below w.heap.size w w' := by
  obtain ⟨x, y, c⟩ := p
  unfold sval
  have hb2 := (hb.alloc (.cells #[.int .i64 x, .int .i64 y, .int .i64 c] 29)).cell
  dsimp only
  by_cases h1 : x ≤ i
  · have d1 : decide (x ≤ i) = true := by rw [decide_eq_true_eq]; exact h1
    go_enter Try.func17, Try.ntmps17
    go_wp2
    go_ret
    first | exact ⟨by rw [d1]; rfl, (Below.refl _ w).alloc (Nat.le_refl _) _⟩ | exact ⟨rfl, (Below.refl _ w).alloc (Nat.le_refl _) _⟩
  · have d1 : decide (x ≤ i) = false := by rw [decide_eq_false_iff_not]; exact h1
    go_enter Try.func17, Try.ntmps17
    go_wp2
    go_ret
    first | exact ⟨by rw [d1]; rfl, (Below.refl _ w).alloc (Nat.le_refl _) _⟩ | exact ⟨rfl, (Below.refl _ w).alloc (Nat.le_refl _) _⟩

namespace C
theorem cls_step {l : List Sp} {k : Nat} {p : Sp} {i : Int} (h : cls l i = cls (l.drop k) i) (hp : l[k]? = some p) : (decide (p.1 ≤ i) && decide (i < p.2.1)) = true ∧ cls l i = p.2.2 ∨ (decide (p.1 ≤ i) && decide (i < p.2.1)) = false ∧ cls l i = cls (l.drop (k + 1)) i := by
  obtain ⟨hk, rfl⟩ := List.getElem?_eq_some_iff.1 hp
  rw [List.drop_eq_getElem_cons hk] at h
  by_cases hh : l[k].1 ≤ i ∧ i < l[k].2.1
  · exact .inl ⟨by simp [hh.1, hh.2], by rw [h, cls_hit hh]⟩
  · exact .inr ⟨by rw [← Bool.decide_and, decide_eq_false_iff_not]; exact hh, by rw [h, cls_miss hh]⟩
theorem cov_step {l : List Sp} {k : Nat} {p : Sp} {at_ c0 n : Int} {b : Bool} (h : b = cov at_ c0 (l.drop k) n) (hp : l[k]? = some p) :
    (¬ (p.1 = at_ ∧ p.1 < p.2.1 ∧ 1 ≤ p.2.2 ∧ p.2.2 ≤ 9 ∧ p.2.2 ≠ c0) ∧ b = false) ∨ ((p.1 = at_ ∧ p.1 < p.2.1 ∧ 1 ≤ p.2.2 ∧ p.2.2 ≤ 9 ∧ p.2.2 ≠ c0) ∧ b = cov p.2.1 p.2.2 (l.drop (k + 1)) n) := by
  obtain ⟨hk, rfl⟩ := List.getElem?_eq_some_iff.1 hp
  rw [List.drop_eq_getElem_cons hk, cov] at h
  by_cases hh : l[k].1 = at_ ∧ l[k].1 < l[k].2.1 ∧ 1 ≤ l[k].2.2 ∧ l[k].2.2 ≤ 9 ∧ l[k].2.2 ≠ c0
  · rw [if_pos hh] at h; exact .inr ⟨hh, h⟩
  · rw [if_neg hh] at h; exact .inl ⟨hh, h⟩
end C

set_option maxRecDepth 100000 in
set_option maxHeartbeats 2000000 in
theorem index_any (A : Option Addr) (n c : Nat) (l : List C.Sp) (i : Int) (b : Nat) (w : World) (hr : RdS w w.heap.size A n l) (hb : Boxed w b 3 (.int .i64 i)) (hn : n ≤ 1000000) :
    Calls Try.prog 16 #[.slice A n c, .func (.func 17) #[] #[.pointer (some ⟨b, 0, none⟩)]] w fun e w' =>
      (∃ r, e = .returned (.int .i64 r) ∧ ((∃ (k : Nat) (p : C.Sp), r = k ∧ l[k]? = some p ∧ C.cls l i = p.2.2) ∨ (r = -1 ∧ C.cls l i = 0))) ∧ Below w.heap.size w w' := by
  have HL := hid hr.len
  have HR := hid hr
  have HB := hid hb
  have hbl := hb.lt
  clear hr hb
  go_enter Try.func16, Try.ntmps16
  go_wp2
  go_loopw [8] (fun iv wr => ∃ (k : Nat), iv = .int .i64 k ∧ k ≤ n ∧ Hid (C.cls l i = C.cls (l.drop k) i) ∧ Hid (Below w.heap.size w wr)) (fun iv _ => n - (RowKit.intOf iv).toNat)
  case atStart => exact ⟨0, rfl, Nat.zero_le _, hid rfl, hid (Below.refl _ _)⟩
  case round =>
    obtain ⟨k, rfl, hk, HC, HW⟩ := hrel
    by_cases hlt : k < n
    · obtain ⟨bb, off, p, rfl, hb, hp, hc1, hc2, hc3⟩ := (HR.out.below HW.out).at_ hlt
      have HH := hid (hit_any p i b wr ((HW.out.block b hbl).trans HB.out))
      have hst := C.cls_step HC.out hp
      have HP := hid hp
      clear hp
      obtain ⟨px, py, pc⟩ := p
      dsimp only at hc1 hc2 hc3 hst
      unfold sval at HH
      dsimp only at HH
      rcases hst with ⟨e1, e2⟩ | ⟨e1, e2⟩
      · rw [e1] at HH
        have HE2 := hid e2
        clear e1 e2
        by_cases hk0 : k = 0
        case' pos =>
          subst hk0
          simp only [Nat.zero_mul, Nat.add_zero] at hc1 hc2 hc3
        case' neg => have hk1 : 0 < k := by omega
        all_goals
          go_wp2_with (go_at_call 17; (with_reducible refine HH.out.mono ?_); rintro e w2 ⟨rfl, b2⟩)
          go_ret
          exact ⟨⟨_, rfl, .inl ⟨_, _, rfl, HP.out, HE2.out⟩⟩, HW.out.trans (b2.mono HW.out.size)⟩
      · rw [e1] at HH
        have HE2 := hid e2
        clear e1 e2
        by_cases hk0 : k = 0
        case' pos =>
          subst hk0
          simp only [Nat.zero_mul, Nat.add_zero] at hc1 hc2 hc3
        case' neg => have hk1 : 0 < k := by omega
        all_goals
          go_wp2_with (go_at_call 17; (with_reducible refine HH.out.mono ?_); rintro e w2 ⟨rfl, b2⟩; have HB2 := hid (HW.out.trans (b2.mono HW.out.size)); clear b2)
          go_roundw
          case rel => exact ⟨_, (show Value.int .i64 _ = Value.int .i64 ((_ + 1 : Nat) : Int) by go_num), by omega, HE2, HB2⟩
          case measure => simp [RowKit.intOf] <;> omega
    · obtain rfl : k = n := by omega
      have HE2 := hid (show C.cls l i = 0 by rw [HC.out, List.drop_of_length_le (by rw [HL.out]; exact Nat.le_refl _)]; rfl)
      go_wp2
      go_ret
      exact ⟨⟨_, rfl, .inr ⟨rfl, HE2.out⟩⟩, HW.out⟩
end Go.Proofs.Ythejomfchjlcnaa
