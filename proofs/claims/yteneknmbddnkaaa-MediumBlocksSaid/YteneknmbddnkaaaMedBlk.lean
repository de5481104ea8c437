/-
  The contracts of Count, isThere, stretch, Clone of bytes, Block.
-/
import Derived.Test.YteneknmbddnkaaaMedMem
namespace Go.Proofs.Yteneknmbddnkaaa
open Go.RowKit Go.Lib

/-- An image's value. -/
def imgv (A : Option Addr) (n c : Nat) (v : Value) : Value := .agg #[.slice A n c, v]

set_option maxHeartbeats 400000 in
theorem count_any (A : Option Addr) (n c : Nat) (A' : Option Addr) (n' c' : Nat) (w : World) (hn : n ≤ 1000000000) :
    Calls Try.prog 23 #[.agg #[.slice A n c, .slice A' n' c']] w fun e w' => e = .returned (.int .i64 (M.cnt n)) ∧ Below w.heap.size w w' := by
  have HX : Hid ((M.cnt n : Nat) = ((n + 511 : Nat) : Int) / 512) := hid (by unfold M.cnt; omega)
  go_enter Try.func23, Try.ntmps23
  go_wp2
  go_ret
  exact ⟨ret_int (by show _ / _ = _; rw [HX.out]; omega), (Below.refl _ _).alloc (Nat.le_refl _) _⟩

set_option maxHeartbeats 400000 in
theorem refCount_any (A : Option Addr) (n c : Nat) (A' : Option Addr) (n' c' : Nat) (w : World) (hn : n ≤ 1000000000) :
    Calls Try.prog 34 #[.agg #[.slice A n c, .slice A' n' c']] w fun e w' => e = .returned (.int .i64 (M.cnt n)) ∧ Below w.heap.size w w' := by
  have HX : Hid ((M.cnt n : Nat) = ((n + 511 : Nat) : Int) / 512) := hid (by unfold M.cnt; omega)
  go_enter Try.func34, Try.ntmps34
  go_wp2
  go_ret
  exact ⟨ret_int (by show _ / _ = _; rw [HX.out]; omega), (Below.refl _ _).alloc (Nat.le_refl _) _⟩

set_option maxHeartbeats 400000 in
theorem there_any (A : Option Addr) (n c : Nat) (A' : Option Addr) (n' c' : Nat) (i : Int) (w : World) (hn : n ≤ 1000000000) (hi : -9223372036854775808 ≤ i ∧ i ≤ 9223372036854775807) :
    Calls Try.prog 26 #[.agg #[.slice A n c, .slice A' n' c'], .int .i64 i] w fun e w' => e = .returned (.bool (M.there n i)) ∧ Below w.heap.size w w' := by
  obtain ⟨hi0, hi1⟩ := hi
  have HC := hid (fun W => count_any A n c A' n' c' W hn)
  have hc0 : (0 : Int) ≤ (M.cnt n : Nat) := by omega
  have hc1 : ((M.cnt n : Nat) : Int) ≤ 1000000000 := by have := M.cnt_le n; omega
  have HT : Hid (M.there n i = (decide (0 ≤ i) && decide (i < (M.cnt n : Nat)))) := hid rfl
  generalize ((M.cnt n : Nat) : Int) = k at *
  by_cases h0 : 0 ≤ i
  · have e0 : decide (0 ≤ i) = true := by simpa using h0
    go_enter Try.func26, Try.ntmps26
    go_wp2_with fail
    (with_reducible refine (HC.out _).mono ?_)
    rintro e w1 ⟨rfl, b1⟩
    go_wp2
    go_ret
    exact ⟨ret_bool (by rw [HT.out, e0, Bool.true_and]), ((Below.refl _ _).alloc (Nat.le_refl _) _).trans (b1.mono (by simp))⟩
  · have e0 : decide (0 ≤ i) = false := by simpa using h0
    go_enter Try.func26, Try.ntmps26
    go_wp2
    go_ret
    exact ⟨ret_bool (by rw [HT.out, e0, Bool.false_and]), (Below.refl _ _).alloc (Nat.le_refl _) _⟩

theorem ret_slice {b o o' n n' c c' : Nat} (h1 : o = o') (h2 : n = n') (h3 : c = c') : Ending.returned (.slice (some ⟨b, o, none⟩) n c) = .returned (.slice (some ⟨b, o', none⟩) n' c') := by rw [h1, h2, h3]

set_option maxRecDepth 100000 in
set_option maxHeartbeats 400000 in
theorem stretch_any (b off n c : Nat) (A' : Option Addr) (n' c' : Nat) (i : Nat) (w : World) (hn : n ≤ 1000000000) (hnc : n ≤ c) (hc : c ≤ maxLen) (hi : 512 * i < n) :
    Calls Try.prog 29 #[.agg #[.slice (some ⟨b, off, none⟩) n c, .slice A' n' c'], .int .i64 i] w fun e w' =>
      e = .returned (.slice (some ⟨b, off + 512 * i, none⟩) (min 512 (n - 512 * i)) (c - 512 * i)) ∧ Below w.heap.size w w' := by
  unfold maxLen at hc
  by_cases h : 512 * i + 512 ≤ n
  · have hmi : min ((i : Int) * 512 + 512) (n : Int) = (i : Int) * 512 + 512 := by omega
    go_enter Try.func29, Try.ntmps29
    go_wp2
    go_ret
    exact ⟨ret_slice (by omega) (by omega) (by omega), (Below.refl _ _).alloc (Nat.le_refl _) _⟩
  · have hmi : min ((i : Int) * 512 + 512) (n : Int) = (n : Int) := by omega
    go_enter Try.func29, Try.ntmps29
    go_wp2
    go_ret
    exact ⟨ret_slice (by omega) (by omega) (by omega), (Below.refl _ _).alloc (Nat.le_refl _) _⟩

theorem OwnY.fresh (w : World) : OwnY (w.alloc (.cells #[] 5)) w.heap.size (.slice (some ⟨w.heap.size, 0, none⟩) 0 0) [] :=
  ⟨rfl, .inr ⟨w.heap.size, 0, #[], rfl, Nat.le_refl _, heap_alloc_new w _, Nat.le_refl _, by decide, rfl, rfl⟩⟩

set_option maxHeartbeats 400000 in
/-- slices.Clone of bytes. -/
theorem cloneB_any (A : Option Addr) (n c : Nat) (zs : List Int) (w : World) (B : Nat) (hr : Rd w B A n zs) (hB : B ≤ w.heap.size) (hn : n ≤ 1000000000) :
    Calls Try.prog 25 #[.slice A n c] w fun e w' => ∃ v, e = .returned v ∧ OwnY w' w.heap.size v zs ∧ Below w.heap.size w w' := by
  have q22 : ∀ (w : World) (a : Option Addr) (n c n' c' : Nat), (binOp .eql 22 (.slice a n c) (.slice none n' c')).run Try.prog w = .ok (.bool a.isNone) w := fun w a n c n' c' => Lib.run_eql_slice_nil w _ _ a n c n' c' Try.underlying22
  have HL := hid hr.len
  cases A with
  | none =>
    have h0 : zs = [] := by
      rcases Nat.eq_zero_or_pos n with h0 | h0
      · exact List.eq_nil_of_length_eq_zero (by rw [HL.out, h0])
      · obtain ⟨b, off, e, _⟩ := hr.2.2 h0
        cases e
    subst h0
    clear hr
    go_enter Try.func25, Try.ntmps25
    go_wp2
    go_ret
    exact ⟨_, rfl, OwnY.nil _ _, Below.refl _ _⟩
  | some a =>
    have HR := hid hr
    clear hr
    go_enter Try.func25, Try.ntmps25
    go_wp2_with (refine wpList_app_bytes rfl (.tmp 5) (.tmp 6) rfl w.heap.size (.slice (some ⟨w.heap.size, 0, none⟩) 0 0) [] (by simp [Act.eval]) (OwnY.fresh w) B (some a) n c zs (by simp [Act.eval]) (HR.out.alloc hB _) (by simp; omega) (by simp) ?_; intro v' w' h1 h2 h3)
    go_ret
    refine ⟨_, rfl, h1, below_grown ((Below.refl _ _).alloc (Nat.le_refl _) _) h2 (by simp) (fun g e => ?_)⟩
    injection e with e
    exact Nat.le_of_eq e
end Go.Proofs.Yteneknmbddnkaaa
