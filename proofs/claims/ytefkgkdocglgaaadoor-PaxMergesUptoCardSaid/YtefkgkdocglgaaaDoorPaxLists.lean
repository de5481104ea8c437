/-
  Loops over records: may all be; are two lists the same; how much there is.
-/
import Derived.Test.YtefkgkdocglgaaaDoorPaxRef
import Derived.Deep.QuietTactic
import Derived.BigQuiet
import Derived.IntWalk
namespace Go.Proofs.YtefkgkdocglgaaaDoor
open Go.RowKit Go.Shelf

def allRight (l : List R2) : Bool := (rcs l).all M.right
theorem allRight_no {l : List R2} {k : Nat} (hk : k < l.length) (h : M.right (rc l[k]) = false) : allRight l = false := by
  unfold allRight
  rw [List.all_eq_false]
  exact ⟨rc l[k], List.mem_map.2 ⟨l[k], List.getElem_mem hk, rfl⟩, by rw [h]; decide⟩
theorem allRight_succ {l : List R2} {k : Nat} (hk : k < l.length) (h : allRight (l.take k) = true) (h2 : M.right (rc l[k]) = true) : allRight (l.take (k + 1)) = true := by
  unfold allRight at *
  rw [List.take_succ_eq_append_getElem hk, rcs_app, List.all_append, h]
  simp [rcs, h2]

theorem closure_any (r : R2) (w : World) : Calls Tryd.prog 24 #[.agg #[.string r.1, .string r.2]] w fun e w' => e = .returned (.bool (!M.right (rc r))) ∧ Below w.heap.size w w' := by
  obtain ⟨s, t⟩ := r
  dsimp only
  have hb : ∀ w', Below (w.alloc (.cells #[.string s, .string t] 45)).heap.size (w.alloc (.cells #[.string s, .string t] 45)) w' → Below w.heap.size w w' := fun w' h => ((Below.refl _ w).alloc (Nat.le_refl _) _).trans (h.mono (by simp))
  cases hr : M.right (rc (s, t)) with
  | true =>
    have C := fun W => right_any' s t W
    rw [hr] at C
    have HC := Lib.hid C
    clear C hr
    go_enter Tryd.func24, Tryd.ntmps24
    go_wp2_with (go_at_call 25; refine (HC.out _).mono ?_; rintro e w1 ⟨rfl, hb1⟩)
    go_ret
    exact ⟨rfl, hb _ hb1⟩
  | false =>
    have C := fun W => right_any' s t W
    rw [hr] at C
    have HC := Lib.hid C
    clear C hr
    go_enter Tryd.func24, Tryd.ntmps24
    go_wp2_with (go_at_call 25; refine (HC.out _).mono ?_; rintro e w1 ⟨rfl, hb1⟩)
    go_ret
    exact ⟨rfl, hb _ hb1⟩

/-- Where the first record is that may not be. -/
def IndexIs (l : List R2) (w : World) (e : Ending) (w' : World) : Prop := ∃ i : Int, e = .returned (.int .i64 i) ∧ -1 ≤ i ∧ (0 ≤ i ↔ allRight l = false) ∧ Below w.heap.size w w'

set_option maxRecDepth 100000 in
set_option maxHeartbeats 1000000 in
theorem index_any (A : Option Addr) (c : Nat) (l : List R2) (hl : l.length ≤ 1000000) (w : World) (h : RdR w w.heap.size A l) :
    Calls Tryd.prog 37 #[.slice A l.length c, .func (.func 24) #[] #[]] w (IndexIs l w) := by
  go_enter Tryd.func37, Tryd.ntmps37
  go_wp2
  go_loopw [8, 5] (fun i _ wr => ∃ k : Nat, i = .int .i64 k ∧ k ≤ l.length ∧ allRight (l.take k) = true ∧ Below w.heap.size w wr) (fun i _ _ => l.length - (intOf i).toNat)
  case atStart => exact ⟨0, rfl, Nat.zero_le _, rfl, Below.refl _ _⟩
  case round =>
    obtain ⟨k, rfl, hk, hall, hb⟩ := hrel
    have hbs := hb.size
    by_cases hlt : k < l.length
    · obtain ⟨b, off, rfl, hbb, hc1, hc2⟩ := (h.below hb).at_ hlt
      have hs := allRight_succ hlt hall
      have hn := allRight_no hlt
      obtain ⟨r, hr⟩ : ∃ r, l[k] = r := ⟨_, rfl⟩
      rw [hr] at hc1 hc2 hs hn
      have C := closure_any r wr
      cases hq : M.right (rc r) with
      | true =>
        rw [hq] at C
        have HS := Lib.hid (hs hq)
        have HC := Lib.hid C
        clear C hq hs hn hr hall h
        by_cases hk0 : k = 0
        · subst hk0
          simp only [Nat.zero_mul, Nat.add_zero] at hc1 hc2
          go_wp2_with (go_at_call 24; refine HC.out.mono ?_; rintro e w1 ⟨rfl, hb1⟩)
          go_roundw
          case rel => exact ⟨1, by go_num, by omega, HS.out, hb.trans (hb1.mono hbs)⟩
          case measure => simp [intOf]; omega
        · have hk1 : 0 < k := by omega
          clear hk0
          go_wp2_with (go_at_call 24; refine HC.out.mono ?_; rintro e w1 ⟨rfl, hb1⟩)
          go_roundw
          case rel => exact ⟨k + 1, by go_num, by omega, HS.out, hb.trans (hb1.mono hbs)⟩
          case measure => simp [intOf]; omega
      | false =>
        rw [hq] at C
        have HN := Lib.hid (hn hq)
        have HC := Lib.hid C
        clear C hq hs hn hr hall h
        by_cases hk0 : k = 0
        · subst hk0
          simp only [Nat.zero_mul, Nat.add_zero] at hc1 hc2
          go_wp2_with (go_at_call 24; refine HC.out.mono ?_; rintro e w1 ⟨rfl, hb1⟩)
          go_ret
          exact ⟨0, rfl, by omega, ⟨fun _ => HN.out, fun _ => by omega⟩, hb.trans (hb1.mono hbs)⟩
        · have hk1 : 0 < k := by omega
          clear hk0
          go_wp2_with (go_at_call 24; refine HC.out.mono ?_; rintro e w1 ⟨rfl, hb1⟩)
          go_ret
          exact ⟨k, rfl, by omega, ⟨fun _ => HN.out, fun _ => by omega⟩, hb.trans (hb1.mono hbs)⟩
    · obtain rfl : k = l.length := by omega
      rw [List.take_length] at hall
      have HA := Lib.hid hall
      clear hall hlt h
      go_wp2
      go_ret
      exact ⟨-1, rfl, by omega, ⟨fun h => by omega, fun h => by rw [HA.out] at h; cases h⟩, hb⟩

set_option maxRecDepth 100000 in
theorem contains_any (A : Option Addr) (c : Nat) (l : List R2) (hl : l.length ≤ 1000000) (w : World) (h : RdR w w.heap.size A l) :
    Calls Tryd.prog 23 #[.slice A l.length c, .func (.func 24) #[] #[]] w fun e w' => e = .returned (.bool (!allRight l)) ∧ Below w.heap.size w w' := by
  have HC := Lib.hid (index_any A c l hl w h)
  clear h
  cases ha : allRight l with
  | true =>
    have HA := Lib.hid ha
    clear ha
    go_enter Tryd.func23, Tryd.ntmps23
    go_wp2_with (go_at_call 37; refine HC.out.mono ?_; rintro e w1 ⟨i, rfl, h1, h2, hb1⟩; (have hd : decide (i ≥ 0) = false := by rw [decide_eq_false_iff_not, ge_iff_le, h2, HA.out]; decide); (have hd2 : i < 0 := by have := of_decide_eq_false hd; omega); clear h2)
    go_ret
    exact ⟨rfl, hb1⟩
  | false =>
    have HA := Lib.hid ha
    clear ha
    go_enter Tryd.func23, Tryd.ntmps23
    go_wp2_with (go_at_call 37; refine HC.out.mono ?_; rintro e w1 ⟨i, rfl, h1, h2, hb1⟩; (have hd : decide (i ≥ 0) = true := by rw [decide_eq_true_eq, ge_iff_le, h2, HA.out]); (have hd2 : 0 ≤ i := by have := of_decide_eq_true hd; omega); clear h2)
    go_ret
    exact ⟨rfl, hb1⟩
end Go.Proofs.YtefkgkdocglgaaaDoor
