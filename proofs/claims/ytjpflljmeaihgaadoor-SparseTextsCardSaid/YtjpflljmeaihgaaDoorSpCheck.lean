/-
  Check: the program's answer.
-/
import Derived.Test.YtjpflljmeaihgaaDoorSpMem
namespace Go.Proofs.YtjpflljmeaihgaaDoor
open Go.RowKit Go.Lib

namespace M
theorem walk_step {real e s : Int} {l : List Pt} {k : Nat} {p : Pt} (h : walk real 0 0 l = walk real e s (l.drop k)) (hp : l[k]? = some p) (h1 : ¬ (p.1 < e ∨ p.2 < 0 ∨ real - p.1 < p.2)) : walk real 0 0 l = walk real (p.1 + p.2) (s + p.2) (l.drop (k + 1)) := by
  obtain ⟨hk, rfl⟩ := List.getElem?_eq_some_iff.1 hp
  rw [h, List.drop_eq_getElem_cons hk, walk, if_neg h1]
theorem walk_bad {real e s : Int} {l : List Pt} {k : Nat} {p : Pt} (h : walk real 0 0 l = walk real e s (l.drop k)) (hp : l[k]? = some p) (h1 : p.1 < e ∨ p.2 < 0 ∨ real - p.1 < p.2) : walk real 0 0 l = none := by
  obtain ⟨hk, rfl⟩ := List.getElem?_eq_some_iff.1 hp
  rw [h, List.drop_eq_getElem_cons hk, walk, if_pos h1]
theorem walk_end {real e s : Int} {l : List Pt} (h : walk real 0 0 l = walk real e s (l.drop l.length)) : walk real 0 0 l = some (e, s) := by
  rw [h, List.drop_length]; rfl
theorem check_long {l : List Pt} (stored real : Int) (h : 1000 < l.length) : check l stored real = 3 := by unfold check; rw [if_pos h]
theorem check_real {l : List Pt} (stored : Int) {real : Int} (h : ¬ 1000 < l.length) (h2 : real < 0 ∨ 1099511627776 < real) : check l stored real = 11 := by unfold check; rw [if_neg h, if_pos h2]
theorem check_walk {l : List Pt} (stored : Int) {real : Int} (h : ¬ 1000 < l.length) (h2 : ¬ (real < 0 ∨ 1099511627776 < real)) : check l stored real = checkW real stored (walk real 0 0 l) := by unfold check; rw [if_neg h, if_neg h2]
end M

/-- A box of a part. -/
def BoxP (w : World) (g : Nat) (p q : Int) : Prop := w.heap[g]? = some (.cells #[.int .i64 p, .int .i64 q] 29 (0, 0))
section
variable {w w' : World} {g : Nat} {p q : Int}
theorem BoxP.new (w : World) (p q : Int) : BoxP (w.alloc (.cells #[.int .i64 p, .int .i64 q] 29)) w.heap.size p q := heap_alloc_new w _
theorem BoxP.lt (h : BoxP w g p q) : g < w.heap.size := (Array.getElem?_eq_some_iff.1 h).1
theorem BoxP.cell0 (h : BoxP w g p q) : w.cell? ⟨g, 0, none⟩ = some (.int .i64 p) := by rw [cell_of_row _ _ _ _ _ _ h]; rfl
theorem BoxP.cell1 (h : BoxP w g p q) : w.cell? ⟨g, 1, none⟩ = some (.int .i64 q) := by rw [cell_of_row _ _ _ _ _ _ h]; rfl
theorem BoxP.frozen (h : BoxP w g p q) (i : Nat) : w.frozen? ⟨g, i, none⟩ = false := frozen_of_row _ _ i _ _ h
theorem BoxP.of_block (h : BoxP w g p q) (e : w'.heap[g]? = w.heap[g]?) : BoxP w' g p q := e.trans h
theorem BoxP.set0 (h : BoxP w g p q) (x : Int) : BoxP (w.setCell ⟨g, 0, none⟩ (.int .i64 x)) g x q := by have := heap_setCell_same w _ 0 _ _ (.int .i64 x) h; simpa [BoxP] using this
theorem BoxP.set1 (h : BoxP w g p q) (x : Int) : BoxP (w.setCell ⟨g, 1, none⟩ (.int .i64 x)) g p x := by have := heap_setCell_same w _ 1 _ _ (.int .i64 x) h; simpa [BoxP] using this
end

set_option maxRecDepth 100000 in
set_option maxHeartbeats 1000000 in
theorem check_any (A : Option Addr) (n c : Nat) (l : List M.Pt) (stored real : Int) (w : World) (hr : RdP w w.heap.size A n l) (hi : M.i64s l) (hn : n ≤ 1000000) :
    Calls Tryd.prog 24 #[.slice A n c, .int .i64 stored, .int .i64 real] w fun e w' => e = .returned (.int .u16 (M.check l stored real)) ∧ Below w.heap.size w w' := by
  have HL := hid hr.len
  have HR := hid hr
  have HI := hid hi
  clear hr hi
  by_cases hlong : 1000 < n
  · have HE := hid (M.check_long (l := l) stored real (by rw [HL.out]; exact hlong))
    have d1 : decide ((1000 : Int) < (n : Int)) = true := by rw [decide_eq_true_eq]; omega
    go_enter Tryd.func24, Tryd.ntmps24
    go_wp2
    go_ret
    exact ⟨by rw [HE.out]; rfl, Below.refl _ _⟩
  have HLo := hid (show ¬ 1000 < l.length by rw [HL.out]; exact hlong)
  have d1 : decide ((1000 : Int) < (n : Int)) = false := by rw [decide_eq_false_iff_not]; omega
  by_cases hreal : real < 0 ∨ 1099511627776 < real
  · have HE := hid (M.check_real (l := l) stored HLo.out hreal)
    by_cases h0 : real < 0
    case' pos => have d2 : decide (real < 0) = true := by rw [decide_eq_true_eq]; exact h0
    case' neg =>
      have d2 : decide (real < 0) = false := by rw [decide_eq_false_iff_not]; exact h0
      have d3 : decide (1099511627776 < real) = true := by rw [decide_eq_true_eq]; omega
    all_goals
      clear hreal h0
      go_enter Tryd.func24, Tryd.ntmps24
      go_wp2
      go_ret
      exact ⟨by rw [HE.out]; rfl, Below.refl _ _⟩
  have HE := hid (M.check_walk (l := l) stored HLo.out hreal)
  have h0 : 0 ≤ real := by omega
  have h1 : real ≤ 1099511627776 := by omega
  have d2 : decide (real < 0) = false := by rw [decide_eq_false_iff_not]; omega
  have d3 : decide (1099511627776 < real) = false := by rw [decide_eq_false_iff_not]; omega
  clear hreal
  go_enter Tryd.func24, Tryd.ntmps24
  go_wp2
  go_loopw [7, 8, 22] (fun e s i wr => ∃ (k : Nat) (en sn : Int), i = .int .i64 k ∧ e = .int .i64 en ∧ s = .int .i64 sn ∧ k ≤ n ∧ 0 ≤ en ∧ en ≤ real ∧ 0 ≤ sn ∧ sn ≤ en ∧ Hid (M.walk real 0 0 l = M.walk real en sn (l.drop k)) ∧ Hid (Below w.heap.size w wr)) (fun _ _ i _ => n - (RowKit.intOf i).toNat)
  case atStart => exact ⟨0, 0, 0, rfl, rfl, rfl, Nat.zero_le _, Int.le_refl _, h0, Int.le_refl _, Int.le_refl _, hid rfl, hid (Below.refl _ _)⟩
  case round =>
    obtain ⟨k, en, sn, rfl, rfl, rfl, hk, he0, he1, hs0, hs1, HW, HB⟩ := hrel
    by_cases hlt : k < n
    · obtain ⟨b, off, ⟨p, q⟩, rfl, hb, hp, hc1, hc2⟩ := (HR.out.below HB.out).at_ hlt
      have HB2 := hid (HB.out.alloc HB.out.size (.cells #[.int .i64 p, .int .i64 q] 29))
      dsimp only at hc1 hc2
      have HST := hid (fun h1 => M.walk_step HW.out hp h1)
      have HBD := hid (fun h1 => M.walk_bad HW.out hp h1)
      obtain ⟨⟨p0, p1⟩, q0, q1⟩ := HI.out _ (List.mem_of_getElem? hp)
      clear hp
      dsimp only at HST HBD p0 p1 q0 q1
      by_cases hbad : p < en ∨ q < 0 ∨ real - p < q
      · have HE2 := hid (show M.check l stored real = 11 by rw [HE.out, HBD.out hbad]; rfl)
        clear HST HBD
        by_cases c1 : p < en
        case' pos => have d4 : decide (p < en) = true := by rw [decide_eq_true_eq]; exact c1
        case' neg =>
          have d4 : decide (p < en) = false := by rw [decide_eq_false_iff_not]; exact c1
          by_cases c2 : q < 0
          case' pos => have d5 : decide (q < 0) = true := by rw [decide_eq_true_eq]; exact c2
          case' neg =>
            have d5 : decide (q < 0) = false := by rw [decide_eq_false_iff_not]; exact c2
            have d6 : decide (real - p < q) = true := by rw [decide_eq_true_eq]; omega
        all_goals
          by_cases hk0 : k = 0
          case' pos =>
            subst hk0
            simp only [Nat.zero_mul, Nat.add_zero] at hc1 hc2
          case' neg => have hk1 : 0 < k := by omega
          all_goals
            go_wp2
            go_ret
            exact ⟨by rw [HE2.out]; rfl, HB2.out⟩
      · have HST2 := hid (HST.out hbad)
        have c1 : ¬ p < en := by omega
        have c2 : ¬ q < 0 := by omega
        have c3 : ¬ real - p < q := by omega
        have d4 : decide (p < en) = false := by rw [decide_eq_false_iff_not]; exact c1
        have d5 : decide (q < 0) = false := by rw [decide_eq_false_iff_not]; exact c2
        have d6 : decide (real - p < q) = false := by rw [decide_eq_false_iff_not]; exact c3
        clear hbad HST HBD
        by_cases hk0 : k = 0
        case' pos =>
          subst hk0
          simp only [Nat.zero_mul, Nat.add_zero] at hc1 hc2
        case' neg => have hk1 : 0 < k := by omega
        all_goals
          go_wp2
          go_roundw
          case rel => exact ⟨_, p + q, sn + q, (show Value.int .i64 _ = Value.int .i64 ((_ + 1 : Nat) : Int) by go_num), by go_num, by go_num, by omega, by omega, by omega, by omega, by omega, HST2, HB2⟩
          case measure => simp [RowKit.intOf]; omega
    · obtain rfl : k = n := by omega
      have HN := hid (show M.walk real 0 0 l = some (en, sn) from M.walk_end (by rw [HL.out]; exact HW.out))
      by_cases hs : sn = stored
      · have d7 : (sn != stored) = false := by simpa using hs
        have HE2 := hid (show M.check l stored real = 0 by rw [HE.out, HN.out]; show (if sn = stored then (0:Int) else 11) = 0; rw [if_pos hs])
        clear hs
        go_wp2
        go_ret
        exact ⟨by rw [HE2.out]; rfl, HB.out⟩
      · have d7 : (sn != stored) = true := by simpa using hs
        have HE2 := hid (show M.check l stored real = 11 by rw [HE.out, HN.out]; show (if sn = stored then (0:Int) else 11) = 11; rw [if_neg hs])
        clear hs
        go_wp2
        go_ret
        exact ⟨by rw [HE2.out]; rfl, HB.out⟩
end Go.Proofs.YtjpflljmeaihgaaDoor
