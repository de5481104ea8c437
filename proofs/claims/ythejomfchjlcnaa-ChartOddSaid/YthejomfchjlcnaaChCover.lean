/-
  The contracts of Class, Count and Covers.
-/
import Derived.Test.YthejomfchjlcnaaChAsks
set_option linter.unusedVariables false
set_option linter.unusedSimpArgs false
namespace Go.Proofs.Ythejomfchjlcnaa
open Go.RowKit Go.Lib

set_option maxRecDepth 100000 in
set_option maxHeartbeats 2000000 in
theorem class_any (A : Option Addr) (n c : Nat) (l : List C.Sp) (i : Int) (w : World) (hr : RdS w w.heap.size A n l) (hn : n ≤ 1000000) (hc : n ≤ c) :
    Calls Try.prog 12 #[.slice A n c, .int .i64 i] w fun e w' => e = .returned (.int .i64 (C.cls l i)) ∧ Below w.heap.size w w' := by
  have HI := hid (index_any A n c l i w.heap.size (w.alloc (.cells #[.int .i64 i] 3)) ((hr.alloc (Nat.le_refl _) _).more (by simp)) (Boxed.new w _ _) hn)
  have HB0 := hid ((Below.refl _ w).alloc (Nat.le_refl _) (.cells #[.int .i64 i] 3))
  have HR := hid hr
  have HL := hid hr.len
  clear hr
  go_enter Try.func12, Try.ntmps12
  go_wp2_with fail
  (with_reducible refine HI.out.mono ?_)
  rintro e w2 ⟨⟨r, rfl, h⟩, b2⟩
  have HB := hid (HB0.out.trans (b2.mono (by simp)))
  clear b2
  rcases h with ⟨k, p, rfl, hp, hcl⟩ | ⟨rfl, hcl⟩
  · have hk : k < n := by rw [← HL.out]; exact (List.getElem?_eq_some_iff.1 hp).1
    obtain ⟨bb, off, q, rfl, hb, hq, hc1, hc2, hc3⟩ := (HR.out.below HB.out).at_ hk
    obtain rfl : p = q := by rw [hp] at hq; injection hq
    have HC := hid hcl
    have d1 : decide ((k : Int) < 0) = false := by rw [decide_eq_false_iff_not]; omega
    clear hq hp hcl hc1 hc2
    by_cases hk0 : k = 0
    case' pos =>
      subst hk0
      simp only [Nat.zero_mul, Nat.add_zero] at hc3
    case' neg => have hk1 : 0 < k := by omega
    all_goals
      go_wp2
      go_ret
      exact ⟨by rw [HC.out]; rfl, HB.out⟩
  · have HC := hid hcl
    clear hcl
    go_wp2
    go_ret
    exact ⟨by rw [HC.out]; rfl, HB.out⟩

theorem span_size : (Try.prog.info? 29).map (·.size) = some 3 := by kernel_rfl
theorem BoxS.set3 {w : World} {g : Nat} {p : C.Sp} (h : BoxS w g p) (x y z : Int) : BoxS (((w.setCell ⟨g, 0, none⟩ (.int .i64 x)).setCell ⟨g, 1, none⟩ (.int .i64 y)).setCell ⟨g, 2, none⟩ (.int .i64 z)) g (x, y, z) := by
  have h1 := heap_setCell_same w _ 0 _ _ (.int .i64 x) h
  have h2 := heap_setCell_same _ _ 1 _ _ (.int .i64 y) h1
  have h3 := heap_setCell_same _ _ 2 _ _ (.int .i64 z) h2
  simpa [BoxS] using h3
set_option maxRecDepth 100000 in
set_option maxHeartbeats 4000000 in
theorem covers_any (A : Option Addr) (n c : Nat) (l : List C.Sp) (m : Int) (w : World) (hr : RdS w w.heap.size A n l) (hn : n ≤ 1000000) (hcc : n ≤ c) :
    Calls Try.prog 8 #[.slice A n c, .int .i64 m] w fun e w' => e = .returned (.bool (C.cov 0 0 l m)) ∧ Below w.heap.size w w' := by
  have HL := hid hr.len
  have HR := hid hr
  clear hr
  generalize hbb : C.cov 0 0 l m = b0
  have HC0 := hid hbb.symm
  clear hbb
  go_enter Try.func8, Try.ntmps8
  go_wp2
  go_loopw [10] (fun iv wr => ∃ (k : Nat) (s : C.Sp), iv = .int .i64 k ∧ k ≤ n ∧ Hid (b0 = C.cov s.2.1 s.2.2 (l.drop k) m) ∧ BoxS wr w.heap.size s ∧ Hid (Below w.heap.size w wr)) (fun iv _ => n - (RowKit.intOf iv).toNat)
  case atStart => exact ⟨0, (0, 0, 0), rfl, Nat.zero_le _, HC0, BoxS.new w (0, 0, 0), hid ((Below.refl _ _).alloc (Nat.le_refl _) _)⟩
  case round =>
    obtain ⟨k, ⟨s0, s1, s2⟩, rfl, hk, HC, hbx, HW⟩ := hrel
    dsimp only at HC
    by_cases hlt : k < n
    · obtain ⟨bb, off, p, rfl, hb, hp, hc1, hc2, hc3⟩ := (HR.out.below HW.out).at_ hlt
      have hst := C.cov_step HC.out hp
      obtain ⟨px, py, pc⟩ := p
      dsimp only at hc1 hc2 hc3 hst
      have hbs := HW.out.size
      have hbl := hbx.lt
      have g1 : BoxS (wr.alloc (.cells #[.int .i64 px, .int .i64 py, .int .i64 pc] 29)) wr.heap.size (px, py, pc) := BoxS.new wr (px, py, pc)
      have g2 : BoxS (wr.alloc (.cells #[.int .i64 px, .int .i64 py, .int .i64 pc] 29)) w.heap.size (s0, s1, s2) := hbx.of_block (Below.heap_alloc _ _ _ hbl)
      have G1 := hid g1
      have G2 := hid g2
      have G3 := hid (HW.out.alloc HW.out.size (.cells #[.int .i64 px, .int .i64 py, .int .i64 pc] 29))
      have q1 := g2.cell1
      have q2 := g2.cell2
      dsimp only at q1 q2
      have HH := hid (fun (W : World) => has_any (px, py, pc) W)
      have HI := hid (fun (W : World) => isClass_any pc W)
      unfold sval at HH
      dsimp only at HH
      have hgl := g1.lt
      clear hbx g1 g2 hp
      by_cases e1 : px = s1
      case' neg =>
        have d1 : (px != s1) = true := by simpa using e1
        have HE := hid (show b0 = false by rcases hst with ⟨_, h⟩ | ⟨h, _⟩; exact h; exact absurd h.1 e1)
      case' pos =>
        subst e1
        have e1 : px = px := rfl
        have d1 : (px != px) = false := by simp
        by_cases e2 : px < py
        case' neg =>
          have d2 : decide (px < py) = false := by rw [decide_eq_false_iff_not]; exact e2
          rw [d2] at HH
          have HE := hid (show b0 = false by rcases hst with ⟨_, h⟩ | ⟨h, _⟩; exact h; exact absurd h.2.1 e2)
        case' pos =>
          have d2 : decide (px < py) = true := by rw [decide_eq_true_eq]; exact e2
          rw [d2] at HH
          by_cases e3 : 1 ≤ pc ∧ pc ≤ 9
          case' neg =>
            have d3 : (decide (1 ≤ pc) && decide (pc ≤ 9)) = false := by rw [← Bool.decide_and, decide_eq_false_iff_not]; exact e3
            rw [d3] at HI
            have HE := hid (show b0 = false by rcases hst with ⟨_, h⟩ | ⟨h, _⟩; exact h; exact absurd ⟨h.2.2.1, h.2.2.2.1⟩ e3)
          case' pos =>
            have d3 : (decide (1 ≤ pc) && decide (pc ≤ 9)) = true := by rw [← Bool.decide_and, decide_eq_true_eq]; exact e3
            rw [d3] at HI
            by_cases e4 : pc = s2
            case' pos =>
              have HE := hid (show b0 = false by rcases hst with ⟨_, h⟩ | ⟨h, _⟩; exact h; exact absurd e4 h.2.2.2.2)
              subst e4
              have d4 : (pc == pc) = true := by simp
            case' neg =>
              have d4 : (pc == s2) = false := by simpa using e4
              have HE := hid (show b0 = C.cov py pc (l.drop (k + 1)) m by rcases hst with ⟨h, _⟩ | ⟨_, h⟩; exact absurd ⟨e1, e2, e3.1, e3.2, e4⟩ h; exact h)
      all_goals clear hst
      all_goals try clear e1
      all_goals
        by_cases hk0 : k = 0
        case' pos =>
          subst hk0
          simp only [Nat.zero_mul, Nat.add_zero] at hc1 hc2 hc3
        case' neg => have hk1 : 0 < k := by omega
      all_goals
        go_wp2_with (first
          | (go_at_call 14; (with_reducible refine (HH.out _).mono ?_); rintro e w2 ⟨rfl, b2⟩
             have H1 := G1.out.of_block (b2.block _ hgl)
             have H2 := G2.out.of_block (b2.block _ G2.out.lt)
             have r1 := H1.cell0
             have r2 := H1.cell1
             have r3 := H1.cell2
             have r4 := H2.cell2
             have f0 := H2.frozen 0
             have f1 := H2.frozen 1
             have f2 := H2.frozen 2
             dsimp only at r1 r2 r3 r4
             have K1 := hid H1
             have K2 := hid H2
             have K3 := hid (G3.out.trans (b2.mono G3.out.size))
             clear b2 H1 H2)
          | (go_at_call 15; (with_reducible refine (HI.out _).mono ?_); rintro e w3 ⟨rfl, rfl⟩)
          | (refine wpList_store_row rfl 29 (.tmp 5) (.tmp 37) rfl w.heap.size #[.int .i64 px, .int .i64 py, .int .i64 pc] rfl rfl 29 #[.int .i64 s0, .int .i64 px, .int .i64 s2] K2.out span_size rfl (by simp [Value.oneCell']) ?_
             have X1 := hid (setRow_heap _ _ _ #[.int .i64 px, .int .i64 py, .int .i64 pc] _ _ K2.out)
             have X2 := hid (below_setRow K3.out (Nat.le_refl w.heap.size) #[.int .i64 px, .int .i64 py, .int .i64 pc])))
      all_goals
        first
          | (go_ret
             first
               | exact ⟨by rw [HE.out]; rfl, K3.out⟩
               | exact ⟨by rw [HE.out]; rfl, G3.out⟩)
          | (go_roundw
             case rel => exact ⟨_, (px, py, pc), (show Value.int .i64 _ = Value.int .i64 ((_ + 1 : Nat) : Int) by go_num), by omega, HE, X1.out, X2⟩
             case measure => simp [RowKit.intOf] <;> omega)
    · obtain rfl : k = n := by omega
      have HE := hid (show b0 = decide (s1 = m) by rw [HC.out, List.drop_of_length_le (by rw [HL.out]; exact Nat.le_refl _)]; rfl)
      have c1 := hbx.cell1
      dsimp only at c1
      clear HC hbx
      go_wp2
      go_ret
      exact ⟨by rw [HE.out]; first | rfl | (congr 2; rw [eq_comm]; rfl), HW.out⟩
end Go.Proofs.Ythejomfchjlcnaa
