/-
  Times in memory; the program's and the document's Norm; the time on the other side of nought.
-/
import Derived.Test.YtahhgphlfodonaaDoorStpMem
import Derived.Lib.Hide
namespace Go.Proofs.YtahhgphlfodonaaDoor
open Go.RowKit

/-- A time as a value. -/
def tv (t : M.Tm) : Value := .agg #[.int .i64 t.1, .int .i64 t.2]
/-- Block g is a time. -/
def BoxT (w : World) (g : Nat) (t : M.Tm) : Prop := w.heap[g]? = some (.cells #[.int .i64 t.1, .int .i64 t.2] 25 (0, 0))
section
variable {w w' : World} {g : Nat} {t : M.Tm}
theorem BoxT.new (w : World) (t : M.Tm) : BoxT (w.alloc (.cells #[.int .i64 t.1, .int .i64 t.2] 25)) w.heap.size t := heap_alloc_new w _
theorem BoxT.lt (h : BoxT w g t) : g < w.heap.size := (Array.getElem?_eq_some_iff.1 h).1
theorem BoxT.cell0 (h : BoxT w g t) : w.cell? ⟨g, 0, none⟩ = some (.int .i64 t.1) := by rw [cell_of_row _ _ _ _ _ _ h]; rfl
theorem BoxT.cell1 (h : BoxT w g t) : w.cell? ⟨g, 1, none⟩ = some (.int .i64 t.2) := by rw [cell_of_row _ _ _ _ _ _ h]; rfl
theorem BoxT.below {B : Nat} (h : BoxT w g t) (hb : Below B w w') (hg : g < B) : BoxT w' g t := (hb.block g hg).trans h
theorem BoxT.alloc (h : BoxT w g t) (o : Obj) : BoxT (w.alloc o) g t := (Below.heap_alloc w o g h.lt).trans h
theorem BoxT.drew (h : BoxT w g t) : BoxT w.drew g t := h
theorem BoxT.frozen (h : BoxT w g t) (i : Nat) : w.frozen? ⟨g, i, none⟩ = false := by
  unfold BoxT at h
  simp [World.frozen?, h]
theorem BoxT.set (h : BoxT w g t) (u : M.Tm) : BoxT ((w.setCell ⟨g, 0, none⟩ (.int .i64 u.1)).setCell ⟨g, 1, none⟩ (.int .i64 u.2)) g u := by
  unfold BoxT at h ⊢
  simp [World.setCell, Array.getElem?_modify, h]
theorem BoxT.other {g' i : Nat} (h : BoxT w g t) (hne : g' ≠ g) (v : Value) : BoxT (w.setCell ⟨g', i, none⟩ v) g t := by
  unfold BoxT at h ⊢
  simp [World.setCell, Array.getElem?_modify, h, hne]
end
theorem below_set2 {B g : Nat} {a w : World} (h : Below B a w) (hg : B ≤ g) (u v : Value) : Below B a ((w.setCell ⟨g, 0, none⟩ u).setCell ⟨g, 1, none⟩ v) :=
  (h.setCell (p := ⟨g, 0, none⟩) hg u).setCell (p := ⟨g, 1, none⟩) hg v

theorem results_time {f : Func} {k : Nat} (hf : f.results = #[ResultVar.cell k 25]) {tmps : Array Value} {g : Nat} {t : M.Tm} {w : World} (hk : tmps.getD k undef = .pointer (some ⟨g, 0, none⟩)) (hb : BoxT w g t) :
    (results f tmps).run Tryd.prog w = .ok (tv t) w := by
  simp only [results, hf]
  rw [Array.getD_eq_getD_getElem?] at hk
  have c0 := hb.cell0
  have c1 := hb.cell1
  simp [go_sem, hk, c0, c1, tv]

theorem ret_time {a b : M.Tm} (h : a = b) : Ending.returned (tv a) = .returned (tv b) := by rw [h]
def i64 (z : Int) : Prop := -9223372036854775808 ≤ z ∧ z ≤ 9223372036854775807
def TimeIs (t : M.Tm) (w : World) (e : Ending) (w' : World) : Prop := e = .returned (tv t) ∧ Below w.heap.size w w'

theorem box2 (w : World) (o : Obj) (t : M.Tm) : BoxT ((w.alloc o).alloc (.cells #[.int .i64 t.1, .int .i64 t.2] 25)) (w.heap.size + 1) t := by
  have := BoxT.new (w.alloc o) t
  rwa [World.size_alloc] at this
theorem box3 (w : World) (o o2 : Obj) (t : M.Tm) : BoxT (((w.alloc o).alloc o2).alloc (.cells #[.int .i64 t.1, .int .i64 t.2] 25)) (w.heap.size + 1 + 1) t := by
  have := BoxT.new ((w.alloc o).alloc o2) t
  rwa [World.size_alloc, World.size_alloc] at this
theorem below2 (w : World) (o o2 : Obj) : Below w.heap.size w ((w.alloc o).alloc o2) := ((Below.refl _ w).alloc (Nat.le_refl _) _).alloc (by simp) _
theorem below3 (w : World) (o o2 o3 : Obj) : Below w.heap.size w (((w.alloc o).alloc o2).alloc o3) := (below2 w o o2).alloc (by simp; omega) _

set_option maxRecDepth 100000 in
set_option maxHeartbeats 1000000 in
theorem opp_any (S n : Int) (h : M.Ok (S, n)) (w : World) : Calls Tryd.prog 24 #[.agg #[.int .i64 S, .int .i64 n]] w (TimeIs (M.opp (S, n)) w) := by
  obtain ⟨h1, h2, h3, h4⟩ := h
  dsimp only at h1 h2 h3 h4
  by_cases h0 : n = 0
  · subst h0
    have ho : M.opp (S, 0) = (-S, 0) := rfl
    rw [ho]
    clear ho
    go_enter Tryd.func24, Tryd.ntmps24
    go_wp2
    exact bodyPost_ret (results_time rfl rfl (box2 w _ (-S, 0))) rfl ⟨rfl, below2 _ _ _⟩
  · have ho : M.opp (S, n) = (-S - 1, 1000000000 - n) := by unfold M.opp; rw [if_neg h0]
    rw [ho]
    clear ho
    go_enter Tryd.func24, Tryd.ntmps24
    go_wp2
    exact bodyPost_ret (results_time rfl rfl (box2 w _ (-S - 1, 1000000000 - n))) rfl ⟨rfl, below2 _ _ _⟩

/-- May be a number of 64 bits. -/
def I6 (t : M.Tm) : Prop := i64 t.1 ∧ i64 t.2

set_option maxRecDepth 100000 in
set_option maxHeartbeats 1000000 in
theorem sooner_any (a b : M.Tm) (w : World) : Calls Tryd.prog 28 #[tv a, tv b] w (TimeIs (if b.1 < a.1 ∨ b.1 = a.1 ∧ b.2 < a.2 then b else a) w) := by
  obtain ⟨S, n⟩ := a
  obtain ⟨T, m⟩ := b
  unfold tv
  dsimp only
  go_enter Tryd.func28, Tryd.ntmps28
  go_wp2
  all_goals
    try simp only [beq_iff_eq, beq_eq_false_iff_ne, ne_eq] at *
    refine bodyPost_ret (results_time rfl rfl (box3 w _ _ (_, _))) rfl ⟨ret_time ?_, below3 _ _ _ _⟩
    first
      | rfl
      | (split <;> first | rfl | (exfalso; omega) | (simp only [Prod.mk.injEq]; omega))
      | (simp only [Prod.mk.injEq]; omega)
/-- Norm, with the very world that it leaves. -/
def NormTo (t u : M.Tm) (w : World) (e : Ending) (w' : World) : Prop :=
  e = .returned (.agg #[.int .i64 u.1, .int .i64 u.2]) ∧ w' = (w.alloc (.cells #[.int .i64 t.1, .int .i64 t.2] 25)).alloc (.cells #[.int .i64 u.1, .int .i64 u.2] 25)
theorem NormTo.of {S n p q : Int} {w w' : World} (h : (p, q) = M.norm (S, n)) (hw : w' = (w.alloc (.cells #[.int .i64 S, .int .i64 n] 25)).alloc (.cells #[.int .i64 p, .int .i64 q] 25)) : NormTo (S, n) (M.norm (S, n)) w (.returned (tv (p, q))) w' := by
  rw [← h]; exact ⟨rfl, hw⟩

set_option maxRecDepth 100000 in
set_option maxHeartbeats 1000000 in
theorem norm_to (S n : Int) (w : World) : Calls Tryd.prog 16 #[.agg #[.int .i64 S, .int .i64 n]] w (NormTo (S, n) (M.norm (S, n)) w) := by
  go_enter Tryd.func16, Tryd.ntmps16
  go_wp2
  all_goals
    refine bodyPost_ret (results_time rfl rfl (box2 w _ (_, _))) rfl (NormTo.of ?_ rfl)
    unfold M.norm
    simp only [Prod.mk.injEq]
    omega
set_option maxRecDepth 100000 in
set_option maxHeartbeats 1000000 in
theorem refNorm_to (S n : Int) (w : World) : Calls Tryd.prog 17 #[.agg #[.int .i64 S, .int .i64 n]] w (NormTo (S, n) (M.norm (S, n)) w) := by
  go_enter Tryd.func17, Tryd.ntmps17
  go_wp2
  all_goals
    refine bodyPost_ret (results_time rfl rfl (box2 w _ (_, _))) rfl (NormTo.of ?_ rfl)
    unfold M.norm
    simp only [Prod.mk.injEq]
    omega
theorem NormTo.is {t u : M.Tm} {w w' : World} {e : Ending} (h : NormTo t u w e w') : TimeIs u w e w' := by
  obtain ⟨rfl, rfl⟩ := h
  exact ⟨rfl, below2 _ _ _⟩
theorem norm_any (S n : Int) (w : World) : Calls Tryd.prog 16 #[.agg #[.int .i64 S, .int .i64 n]] w (TimeIs (M.norm (S, n)) w) := (norm_to S n w).mono fun _ _ h => h.is
theorem refNorm_any (S n : Int) (w : World) : Calls Tryd.prog 17 #[.agg #[.int .i64 S, .int .i64 n]] w (TimeIs (M.norm (S, n)) w) := (refNorm_to S n w).mono fun _ _ h => h.is
end Go.Proofs.YtahhgphlfodonaaDoor
