/-
  head.Parse: its steps.
-/
import Derived.Test.YtkpnhggpcpjddaaGreatDoorHdParts
import Derived.Test.YtkpnhggpcpjddaaGreatDoorHdMathP
set_option linter.unusedVariables false
set_option linter.unusedSimpArgs false
namespace Go.Proofs.YtkpnhggpcpjddaaGreatDoor
open Go.RowKit Go.Lib

theorem PF.start (w : World) : PF w ((w.alloc (.cells (hcells {} (.slice none 0 0)) 33)).alloc (.cells #[.int .u16 0] 42)) {} (.slice none 0 0) := by
  refine ⟨(HB.new w {} _).alloc _, ?_, ((Below.refl _ w).alloc (Nat.le_refl _) _).alloc (by simp) _⟩
  have := heap_alloc_new (w.alloc (.cells (hcells {} (.slice none 0 0)) 33)) (.cells #[.int .u16 0] 42)
  rwa [World.size_alloc] at this
theorem PF.more {w W : World} {h : M.Hdr} {pv : Value} (p : PF w W h pv) (o : Obj) : PF w (W.alloc o) h pv := p.later ((Below.refl _ _).alloc (Nat.le_refl _) _)
theorem PF.text {w W w' : World} {h h' : M.Hdr} {pv : Value} {zs : List Int} {a m i : Nat} {there : Bool} {e : Ending} (p : PF w W h pv) (t : TxtTo zs a m there ⟨w.heap.size, i, none⟩ W e w')
    (h1 : there = true → (hcells h pv).set! i (.string (M.txt zs a m)) = hcells h' pv) (h0 : there = false → h = h') : e = .returned (.tuple #[]) ∧ PF w w' h' pv := by
  obtain ⟨rfl, t⟩ := t
  refine ⟨rfl, ?_⟩
  cases ht : there with
  | true =>
    rw [ht, if_pos rfl] at t
    obtain ⟨w1, b1, rfl⟩ := t
    exact (p.later b1).set i _ (h1 ht)
  | false =>
    rw [ht, if_neg (by decide)] at t
    rw [← h0 ht]
    exact p.later t
theorem PF.num {w W w' : World} {h h' : M.Hdr} {pv : Value} {zs : List Int} {a m i : Nat} {there ok : Bool} {lo up : Int} {e : Ending} (p : PF w W h pv) (t : NumTo zs a m there lo up ⟨w.heap.size, i, none⟩ W e w')
    (hok : ok = (!there || M.numOk zs a m lo up)) (h1 : there = true → (hcells h pv).set! i (.int .i64 (M.num zs a m)) = hcells h' pv) (h0 : there = false → h = h') :
    (ok = false → e = .panicked (boom 32) ∧ PF w w' h pv) ∧ (ok = true → e = .returned (.tuple #[]) ∧ PF w w' h' pv) := by
  unfold NumTo at t
  cases ht : there with
  | true =>
    rw [ht, if_pos rfl] at t
    rw [ht] at hok
    have hok' : ok = M.numOk zs a m lo up := hok
    refine ⟨fun h2 => ?_, fun h2 => ?_⟩
    · rw [if_neg (by rw [← hok', h2]; decide)] at t
      exact ⟨t.1, p.later t.2⟩
    · rw [if_pos (by rw [← hok', h2])] at t
      obtain ⟨rfl, w1, b1, rfl⟩ := t
      exact ⟨rfl, (p.later b1).set i _ (h1 ht)⟩
  | false =>
    rw [ht, if_neg (by decide)] at t
    rw [ht] at hok
    have hok' : ok = true := hok
    refine ⟨fun h2 => ?_, fun _ => ?_⟩
    · rw [hok'] at h2; cases h2
    · rw [← h0 ht]
      exact ⟨t.1, p.later t.2⟩
theorem PF.err0 {w W : World} {h : M.Hdr} {pv : Value} (p : PF w W h pv) : PF w (W.setCell ⟨w.heap.size + 1, 0, none⟩ (.int .u16 0)) h pv :=
  ⟨p.box.other (by simp) _, by have := heap_setCell_same W _ 0 _ _ (.int .u16 0) p.err; simpa using this, p.below.setCell (p := ⟨w.heap.size + 1, 0, none⟩) (by simp) _⟩
theorem PF.whole {w W : World} {h : M.Hdr} {pv : Value} (p : PF w W h pv) : PF w (W.setRow w.heap.size (hcells h pv)) h pv :=
  ⟨setRow_heap W _ _ _ _ _ p.box, (setRow_other W _ _ _ (by simp)).trans p.err, below_setRow p.below (Nat.le_refl _) _⟩

theorem stop_at {r : Int × M.Hdr} {tmps : Array Value} {n : Int} {w0 w : World} {h : M.Hdr} {pv : Value} (hr : r = (n, {})) (p : PF w0 w h pv)
    (h2 : tmps.getD 2 undef = .pointer (some ⟨w0.heap.size, 0, none⟩)) (h3 : tmps.getD 3 undef = .pointer (some ⟨w0.heap.size + 1, 0, none⟩)) :
    bodyPostD Tryz.prog Tryz.f19 (ParseIs r.1 r.2 w0) (.panic (boom n))
      { tmps := tmps, defers := [{ target := .fn (.func 47) #[.pointer (some ⟨w0.heap.size, 0, none⟩), .pointer (some ⟨w0.heap.size + 1, 0, none⟩)], args := #[] }] } w := by
  subst hr
  exact parse_stop p h2 h3
theorem end_at {r : Int × M.Hdr} {tmps : Array Value} {w0 w : World} {h : M.Hdr} {pv : Value} (hr : r = (0, h)) (p : PF w0 w h pv) (hp : PartsIs w w0.heap.size pv h.parts)
    (h2 : tmps.getD 2 undef = .pointer (some ⟨w0.heap.size, 0, none⟩)) (h3 : tmps.getD 3 undef = .pointer (some ⟨w0.heap.size + 1, 0, none⟩)) :
    bodyPostD Tryz.prog Tryz.f19 (ParseIs r.1 r.2 w0) .ret
      { tmps := tmps, defers := [{ target := .fn (.func 47) #[.pointer (some ⟨w0.heap.size, 0, none⟩), .pointer (some ⟨w0.heap.size + 1, 0, none⟩)], args := #[] }] } w := by
  subst hr
  have hc : w.cell? ⟨w0.heap.size + 1, 0, none⟩ = some (.int .u16 0) := by rw [cell_of_row _ _ 0 _ _ _ p.err]; rfl
  refine leaves_cons (f := 47) (args := #[.pointer (some ⟨w0.heap.size, 0, none⟩), .pointer (some ⟨w0.heap.size + 1, 0, none⟩)]) (by simp) (by simp [go_sem]) ?_
  refine (parse_idle _ _ w).mono ?_
  rintro e u' w'' ⟨rfl, rfl, rfl⟩
  have hres := results_parse p.box hc h2 h3
  show Leaves _ _ _ _ [] (settle _) _
  simp only [settle]
  exact ⟨_, hres, pv, rfl, hp, p.below⟩

theorem texts_at0 (g : Nat) (v : Int) (w : World) : (Instr.index 75 (.agg (textsV g v)) (.int .i64 0)).run Tryz.prog w = .ok (.agg #[.int .i64 0, .int .i64 100, .bool true, .pointer (some ⟨g, 0, none⟩)]) w := by kernel_rfl
theorem texts_at1 (g : Nat) (v : Int) (w : World) : (Instr.index 75 (.agg (textsV g v)) (.int .i64 1)).run Tryz.prog w = .ok (.agg #[.int .i64 157, .int .i64 100, .bool true, .pointer (some ⟨g, 7, none⟩)]) w := by kernel_rfl
theorem texts_at2 (g : Nat) (v : Int) (w : World) : (Instr.index 75 (.agg (textsV g v)) (.int .i64 2)).run Tryz.prog w = .ok (.agg #[.int .i64 265, .int .i64 32, .bool (v != 0), .pointer (some ⟨g, 9, none⟩)]) w := by kernel_rfl
theorem texts_at3 (g : Nat) (v : Int) (w : World) : (Instr.index 75 (.agg (textsV g v)) (.int .i64 3)).run Tryz.prog w = .ok (.agg #[.int .i64 297, .int .i64 32, .bool (v != 0), .pointer (some ⟨g, 10, none⟩)]) w := by kernel_rfl
theorem texts_at4 (g : Nat) (v : Int) (w : World) : (Instr.index 75 (.agg (textsV g v)) (.int .i64 4)).run Tryz.prog w = .ok (.agg #[.int .i64 345, .int .i64 155, .bool (v == 1), .pointer (some ⟨g, 13, none⟩)]) w := by kernel_rfl
theorem nums_at0 (g : Nat) (k v : Int) (w : World) : (Instr.index 82 (.agg (numbersV g k v)) (.int .i64 0)).run Tryz.prog w = .ok (.agg #[.int .i64 100, .int .i64 8, .bool true, .int .i64 0, .int .i64 4611686018427387904, .pointer (some ⟨g, 1, none⟩)]) w := by kernel_rfl
theorem nums_at1 (g : Nat) (k v : Int) (w : World) : (Instr.index 82 (.agg (numbersV g k v)) (.int .i64 1)).run Tryz.prog w = .ok (.agg #[.int .i64 108, .int .i64 8, .bool true, .int .i64 0, .int .i64 4611686018427387904, .pointer (some ⟨g, 2, none⟩)]) w := by kernel_rfl
theorem nums_at2 (g : Nat) (k v : Int) (w : World) : (Instr.index 82 (.agg (numbersV g k v)) (.int .i64 2)).run Tryz.prog w = .ok (.agg #[.int .i64 116, .int .i64 8, .bool true, .int .i64 0, .int .i64 4611686018427387904, .pointer (some ⟨g, 3, none⟩)]) w := by kernel_rfl
theorem nums_at3 (g : Nat) (k v : Int) (w : World) : (Instr.index 82 (.agg (numbersV g k v)) (.int .i64 3)).run Tryz.prog w = .ok (.agg #[.int .i64 124, .int .i64 12, .bool true, .int .i64 0, .int .i64 1099511627776, .pointer (some ⟨g, 4, none⟩)]) w := by kernel_rfl
theorem nums_at4 (g : Nat) (k v : Int) (w : World) : (Instr.index 82 (.agg (numbersV g k v)) (.int .i64 4)).run Tryz.prog w = .ok (.agg #[.int .i64 136, .int .i64 12, .bool true, .int .i64 (-4611686018427387904), .int .i64 4611686018427387904, .pointer (some ⟨g, 5, none⟩)]) w := by kernel_rfl
theorem nums_at5 (g : Nat) (k v : Int) (w : World) : (Instr.index 82 (.agg (numbersV g k v)) (.int .i64 5)).run Tryz.prog w = .ok (.agg #[.int .i64 329, .int .i64 8, .bool (v != 0), .int .i64 0, .int .i64 4611686018427387904, .pointer (some ⟨g, 11, none⟩)]) w := by kernel_rfl
theorem nums_at6 (g : Nat) (k v : Int) (w : World) : (Instr.index 82 (.agg (numbersV g k v)) (.int .i64 6)).run Tryz.prog w = .ok (.agg #[.int .i64 337, .int .i64 8, .bool (v != 0), .int .i64 0, .int .i64 4611686018427387904, .pointer (some ⟨g, 12, none⟩)]) w := by kernel_rfl
theorem nums_at7 (g : Nat) (k v : Int) (w : World) : (Instr.index 82 (.agg (numbersV g k v)) (.int .i64 7)).run Tryz.prog w = .ok (.agg #[.int .i64 483, .int .i64 12, .bool (k == 83 && v == 2), .int .i64 0, .int .i64 1099511627776, .pointer (some ⟨g, 16, none⟩)]) w := by kernel_rfl

/-! What each step lays. -/
theorem rt_step0 (zs : List Int) (h : M.Hdr) (pv : Value) : (true = true → (hcells (M.rt zs h 0) pv).set! 0 (.string (M.txt zs 0 100)) = hcells (M.rt zs h 1) pv) ∧ (true = false → M.rt zs h 0 = M.rt zs h 1) := by
  exact ⟨fun _ => rfl, fun h => by cases h⟩
theorem rt_step1 (zs : List Int) (h : M.Hdr) (pv : Value) : (true = true → (hcells (M.rt zs h 1) pv).set! 7 (.string (M.txt zs 157 100)) = hcells (M.rt zs h 2) pv) ∧ (true = false → M.rt zs h 1 = M.rt zs h 2) := by
  exact ⟨fun _ => rfl, fun h => by cases h⟩
theorem rt_step2 (zs : List Int) (h : M.Hdr) (pv : Value) : ((h.way != 0) = true → (hcells (M.rt zs h 2) pv).set! 9 (.string (M.txt zs 265 32)) = hcells (M.rt zs h 3) pv) ∧ ((h.way != 0) = false → M.rt zs h 2 = M.rt zs h 3) := by
  refine ⟨fun e => ?_, fun e => ?_⟩
  · unfold hcells M.rt
    simp [e]
  · unfold M.rt
    simp [e]
theorem rt_step3 (zs : List Int) (h : M.Hdr) (pv : Value) : ((h.way != 0) = true → (hcells (M.rt zs h 3) pv).set! 10 (.string (M.txt zs 297 32)) = hcells (M.rt zs h 4) pv) ∧ ((h.way != 0) = false → M.rt zs h 3 = M.rt zs h 4) := by
  refine ⟨fun e => ?_, fun e => ?_⟩
  · unfold hcells M.rt
    simp [e]
  · unfold M.rt
    simp [e]
theorem rt_step4 (zs : List Int) (h : M.Hdr) (pv : Value) : ((h.way == 1) = true → (hcells (M.rt zs h 4) pv).set! 13 (.string (M.txt zs 345 155)) = hcells (M.rt zs h 5) pv) ∧ ((h.way == 1) = false → M.rt zs h 4 = M.rt zs h 5) := by
  refine ⟨fun e => ?_, fun e => ?_⟩
  · unfold hcells M.rt
    simp [e]
  · unfold M.rt
    simp [e]
theorem rn_step0 (zs : List Int) (h : M.Hdr) (pv : Value) : (true = true → (hcells (M.rn zs h 0) pv).set! 1 (.int .i64 (M.num zs 100 8)) = hcells (M.rn zs h 1) pv) ∧ (true = false → M.rn zs h 0 = M.rn zs h 1) := by
  exact ⟨fun _ => rfl, fun h => by cases h⟩
theorem rn_step1 (zs : List Int) (h : M.Hdr) (pv : Value) : (true = true → (hcells (M.rn zs h 1) pv).set! 2 (.int .i64 (M.num zs 108 8)) = hcells (M.rn zs h 2) pv) ∧ (true = false → M.rn zs h 1 = M.rn zs h 2) := by
  exact ⟨fun _ => rfl, fun h => by cases h⟩
theorem rn_step2 (zs : List Int) (h : M.Hdr) (pv : Value) : (true = true → (hcells (M.rn zs h 2) pv).set! 3 (.int .i64 (M.num zs 116 8)) = hcells (M.rn zs h 3) pv) ∧ (true = false → M.rn zs h 2 = M.rn zs h 3) := by
  exact ⟨fun _ => rfl, fun h => by cases h⟩
theorem rn_step3 (zs : List Int) (h : M.Hdr) (pv : Value) : (true = true → (hcells (M.rn zs h 3) pv).set! 4 (.int .i64 (M.num zs 124 12)) = hcells (M.rn zs h 4) pv) ∧ (true = false → M.rn zs h 3 = M.rn zs h 4) := by
  exact ⟨fun _ => rfl, fun h => by cases h⟩
theorem rn_step4 (zs : List Int) (h : M.Hdr) (pv : Value) : (true = true → (hcells (M.rn zs h 4) pv).set! 5 (.int .i64 (M.num zs 136 12)) = hcells (M.rn zs h 5) pv) ∧ (true = false → M.rn zs h 4 = M.rn zs h 5) := by
  exact ⟨fun _ => rfl, fun h => by cases h⟩
theorem rn_step5 (zs : List Int) (h : M.Hdr) (pv : Value) : ((h.way != 0) = true → (hcells (M.rn zs h 5) pv).set! 11 (.int .i64 (M.num zs 329 8)) = hcells (M.rn zs h 6) pv) ∧ ((h.way != 0) = false → M.rn zs h 5 = M.rn zs h 6) := by
  refine ⟨fun e => ?_, fun e => ?_⟩
  · unfold hcells M.rn
    simp [M.holed, e]
  · unfold M.rn
    simp [M.holed, e]
theorem rn_step6 (zs : List Int) (h : M.Hdr) (pv : Value) : ((h.way != 0) = true → (hcells (M.rn zs h 6) pv).set! 12 (.int .i64 (M.num zs 337 8)) = hcells (M.rn zs h 7) pv) ∧ ((h.way != 0) = false → M.rn zs h 6 = M.rn zs h 7) := by
  refine ⟨fun e => ?_, fun e => ?_⟩
  · unfold hcells M.rn
    simp [M.holed, e]
  · unfold M.rn
    simp [M.holed, e]
theorem rn_step7 (zs : List Int) (h : M.Hdr) (pv : Value) : ((h.kind == 83 && h.way == 2) = true → (hcells (M.rn zs h 7) pv).set! 16 (.int .i64 (M.num zs 483 12)) = hcells (M.rn zs h 8) pv) ∧ ((h.kind == 83 && h.way == 2) = false → M.rn zs h 7 = M.rn zs h 8) := by
  refine ⟨fun e => ?_, fun e => ?_⟩
  · unfold hcells M.rn
    simp [M.holed, e]
  · unfold M.rn
    simp [M.holed, e]
theorem rn_none (zs : List Int) (h : M.Hdr) : M.rn zs h 0 = h := by unfold M.rn; simp
theorem rt_way (zs : List Int) (h : M.Hdr) (k : Nat) : (M.rt zs h k).way = h.way ∧ (M.rt zs h k).kind = h.kind ∧ (M.rt zs h k).parts = h.parts := by
  match k with
  | 0 => exact ⟨rfl, rfl, rfl⟩
  | 1 => exact ⟨rfl, rfl, rfl⟩
  | 2 => exact ⟨rfl, rfl, rfl⟩
  | 3 => exact ⟨rfl, rfl, rfl⟩
  | 4 => exact ⟨rfl, rfl, rfl⟩
  | k + 5 => exact ⟨rfl, rfl, rfl⟩
end Go.Proofs.YtkpnhggpcpjddaaGreatDoor
