/-
  Variables that hold a header, or what is known: laid at once, loaded whole.
-/
import Derived.Test.YtbhpedhdhgjkoaaGreatDoorMtText
set_option linter.unusedVariables false
set_option linter.unusedSimpArgs false
namespace Go.Proofs.YtbhpedhdhgjkoaaGreatDoor
open Go.RowKit Go.Lib
open Px (R2 tl)

theorem hdr_size : (Tryz.prog.info? 34).map (·.size) = some 17 := by kernel_rfl
theorem met_size : (Tryz.prog.info? 28).map (·.size) = some 17 := by kernel_rfl
theorem hcells_one (h : M.Hdr) {pv : Value} (hp : pv.oneCell' = true) : (hcells h pv).all (·.oneCell') = true := by simpa [hcells, Value.oneCell'] using hp
theorem mcells_one (m : M.Met) {pv ev : Value} (hp : pv.oneCell' = true) (he : ev.oneCell' = true) : (mcells m pv ev).all (·.oneCell') = true := by
  simp only [mcells, List.all_toArray, List.all_cons, List.all_nil, Bool.and_true, hp, he]
  rfl
/-- Block g is a header. -/
def HB (w : World) (g : Nat) (h : M.Hdr) (pv : Value) : Prop := w.heap[g]? = some (.cells (hcells h pv) 34 (0, 0))
section
variable {w w' : World} {g : Nat} {h : M.Hdr} {pv : Value}
theorem HB.lt (hb : HB w g h pv) : g < w.heap.size := (Array.getElem?_eq_some_iff.1 hb).1
theorem HB.cell (hb : HB w g h pv) {i : Nat} {v : Value} (hv : (hcells h pv)[i]? = some v) : w.cell? ⟨g, i, none⟩ = some v := by
  rw [cell_of_row w g i _ _ (0, 0) hb]; exact hv
theorem HB.frozen (hb : HB w g h pv) (i : Nat) : w.frozen? ⟨g, i, none⟩ = false := frozen_of_row w g i _ _ hb
theorem HB.of_block (hb : HB w g h pv) (e : w'.heap[g]? = w.heap[g]?) : HB w' g h pv := e.trans hb
theorem HB.other (hb : HB w g h pv) {a : Addr} (hn : g ≠ a.block) (v : Value) : HB (w.setCell a v) g h pv := hb.of_block (heap_setCell_other w a g v hn)
theorem HB.alloc (hb : HB w g h pv) (o : Obj) : HB (w.alloc o) g h pv := hb.of_block (by show (w.heap.push o)[g]? = _; rw [Array.getElem?_push, if_neg (Nat.ne_of_lt hb.lt)])
theorem HB.drew (hb : HB w g h pv) : HB w.drew g h pv := hb
theorem HB.drewN (hb : HB w g h pv) (n : Nat) : HB (w.drewN n) g h pv := hb
theorem HB.below {B : Nat} (hb : HB w g h pv) (hw : Below B w w') (hB : g < B) : HB w' g h pv := hb.of_block (hw.block g hB)
theorem HB.new (w : World) (h : M.Hdr) (pv : Value) : HB (w.alloc (.cells (hcells h pv) 34)) w.heap.size h pv := heap_alloc_new w _
theorem HB.set (hb : HB w g h pv) (i : Nat) (v : Value) {h' : M.Hdr} {pv' : Value} (e : (hcells h pv).set! i v = hcells h' pv') : HB (w.setCell ⟨g, i, none⟩ v) g h' pv' := by
  unfold HB
  rw [heap_setCell_same w g i _ _ _ hb, ← e]
  simp
theorem HB.load (hb : HB w g h pv) : Sem.run Tryz.prog (loadVar 34 ⟨g, 0, none⟩) w = .ok (.agg (hcells h pv)) w :=
  run_loadVar_row (P := Tryz.prog) w g 34 34 (hcells h pv) (0, 0) _ hb Tryz.underlying34 rfl hdr_size
end
section
variable {w w' : World} {g : Nat} {m : M.Met} {pv ev : Value}
theorem MB.frozen (hb : MB w g m pv ev) (i : Nat) : w.frozen? ⟨g, i, none⟩ = false := frozen_of_row w g i _ _ hb
theorem MB.other (hb : MB w g m pv ev) {a : Addr} (hn : g ≠ a.block) (v : Value) : MB (w.setCell a v) g m pv ev := hb.of_block (heap_setCell_other w a g v hn)
theorem MB.alloc (hb : MB w g m pv ev) (o : Obj) : MB (w.alloc o) g m pv ev := hb.of_block (by show (w.heap.push o)[g]? = _; rw [Array.getElem?_push, if_neg (Nat.ne_of_lt hb.lt)])
theorem MB.set (hb : MB w g m pv ev) (i : Nat) (v : Value) {m' : M.Met} {pv' ev' : Value} (e : (mcells m pv ev).set! i v = mcells m' pv' ev') : MB (w.setCell ⟨g, i, none⟩ v) g m' pv' ev' := by
  unfold MB
  rw [heap_setCell_same w g i _ _ _ hb, ← e]
  simp
theorem MB.load (hb : MB w g m pv ev) : Sem.run Tryz.prog (loadVar 28 ⟨g, 0, none⟩) w = .ok (.agg (mcells m pv ev)) w :=
  run_loadVar_row (P := Tryz.prog) w g 28 28 (mcells m pv ev) (0, 0) _ hb Tryz.underlying28 rfl met_size
end

theorem below_setRow {B : Nat} {w0 w : World} (h : Below B w0 w) {g : Nat} (hg : B ≤ g) (cs : Array Value) : Below B w0 (w.setRow g cs) :=
  h.trans ⟨rfl, rfl, rfl, by simp, fun k hk => setRow_other w g k cs (by omega)⟩
theorem store_row (w : World) (g : Nat) (C : Array Value) (t : TypeId) (D : List Value) (hb : w.heap[g]? = some (.cells C t (0, 0))) (hs : D.length = C.size) (h1 : ∀ v ∈ D, v.oneCell' = true) :
    Sem.run Tryz.prog (storeCells ⟨g, 0, none⟩ D) w = .ok () (w.setRow g D.toArray) := by
  have h := run_storeCells_at Tryz.prog g 0 t D 0 C w hb (by omega) h1
  have e : C.toList.take (0 + 0) ++ D ++ C.toList.drop (0 + 0 + D.length) = D := by
    rw [show (0 : Nat) + 0 = 0 from rfl, List.take_zero, Nat.zero_add, hs, List.drop_of_length_le (by simp)]
    simp
  rw [e] at h
  exact h
/-- A header is laid into its new variable. -/
theorem store_new (w : World) (h : M.Hdr) (A : Option Addr) (n c : Nat) :
    Sem.run Tryz.prog (storeCells ⟨w.heap.size, 0, none⟩ (hcells h (.slice A n c)).toList)
      (w.alloc (.cells #[.string ⟨#[]⟩, .int .i64 0, .int .i64 0, .int .i64 0, .int .i64 0, .int .i64 0, .int .u8 0, .string ⟨#[]⟩, .int .i64 0, .string ⟨#[]⟩, .string ⟨#[]⟩, .int .i64 0, .int .i64 0, .string ⟨#[]⟩, .slice none 0 0, .bool false, .int .i64 0] 34)) =
      .ok () (w.alloc (.cells (hcells h (.slice A n c)) 34)) := by
  have e := store_row (w.alloc (.cells (hcells {} (.slice none 0 0)) 34)) w.heap.size _ 34 (hcells h (.slice A n c)).toList (HB.new w {} (.slice none 0 0)) rfl (by
    intro v hv
    have := hcells_one h (pv := .slice A n c) rfl
    rw [Array.all_eq_true'] at this
    exact this v (by simpa using hv))
  rw [show (hcells h (.slice A n c)).toList.toArray = hcells h (.slice A n c) from rfl] at e
  rw [World.setRow_alloc_new] at e
  exact e
end Go.Proofs.YtbhpedhdhgjkoaaGreatDoor
