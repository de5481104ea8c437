/-
  A header in memory; what stops a call; the deferred functions' contracts.
-/
import Derived.Test.YtcedcfagfklohaaKhHdMath
import Derived.Test.YtcedcfagfklohaaKhSumMem
import Derived.Defers
import Derived.Recover
import Derived.Laws.Pointers
import Derived.WalkSmall
import Derived.WalkLawsBesides
set_option linter.unusedVariables false
set_option linter.unusedSimpArgs false
namespace Go.Proofs.Ytcedcfagfklohaa.Hd
open Go.RowKit

/-- A header's cells; pv: its parts' slice. -/
def hcells (h : M.Hdr) (pv : Value) : Array Value :=
  #[.string h.name, .int .i64 h.mode, .int .i64 h.uid, .int .i64 h.gid, .int .i64 h.size, .int .i64 h.mtime, .int .u8 h.kind, .string h.link, .int .i64 h.way, .string h.user, .string h.group, .int .i64 h.major, .int .i64 h.minor, .string h.pre, pv, .bool h.more, .int .i64 h.real]
theorem hcells_one (h : M.Hdr) {pv : Value} (hp : pv.oneCell' = true) : (hcells h pv).all (·.oneCell') = true := by simpa [hcells, Value.oneCell'] using hp
theorem hcells_size (h : M.Hdr) (pv : Value) : (hcells h pv).size = 17 := rfl
/-- Block g is a header. -/
def HB (w : World) (g : Nat) (h : M.Hdr) (pv : Value) : Prop := w.heap[g]? = some (.cells (hcells h pv) 28 (0, 0))
section
variable {w w' : World} {g : Nat} {h : M.Hdr} {pv : Value}
theorem HB.lt (hb : HB w g h pv) : g < w.heap.size := (Array.getElem?_eq_some_iff.1 hb).1
theorem HB.cell (hb : HB w g h pv) {i : Nat} {v : Value} (hv : (hcells h pv)[i]? = some v) : w.cell? ⟨g, i, none⟩ = some v := by
  rw [cell_of_row w g i _ _ (0, 0) hb]; exact hv
theorem HB.frozen (hb : HB w g h pv) (i : Nat) : w.frozen? ⟨g, i, none⟩ = false := frozen_of_row w g i _ _ hb
theorem HB.of_block (hb : HB w g h pv) (e : w'.heap[g]? = w.heap[g]?) : HB w' g h pv := e.trans hb
theorem HB.other (hb : HB w g h pv) {a : Addr} (hn : g ≠ a.block) (v : Value) : HB (w.setCell a v) g h pv := hb.of_block (heap_setCell_other w a g v hn)
theorem HB.alloc (hb : HB w g h pv) (o : Obj) : HB (w.alloc o) g h pv := hb.of_block (by show (w.heap.push o)[g]? = _; rw [Array.getElem?_push, if_neg (Nat.ne_of_lt hb.lt)])
theorem HB.drew (hb : HB w g h pv) : HB w.drew g h pv := hb
theorem HB.drewN (hb : HB w g h pv) (n : Nat) : HB (w.drewN n) g h pv := hb
theorem HB.below {B : Nat} (hb : HB w g h pv) (hw : Below B w w') (hB : g < B) : HB w' g h pv := hb.of_block (hw.block g hB)
theorem HB.new (w : World) (h : M.Hdr) (pv : Value) : HB (w.alloc (.cells (hcells h pv) 28)) w.heap.size h pv := heap_alloc_new w _
theorem HB.set (hb : HB w g h pv) (i : Nat) (v : Value) {h' : M.Hdr} {pv' : Value} (e : (hcells h pv).set! i v = hcells h' pv') : HB (w.setCell ⟨g, i, none⟩ v) g h' pv' := by
  unfold HB
  rw [heap_setCell_same w g i _ _ _ hb, ← e]
  simp
end

theorem frozen_of_heap {w w' : World} {a : Addr} (e : w'.heap[a.block]? = w.heap[a.block]?) : w'.frozen? a = w.frozen? a := by
  unfold World.frozen?
  rw [e]

theorem after_alloc {w W : World} {o : Obj} (h : w.alloc o = W) : W.heap[w.heap.size]? = some o ∧ Below w.heap.size w W ∧ ∀ a : Addr, a.block < w.heap.size → W.cell? a = w.cell? a := by
  subst h
  exact ⟨heap_alloc_new w o, (Below.refl _ w).alloc (Nat.le_refl _) o, fun a ha => World.cell?_alloc_lt w o a ha⟩
/-! Parse's deferred function. -/
theorem hdr_size : (Try.prog.info? 28).map (·.size) = some 17 := by kernel_rfl
end Go.Proofs.Ytcedcfagfklohaa.Hd
