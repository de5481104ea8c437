/-
  Words for blocks of bytes: a block that is known whole, as a list of numbers 0 to 255; its loads, stores, copies.
-/
import Derived.Test.YtcedcfagfklohaaKhNumZ
import Derived.Test.YtcedcfagfklohaaProg
import Derived.Laws.CopyOwn
import Derived.Deep.WholeRow
import Derived.Deep.AppendLies
import Derived.Deep.RegionLawGrows
import Derived.Stop.BytesEq
import Derived.Laws.BytesString
import Derived.Laws.IdiomStrings
import Derived.Laws.MakeOwn
import Derived.RegionTactic
import Derived.OwnWalk
import Derived.WalkKit
import Derived.ProofKit
set_option linter.unusedVariables false
set_option linter.unusedSimpArgs false
namespace Go.Proofs.Ytcedcfagfklohaa.Hd
open Go.RowKit

/-- The cells of bytes. -/
def bcells (zs : List Int) : List Value := zs.map (Value.int .u8)
theorem bcells_len (zs : List Int) : (bcells zs).length = zs.length := by simp [bcells]
theorem bcells_one (zs : List Int) : ∀ v ∈ bcells zs, v.oneCell' = true := by
  intro v hv
  obtain ⟨z, _, rfl⟩ := List.mem_map.1 hv
  rfl
theorem bcells_all (zs : List Int) : (bcells zs).toArray.all (·.oneCell') = true := by
  rw [Array.all_eq_true_iff_forall_mem]
  intro v hv
  exact bcells_one zs v (by simpa using hv)
theorem bcells_at {zs : List Int} {j : Nat} {z : Int} (h : zs[j]? = some z) : (bcells zs)[j]? = some (.int .u8 z) := by simp [bcells, h]
theorem bcells_at' {zs : List Int} {j : Nat} {v : Value} (h : (bcells zs)[j]? = some v) : ∃ z, zs[j]? = some z ∧ v = .int .u8 z := by
  unfold bcells at h
  rw [List.getElem?_map] at h
  cases hz : zs[j]? with
  | none => rw [hz] at h; cases h
  | some z =>
    rw [hz] at h
    injection h with h
    exact ⟨z, rfl, h.symm⟩
theorem bcells_size (zs : List Int) : (bcells zs).toArray.size = zs.length := by simp [bcells]
theorem bcells_app (a b : List Int) : bcells (a ++ b) = bcells a ++ bcells b := by simp [bcells]
theorem bcells_splice (a b : List Int) (o : Nat) : splice (bcells a) o (bcells b) = bcells (splice a o b) := by
  simp [splice, bcells, List.map_take, List.map_drop]
theorem bcells_set (a : List Int) (k : Nat) (z : Int) : (bcells a).set k (.int .u8 z) = bcells (a.set k z) := by simp [bcells, List.map_set]

/-- Block b is known whole: the bytes zs, as cells of type t, none frozen. -/
def Arr (w : World) (b : Nat) (t : TypeId) (zs : List Int) : Prop := w.heap[b]? = some (.cells (bcells zs).toArray t (0, 0))
section
variable {w w' : World} {b : Nat} {t : TypeId} {zs : List Int}
theorem Arr.out (h : Arr w b t zs) : w.heap[b]? = some (.cells (bcells zs).toArray t (0, 0)) := h
theorem Arr.lt (h : Arr w b t zs) : b < w.heap.size := (Array.getElem?_eq_some_iff.1 h).1
theorem Arr.cell (h : Arr w b t zs) {i : Nat} {z : Int} (hz : zs[i]? = some z) : w.cell? ⟨b, i, none⟩ = some (.int .u8 z) := by
  rw [cell_of_row w b i _ t (0, 0) h]
  simpa using bcells_at hz
theorem Arr.frozen (h : Arr w b t zs) (i : Nat) : w.frozen? ⟨b, i, none⟩ = false := frozen_of_row w b i _ t h
theorem Arr.set (h : Arr w b t zs) (i : Nat) (v : Int) : Arr (w.setCell ⟨b, i, none⟩ (.int .u8 v)) b t (zs.set i v) := by
  unfold Arr
  rw [heap_setCell_same w b i _ t _ h]
  simp [← bcells_set]
theorem Arr.of_block (h : Arr w b t zs) (e : w'.heap[b]? = w.heap[b]?) : Arr w' b t zs := e.trans h
theorem Arr.setOther (h : Arr w b t zs) {a : Addr} (hn : b ≠ a.block) (v : Value) : Arr (w.setCell a v) b t zs := h.of_block (heap_setCell_other w a b v hn)
theorem Arr.alloc (h : Arr w b t zs) (o : Obj) : Arr (w.alloc o) b t zs := h.of_block (by show (w.heap.push o)[b]? = _; rw [Array.getElem?_push, if_neg (Nat.ne_of_lt h.lt)])
theorem Arr.drew (h : Arr w b t zs) : Arr w.drew b t zs := h
theorem Arr.drewN (h : Arr w b t zs) (n : Nat) : Arr (w.drewN n) b t zs := h
theorem Arr.below {B : Nat} (h : Arr w b t zs) (hb : Below B w w') (hB : b < B) : Arr w' b t zs := h.of_block (hb.block b hB)
theorem Arr.new (w : World) (t : TypeId) (zs : List Int) : Arr (w.alloc (.cells (bcells zs).toArray t)) w.heap.size t zs := heap_alloc_new w _
theorem Arr.rd (h : Arr w b t zs) (hz : ∀ z ∈ zs, 0 ≤ z ∧ z ≤ 255) {B : Nat} (hB : b < B) : Rd w B (some ⟨b, 0, none⟩) zs.length zs :=
  ⟨rfl, hz, fun _ => ⟨b, 0, rfl, hB, fun j z hj => by rw [Nat.zero_add]; exact h.cell hj⟩⟩
/-- A part of it. -/
theorem Arr.part (h : Arr w b t zs) (hz : ∀ z ∈ zs, 0 ≤ z ∧ z ≤ 255) {B : Nat} (hB : b < B) (o n : Nat) (hl : o + n ≤ zs.length) : Rd w B (some ⟨b, o, none⟩) n ((zs.drop o).take n) := by
  refine ⟨by rw [List.length_take, List.length_drop]; omega, fun z hm => hz z (List.mem_of_mem_drop (List.mem_of_mem_take hm)), fun _ => ⟨b, o, rfl, hB, fun j z hj => ?_⟩⟩
  rw [List.getElem?_take] at hj
  split at hj
  · rw [List.getElem?_drop] at hj
    exact h.cell hj
  · cases hj
theorem Arr.row (h : Arr w b t zs) {cur : List Value} (e : bcells zs = cur) : w.heap[b]? = some (.cells cur.toArray t (0, 0)) := by rw [← e]; exact h
end

theorem below_drewN' {B : Nat} {a w : World} (h : Below B a w) (n : Nat) : Below B a (w.drewN n) := ⟨h.os, h.tape, h.output, h.size, h.block⟩
theorem below_drew' {B : Nat} {a w : World} (h : Below B a w) : Below B a w.drew := ⟨h.os, h.tape, h.output, h.size, h.block⟩
theorem below_grown {B : Nat} {w0 w w' : World} {row : Option Nat} (h : Below B w0 w) (hg : w.grownBy w' row) (hB : B ≤ w.heap.size) (hr : ∀ g, row = some g → B ≤ g) : Below B w0 w' :=
  h.trans ⟨hg.os, hg.tape, hg.output, hg.size, fun k hk => hg.block k (by omega) (fun e => by have := hr k e.symm; omega)⟩

/-! The array's type. -/
/-- A block of noughts. -/
def nils (n : Nat) : List Int := List.replicate n 0
theorem nils_len (n : Nat) : (nils n).length = n := by simp [nils]
theorem nils_bd (n : Nat) : ∀ z ∈ nils n, 0 ≤ z ∧ z ≤ 255 := by
  intro z hz
  rw [(List.mem_replicate.1 hz).2]; decide
theorem u8_parts : (Try.prog.info? 5).map (fun i => (i.zero, i.size, i.bytes)) = some (some (.int .u8 0), 1, 1) := by kernel_rfl
theorem u8_size : (Try.prog.info? 5).map (·.size) = some 1 := by kernel_rfl
theorem Arr.setRow {w : World} {g : Nat} {t : TypeId} {old : List Int} (h : Arr w g t old) (zs : List Int) : Arr (w.setRow g (bcells zs).toArray) g t zs := setRow_heap w g _ _ t _ h
theorem Arr.setRowOther {w : World} {g b : Nat} {t : TypeId} {zs : List Int} (h : Arr w b t zs) (hne : b ≠ g) (cs : Array Value) : Arr (w.setRow g cs) b t zs := h.of_block (setRow_other w g b cs hne)
theorem setRow_alloc_arr (w : World) (old zs : List Int) (t : TypeId) : (w.alloc (.cells (bcells old).toArray t)).setRow w.heap.size (bcells zs).toArray = w.alloc (.cells (bcells zs).toArray t) := World.setRow_alloc_new w _ _ t

end Go.Proofs.Ytcedcfagfklohaa.Hd
