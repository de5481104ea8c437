/-
  Texts of one chapter, merged.
-/
import Derived.Test.YtkpnhggpcpjddaaGreatDoorHMa
import Derived.Test.YtkpnhggpcpjddaaGreatDoorProg
import Derived.Laws.CopyOwn
import Derived.Deep.WholeRow
import Derived.Deep.AppendLies
import Derived.Deep.RegionLawGrows
import Derived.Stop.BytesEq
import Derived.Laws.BytesString
import Derived.Laws.IdiomStrings
import Derived.Laws.MakeOwn
import Derived.RegionTactic
import Derived.OwnWalk
import Derived.WalkKit
import Derived.ProofKit
import Derived.Deep.RegionHeld3
set_option linter.unusedVariables false
set_option linter.unusedSimpArgs false
/-! Words for blocks of bytes: a block that is known whole, as a list of numbers 0 to 255; its loads, stores, copies. -/
namespace Go.Proofs.YtkpnhggpcpjddaaGreatDoor
open Go.RowKit

/-- The cells of bytes. -/
def bcells (zs : List Int) : List Value := zs.map (Value.int .u8)
theorem bcells_len (zs : List Int) : (bcells zs).length = zs.length := by simp [bcells]
theorem bcells_one (zs : List Int) : ∀ v ∈ bcells zs, v.oneCell' = true := by
  intro v hv
  obtain ⟨z, _, rfl⟩ := List.mem_map.1 hv
  rfl
theorem bcells_all (zs : List Int) : (bcells zs).toArray.all (·.oneCell') = true := by
  rw [Array.all_eq_true_iff_forall_mem]
  intro v hv
  exact bcells_one zs v (by simpa using hv)
theorem bcells_at {zs : List Int} {j : Nat} {z : Int} (h : zs[j]? = some z) : (bcells zs)[j]? = some (.int .u8 z) := by simp [bcells, h]
theorem bcells_at' {zs : List Int} {j : Nat} {v : Value} (h : (bcells zs)[j]? = some v) : ∃ z, zs[j]? = some z ∧ v = .int .u8 z := by
  unfold bcells at h
  rw [List.getElem?_map] at h
  cases hz : zs[j]? with
  | none => rw [hz] at h; cases h
  | some z =>
    rw [hz] at h
    injection h with h
    exact ⟨z, rfl, h.symm⟩
theorem bcells_size (zs : List Int) : (bcells zs).toArray.size = zs.length := by simp [bcells]
theorem bcells_app (a b : List Int) : bcells (a ++ b) = bcells a ++ bcells b := by simp [bcells]
theorem bcells_splice (a b : List Int) (o : Nat) : splice (bcells a) o (bcells b) = bcells (splice a o b) := by
  simp [splice, bcells, List.map_take, List.map_drop]
theorem bcells_set (a : List Int) (k : Nat) (z : Int) : (bcells a).set k (.int .u8 z) = bcells (a.set k z) := by simp [bcells, List.map_set]

/-- Block b is known whole: the bytes zs, as cells of type t, none frozen. -/
def Arr (w : World) (b : Nat) (t : TypeId) (zs : List Int) : Prop := w.heap[b]? = some (.cells (bcells zs).toArray t (0, 0))
section
variable {w w' : World} {b : Nat} {t : TypeId} {zs : List Int}
theorem Arr.out (h : Arr w b t zs) : w.heap[b]? = some (.cells (bcells zs).toArray t (0, 0)) := h
theorem Arr.lt (h : Arr w b t zs) : b < w.heap.size := (Array.getElem?_eq_some_iff.1 h).1
theorem Arr.cell (h : Arr w b t zs) {i : Nat} {z : Int} (hz : zs[i]? = some z) : w.cell? ⟨b, i, none⟩ = some (.int .u8 z) := by
  rw [cell_of_row w b i _ t (0, 0) h]
  simpa using bcells_at hz
theorem Arr.frozen (h : Arr w b t zs) (i : Nat) : w.frozen? ⟨b, i, none⟩ = false := frozen_of_row w b i _ t h
theorem Arr.set (h : Arr w b t zs) (i : Nat) (v : Int) : Arr (w.setCell ⟨b, i, none⟩ (.int .u8 v)) b t (zs.set i v) := by
  unfold Arr
  rw [heap_setCell_same w b i _ t _ h]
  simp [← bcells_set]
theorem Arr.of_block (h : Arr w b t zs) (e : w'.heap[b]? = w.heap[b]?) : Arr w' b t zs := e.trans h
theorem Arr.setOther (h : Arr w b t zs) {a : Addr} (hn : b ≠ a.block) (v : Value) : Arr (w.setCell a v) b t zs := h.of_block (heap_setCell_other w a b v hn)
theorem Arr.alloc (h : Arr w b t zs) (o : Obj) : Arr (w.alloc o) b t zs := h.of_block (by show (w.heap.push o)[b]? = _; rw [Array.getElem?_push, if_neg (Nat.ne_of_lt h.lt)])
theorem Arr.drew (h : Arr w b t zs) : Arr w.drew b t zs := h
theorem Arr.drewN (h : Arr w b t zs) (n : Nat) : Arr (w.drewN n) b t zs := h
theorem Arr.below {B : Nat} (h : Arr w b t zs) (hb : Below B w w') (hB : b < B) : Arr w' b t zs := h.of_block (hb.block b hB)
theorem Arr.new (w : World) (t : TypeId) (zs : List Int) : Arr (w.alloc (.cells (bcells zs).toArray t)) w.heap.size t zs := heap_alloc_new w _
theorem Arr.rd (h : Arr w b t zs) (hz : ∀ z ∈ zs, 0 ≤ z ∧ z ≤ 255) {B : Nat} (hB : b < B) : Rd w B (some ⟨b, 0, none⟩) zs.length zs :=
  ⟨rfl, hz, fun _ => ⟨b, 0, rfl, hB, fun j z hj => by rw [Nat.zero_add]; exact h.cell hj⟩⟩
/-- A part of it. -/
theorem Arr.part (h : Arr w b t zs) (hz : ∀ z ∈ zs, 0 ≤ z ∧ z ≤ 255) {B : Nat} (hB : b < B) (o n : Nat) (hl : o + n ≤ zs.length) : Rd w B (some ⟨b, o, none⟩) n ((zs.drop o).take n) := by
  refine ⟨by rw [List.length_take, List.length_drop]; omega, fun z hm => hz z (List.mem_of_mem_drop (List.mem_of_mem_take hm)), fun _ => ⟨b, o, rfl, hB, fun j z hj => ?_⟩⟩
  rw [List.getElem?_take] at hj
  split at hj
  · rw [List.getElem?_drop] at hj
    exact h.cell hj
  · cases hj
theorem Arr.row (h : Arr w b t zs) {cur : List Value} (e : bcells zs = cur) : w.heap[b]? = some (.cells cur.toArray t (0, 0)) := by rw [← e]; exact h
end

theorem below_drewN' {B : Nat} {a w : World} (h : Below B a w) (n : Nat) : Below B a (w.drewN n) := ⟨h.os, h.tape, h.output, h.size, h.block⟩
theorem below_drew' {B : Nat} {a w : World} (h : Below B a w) : Below B a w.drew := ⟨h.os, h.tape, h.output, h.size, h.block⟩
theorem below_grown {B : Nat} {w0 w w' : World} {row : Option Nat} (h : Below B w0 w) (hg : w.grownBy w' row) (hB : B ≤ w.heap.size) (hr : ∀ g, row = some g → B ≤ g) : Below B w0 w' :=
  h.trans ⟨hg.os, hg.tape, hg.output, hg.size, fun k hk => hg.block k (by omega) (fun e => by have := hr k e.symm; omega)⟩

/-! The array's type. -/
/-- A block of noughts. -/
def nils (n : Nat) : List Int := List.replicate n 0
theorem nils_len (n : Nat) : (nils n).length = n := by simp [nils]
theorem nils_bd (n : Nat) : ∀ z ∈ nils n, 0 ≤ z ∧ z ≤ 255 := by
  intro z hz
  rw [(List.mem_replicate.1 hz).2]; decide
theorem blk_info : (Tryz.prog.info? 65).map (fun i => (i.zero, i.size)) = some (some (.agg (bcells (nils 512)).toArray), 512) := by kernel_rfl
theorem u8_parts : (Tryz.prog.info? 5).map (fun i => (i.zero, i.size, i.bytes)) = some (some (.int .u8 0), 1, 1) := by kernel_rfl
theorem u8_size : (Tryz.prog.info? 5).map (·.size) = some 1 := by kernel_rfl
theorem zeroBlk (w : World) : (zeroValue 65).run Tryz.prog w = .ok (.agg (bcells (nils 512)).toArray) w := (zero_of_info blk_info).1 w
theorem blk_size : (Tryz.prog.info? 65).map (·.size) = some 512 := (zero_of_info blk_info).2
theorem blk_size' {zs : List Int} (h : zs.length = 512) : (Tryz.prog.info? 65).map (·.size) = some (bcells zs).toArray.size := by rw [bcells_size, h]; exact blk_size

theorem blk_built : Tryz.prog.built 65 [] = some (bcells (nils 512)).toArray := by kernel_rfl
theorem run_buildBlk (w : World) : (Instr.build 65 #[]).run Tryz.prog w = .ok (.agg (bcells (nils 512)).toArray) w := run_build w _ #[] _ blk_built
theorem run_toArr (w : World) (ad : Addr) (c : Nat) : (Instr.arrayAt 65 (.slice (some ad) 512 c)).run Tryz.prog w = .ok (.pointer (some ad)) w := by
  simp [Instr.arrayAt, Sem.run_bind, run_underlying Tryz.underlying65]
/-- Cells that lie one behind the other, as one value. -/
theorem run_loadVar_cells (w : World) (ad : Addr) (zs : List Int) (hl : zs.length = 512) (h : ∀ j z, zs[j]? = some z → w.cell? (ad.add j) = some (.int .u8 z)) :
    (loadVar 65 ad).run Tryz.prog w = .ok (.agg (bcells zs).toArray) w := by
  have hl' : (loadCells ad (bcells zs).length).run Tryz.prog w = .ok (bcells zs).toArray w :=
    run_loadCells_list (P := Tryz.prog) w ad (bcells zs) (fun j v hv => by
      obtain ⟨z, hz, rfl⟩ := bcells_at' hv
      exact h j z hz)
  rw [bcells_len, hl] at hl'
  have hagg : (isAgg 65).run Tryz.prog w = .ok true w := by
    unfold isAgg
    rw [Sem.run_bind, run_underlying Tryz.underlying65 w]
    rfl
  cases hq : Tryz.prog.info? 65 with
  | none => have := blk_size; simp [hq] at this
  | some i =>
    have hs : i.size = 512 := by have := blk_size; simpa [hq] using this
    simp [loadVar, Sem.run_bind, hagg, sizeOf, typeInfo, hq, hs, hl']
theorem wpList_load_cells {ops : Array Oper} {rest : List Oper} {o : Oper} {a : Act} {w : World} {Q : Exit → Act → World → Prop} (hgd : o.guard = none) (x : Operand) (ho : o.op = .load 65 x)
    (ad : Addr) (hx : a.eval x = .pointer (some ad)) (zs : List Int) (hl : zs.length = 512) (hc : ∀ j z, zs[j]? = some z → w.cell? (ad.add j) = some (.int .u8 z))
    (h : wpList Tryz.prog ops Q rest (a.put o.dst (.agg (bcells zs).toArray)) w) : wpList Tryz.prog ops Q (o :: rest) a w := by
  refine wpList_plain hgd fun K hK => ?_
  unfold Oper.wp execOp
  simp only [ho, hx, Instr.loadAt, Instr.sureAddr, Sem.run_bind, Sem.run_pure, Result.andThen_ok, run_loadVar_cells w ad zs hl hc]
  exact hK _ _ h
theorem wpList_store_arr {ops : Array Oper} {rest : List Oper} {o : Oper} {a : Act} {w : World} {Q : Exit → Act → World → Prop} (hgd : o.guard = none) (x y : Operand) (ho : o.op = .store 65 x y)
    (g : Nat) (hx : a.eval x = .pointer (some ⟨g, 0, none⟩)) (zs old : List Int) (hy : a.eval y = .agg (bcells zs).toArray) (t : TypeId) (hg : Arr w g t old) (hz : zs.length = 512) (hold : old.length = 512)
    (h : wpList Tryz.prog ops Q rest (a.put o.dst undef) (w.setRow g (bcells zs).toArray)) : wpList Tryz.prog ops Q (o :: rest) a w :=
  wpList_store_row hgd _ x y ho g _ hx hy t _ hg (blk_size' hz) (by rw [bcells_size, bcells_size, hz, hold]) (bcells_all zs) h
theorem Arr.setRow {w : World} {g : Nat} {t : TypeId} {old : List Int} (h : Arr w g t old) (zs : List Int) : Arr (w.setRow g (bcells zs).toArray) g t zs := setRow_heap w g _ _ t _ h
theorem Arr.setRowOther {w : World} {g b : Nat} {t : TypeId} {zs : List Int} (h : Arr w b t zs) (hne : b ≠ g) (cs : Array Value) : Arr (w.setRow g cs) b t zs := h.of_block (setRow_other w g b cs hne)
theorem setRow_alloc_arr (w : World) (old zs : List Int) (t : TypeId) : (w.alloc (.cells (bcells old).toArray t)).setRow w.heap.size (bcells zs).toArray = w.alloc (.cells (bcells zs).toArray t) := World.setRow_alloc_new w _ _ t

/-- '==' of two blocks. -/
theorem run_eql_blk (w : World) (xs ys : List Int) (hx : xs.length = 512) (hy : ys.length = 512) (bx : ∀ z ∈ xs, 0 ≤ z ∧ z ≤ 255) (by_ : ∀ z ∈ ys, 0 ≤ z ∧ z ≤ 255) :
    (binOp .eql 65 (.agg (bcells xs).toArray) (.agg (bcells ys).toArray)).run Tryz.prog w = .ok (.bool (xs == ys)) w := by
  have key : ∀ l : List Int, (∀ z ∈ l, 0 ≤ z ∧ z ≤ 255) → bcells l = (l.map fun z => UInt8.ofNat z.toNat).map Extern.Stop.cell ∧ ((l.map fun z => UInt8.ofNat z.toNat).map fun c => (c.toNat : Int)) = l := by
    intro l hl
    have h1 : ∀ z ∈ l, (((UInt8.ofNat z.toNat).toNat : Nat) : Int) = z := by
      intro z hz
      have := hl z hz
      rw [UInt8.toNat_ofNat']
      omega
    constructor
    · unfold bcells
      rw [List.map_map]
      refine List.map_congr_left fun z hz => ?_
      show Value.int .u8 z = Value.int .u8 (((UInt8.ofNat z.toNat).toNat : Nat) : Int)
      rw [h1 z hz]
    · rw [List.map_map]
      conv => rhs; rw [← List.map_id l]
      exact List.map_congr_left fun z hz => h1 z hz
  obtain ⟨ex, fx⟩ := key xs bx
  obtain ⟨ey, fy⟩ := key ys by_
  have hsz : ∀ w, (sizeOf 5).run Tryz.prog w = .ok 1 w := by
    intro w
    obtain ⟨i, hi, hz⟩ := Option.map_eq_some_iff.1 u8_size
    simp [sizeOf, typeInfo, hi, hz]
  rw [ex, ey, run_eql_bytes w 65 5 512 Tryz.underlying65 Tryz.underlying5 hsz _ _ (by simpa using hx) (by simpa using hy)]
  congr 2
  rw [Bool.eq_iff_iff, beq_iff_eq, beq_iff_eq]
  constructor
  · intro h
    rw [← fx, ← fy, h]
  · intro h
    rw [h]
end Go.Proofs.YtkpnhggpcpjddaaGreatDoor

/-! Regions that draw their order, step by step: an operation that yields in every world of a class is taken first; a call comes up alone; the class may be narrowed on the way. -/
namespace Go.Proofs.YtkpnhggpcpjddaaGreatDoor
open Go.RowKit

section
variable {P : Program} {md : Region.Mode} {ops : Array Oper} {Q : Exit → Act → World → Prop} {S S' : World → Prop}
/-- A narrower class serves. -/
theorem wpAnyH_narrow (h : ∀ w, S' w → S w) : ∀ (fuel : Nat) (listed : Array Bool) (a : Act) (w : World), wpAnyH P md ops Q S' fuel listed a w → wpAnyH P md ops Q S fuel listed a w
  | 0, _, _, _, hh => hh
  | fuel + 1, _, _, _, hh => ⟨hh.1, fun i hi => wpOp_mono (fun _ _ h' => ⟨h _ h'.1, wpAnyH_narrow h fuel _ _ _ h'.2⟩) (hh.2 i hi)⟩
theorem takeH {i : Nat} (d : Nat) {oi : Oper} {v : Value} {fuel : Nat} {listed : Array Bool} {a : Act} {w : World} (hi : ops[i]? = some oi) (hd : oi.dst = some d)
    (hs : Region.noSelect ops = true) (hf : Region.free md ops listed i = true) (hr : (Region.ready md ops listed).contains i = true)
    (hQ : ∀ c a w, Q (.panic c) (a.put oi.dst v) w → Q (.panic c) a w) (hw : Region.wanted oi (yielded ops a.tmps) = true)
    (hy : ∀ w, S w → (execOp a.eval oi).run P w = .ok (.value v) w) (hS : S w)
    (h : wpAnyH P md ops Q S fuel (listed.setIfInBounds i true) (a.put (some d) v) w) : wpAnyH P md ops Q S (fuel + 1) listed a w :=
  wpAnyH_take hi hs hf hr hQ (.inl ⟨hw, hy⟩) hS (by rw [hd]; exact h)
/-- The one that may come up. -/
theorem loneH {i : Nat} (d : Nat) {o : Oper} {fuel : Nat} {listed : Array Bool} {a : Act} {w : World} (ho : ops[i]? = some o) (hd : o.dst = some d) (hr : Region.ready md ops listed = [i]) (hw : Region.wanted o (yielded ops a.tmps) = true)
    (h : ∀ K' : Act → World → Prop, Shut (∀ v w', S w' → (S w' → wpAnyH P md ops Q S fuel (listed.setIfInBounds i true) (a.put (some d) v) w') → K' (a.put o.dst v) w') → Oper.wp P o a w K' Q) : wpAnyH P md ops Q S (fuel + 1) listed a w :=
  wpAnyH_ready hr (by simp) (AllReadyH.cons ho (fun K' hK => by
    rw [if_pos hw]
    exact h K' (fun v w' hS hW => hK _ _ hS (by rw [hd]; exact hW))) AllReadyH.nil)
end
end Go.Proofs.YtkpnhggpcpjddaaGreatDoor

/-! Regions that draw their order, step by step: more of it. -/
namespace Go.Proofs.YtkpnhggpcpjddaaGreatDoor
open Go.RowKit
section
variable {P : Program} {md : Region.Mode} {ops : Array Oper} {Q : Exit → Act → World → Prop} {S : World → Prop}
theorem skipH {i : Nat} (d : Nat) {oi : Oper} {fuel : Nat} {listed : Array Bool} {a : Act} {w : World} (hi : ops[i]? = some oi) (hd : oi.dst = some d)
    (hs : Region.noSelect ops = true) (hf : Region.free md ops listed i = true) (hr : (Region.ready md ops listed).contains i = true)
    (hQ : ∀ c a w, Q (.panic c) (a.put oi.dst undef) w → Q (.panic c) a w) (hw : Region.wanted oi (yielded ops a.tmps) = false) (hS : S w)
    (h : wpAnyH P md ops Q S fuel (listed.setIfInBounds i true) (a.put (some d) undef) w) : wpAnyH P md ops Q S (fuel + 1) listed a w :=
  wpAnyH_take hi hs hf hr hQ (.inr ⟨hw, rfl⟩) hS (by rw [hd]; exact h)
/-- A store comes up alone. -/
theorem loneN {i : Nat} {o : Oper} {fuel : Nat} {listed : Array Bool} {a : Act} {w : World} (ho : ops[i]? = some o) (hd : o.dst = none) (hr : Region.ready md ops listed = [i]) (hw : Region.wanted o (yielded ops a.tmps) = true)
    (h : ∀ K' : Act → World → Prop, Shut (∀ a' w', S w' → (S w' → wpAnyH P md ops Q S fuel (listed.setIfInBounds i true) a' w') → K' a' w') → Oper.wp P o a w K' Q) : wpAnyH P md ops Q S (fuel + 1) listed a w :=
  wpAnyH_ready hr (by simp) (AllReadyH.cons ho (fun K' hK => by
    rw [if_pos hw]
    exact h K' hK) AllReadyH.nil)
end
end Go.Proofs.YtkpnhggpcpjddaaGreatDoor
