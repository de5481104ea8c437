/-
  Texts of one chapter, merged.
-/
import Derived.Test.YtbhpedhdhgjkoaaGreatDoorKhA0
import Derived.Test.YtbhpedhdhgjkoaaGreatDoorShelf
import Derived.Lib.Hide
import Derived.WalkKit
import Derived.IntWalk
import Derived.LoopTactic
import Derived.Laws.BytesString
import Derived.Laws.IdiomStrings
import Derived.Laws.MakeOwn
import Derived.Deep.OwnRows
import Derived.Deep.WholeRow
import Derived.Lib.BufferWrite
import Derived.Lib.SlBytesConst
import Derived.Lib.Bytes
import Derived.Defers
import Derived.Recover
import Derived.Laws.Pointers
import Derived.WalkSmall
import Derived.WalkLawsBesides
import Derived.BigRegion
import Derived.StillTailTactics
import Derived.Deep.AppendLies
import Derived.Laws.OwnMore
import Derived.Laws.AppendOwn
import Derived.Lib.SliceRun
import Derived.Maps.AppendAt
import Derived.OwnWalk
import Derived.LoopN
import Derived.Test.YtbhpedhdhgjkoaaGreatDoorRows
import Derived.Laws.BitsAllLaws
import Derived.Laws.BitsLemmas
import Derived.Deep.CutRange
set_option linter.unusedVariables false
set_option linter.unusedSimpArgs false
/-! Bytes in memory as a list of bytes; 'string(b)'; str.Put and the document's. -/
namespace Go.Proofs.YtbhpedhdhgjkoaaGreatDoor.Hd.S
open Go.RowKit Go.Shelf

/-- Bytes as numbers. -/
def ints (l : List UInt8) : List Int := l.map fun b => (b.toNat : Int)
theorem ints_length (l : List UInt8) : (ints l).length = l.length := by simp [ints]
theorem ints_bd (l : List UInt8) : ∀ z ∈ ints l, 0 ≤ z ∧ z ≤ 255 := by
  intro z hz
  obtain ⟨b, _, rfl⟩ := List.mem_map.1 hz
  have := UInt8.toNat_lt b
  omega
theorem ints_at {l : List UInt8} {k : Nat} (h : k < l.length) : (ints l)[k]? = some ((l[k]).toNat : Int) := by simp [ints, h]

/-- The text of bytes. -/
def strOf (zs : List Int) : ByteArray := zs.foldl (fun r n => r.push (UInt8.ofNat n.toNat)) ByteArray.empty

theorem run_str {w : World} {B n : Nat} {A : Option Addr} {zs : List Int} (h : Rd w B A n zs) (c : Nat) :
    (convert 22 9 (.slice A n c)).run Tryz.prog w = .ok (.string (strOf zs)) w := by
  rw [run_convert_bytes_string w 22 9 5 A n c Tryz.underlying22 Tryz.underlying5 Tryz.underlying9]
  have hlen := h.len
  cases A with
  | none =>
    have h0 : n = 0 := by
      rcases Nat.eq_zero_or_pos n with h0 | h0
      · exact h0
      · obtain ⟨b, off, e, _⟩ := h.2.2 h0
        cases e
    subst h0
    have hz : zs = [] := List.eq_nil_of_length_eq_zero hlen
    subst hz
    simp [Conv.bytesToString, strOf]
  | some a =>
    subst hlen
    have hl := run_loadCells_list (P := Tryz.prog) w a (zs.map (Value.int .u8)) (fun j v hj => by
      rw [List.getElem?_map] at hj
      cases hz : zs[j]? with
      | none => rw [hz] at hj; cases hj
      | some z =>
        rw [hz] at hj
        injection hj with hj
        subst hj
        have hlt : j < zs.length := (List.getElem?_eq_some_iff.1 hz).1
        obtain ⟨b, off, e, _, hc⟩ := h.2.2 (by omega)
        injection e with e
        subst e
        have hcj := hc j z hz
        unfold Addr.add
        split
        · rename_i h0
          subst h0
          exact hcj
        · exact hcj)
    simp only [List.length_map] at hl
    exact run_bytesToString w a zs.length c zs hl

/-- A new block of bytes. -/
theorem Rd.new (w : World) (t : TypeId) (l : List UInt8) : Rd (w.alloc (.cells (Lib.byteCells l).toArray t)) (w.heap.size + 1) (some ⟨w.heap.size, 0, none⟩) l.length (ints l) := by
  refine ⟨ints_length l, ints_bd l, fun _ => ⟨_, 0, rfl, Nat.lt_succ_self _, fun j z hj => ?_⟩⟩
  have hb : (w.alloc (.cells (Lib.byteCells l).toArray t)).heap[w.heap.size]? = some (.cells (Lib.byteCells l).toArray t (0, 0)) := heap_alloc_new w _
  rw [cell_of_row _ _ _ _ _ _ hb, Nat.zero_add]
  unfold ints at hj
  rw [List.getElem?_map] at hj
  cases hx : l[j]? with
  | none => rw [hx] at hj; cases hj
  | some x =>
    rw [hx] at hj
    injection hj with hj
    subst hj
    simp [Lib.byteCells, hx]

namespace M
/-- A text so wide. -/
def put (l : List UInt8) (n : Int) : Option (List UInt8) := if (l.length : Int) ≤ n ∧ ¬ (0 : UInt8) ∈ l then some (l ++ List.replicate (n.toNat - l.length) 0) else none
/-- Up to a nought. -/
def cut : List UInt8 → List UInt8
  | [] => []
  | c :: l => if c = 0 then [] else c :: cut l
end M

/-- What Put answers: the bytes, or nil, and whether there are some. -/
def PutIs (w : World) (r : Option (List UInt8)) (e : Ending) (w' : World) : Prop :=
  ∃ A n c, e = .returned (.tuple #[.slice A n c, .bool r.isSome]) ∧ n ≤ c ∧ c ≤ 100000 ∧ Rd w' w'.heap.size A n (ints (r.getD [])) ∧ Below w.heap.size w w' ∧ (A = none → c = 0)
theorem PutIs.no {w w' : World} (h : Below w.heap.size w w') : PutIs w none (.returned (.tuple #[.slice none 0 0, .bool false])) w' :=
  ⟨none, 0, 0, rfl, Nat.le_refl _, by omega, Rd.none_, h, fun _ => rfl⟩

end Go.Proofs.YtbhpedhdhgjkoaaGreatDoor.Hd.S

/-! The document's Put; str.Cut and the document's. -/
namespace Go.Proofs.YtbhpedhdhgjkoaaGreatDoor.Hd.S
open Go.RowKit Go.Shelf

/-- Block b is a row of N bytes, cell j holding g j. -/
def RowB (w : World) (b N : Nat) (g : Nat → Int) : Prop := w.rowIs b 5 N (fun j => .int .u8 (g j))
section
variable {w w' : World} {b N : Nat} {g h : Nat → Int}
theorem RowB.cell (r : RowB w b N g) {i : Nat} (hi : i < N) : w.cell? ⟨b, i, none⟩ = some (.int .u8 (g i)) := World.rowIs.cell r hi
theorem RowB.frozen (r : RowB w b N g) (i : Nat) : w.frozen? ⟨b, i, none⟩ = false := World.rowIs.frozen r i
theorem RowB.lt (r : RowB w b N g) : b < w.heap.size := World.rowIs.lt r
theorem RowB.to (r : RowB w b N g) (e : ∀ i, i < N → g i = h i) : RowB w b N h := World.rowIs.congr r fun i hi => by rw [e i hi]
theorem RowB.set (r : RowB w b N g) (i : Nat) (v : Int) : RowB (w.setCell ⟨b, i, none⟩ (.int .u8 v)) b N (fun j => if j = i then v else g j) :=
  (World.rowIs.set r i (.int .u8 v)).congr fun j _ => by
    show (if j = i then _ else _) = Value.int .u8 (if j = i then v else g j)
    split <;> rfl
end

theorem RowB.rd {w : World} {b N : Nat} {l : List UInt8} (r : RowB w b N (fun j => M.at' l j)) (hl : l.length = N) : Rd w w.heap.size (some ⟨b, 0, none⟩) N (ints l) := by
  refine ⟨by rw [ints_length, hl], ints_bd l, fun _ => ⟨b, 0, rfl, r.lt, fun j z hz => ?_⟩⟩
  have hj : j < l.length := by
    have := (List.getElem?_eq_some_iff.1 hz).1
    rwa [ints_length] at this
  rw [ints_at hj] at hz
  injection hz with hz
  subst hz
  have := r.cell (i := j) (by omega)
  rw [Nat.zero_add, this]
  unfold M.at'
  rw [List.getD_eq_getElem?_getD, List.getElem?_eq_getElem hj]
  rfl

theorem below_drewN' {B : Nat} {a w : World} (h : Below B a w) (n : Nat) : Below B a (w.drewN n) := ⟨h.os, h.tape, h.output, h.size, h.block⟩

end Go.Proofs.YtbhpedhdhgjkoaaGreatDoor.Hd.S

/-! Headers as plain data: what a block tells, and how one is laid. No program. -/
namespace Go.Proofs.YtbhpedhdhgjkoaaGreatDoor.Hd
namespace M

/-- A header's fields. -/
structure Hdr where
  name : ByteArray := ⟨#[]⟩
  mode : Int := 0
  uid : Int := 0
  gid : Int := 0
  size : Int := 0
  mtime : Int := 0
  kind : Int := 0
  link : ByteArray := ⟨#[]⟩
  way : Int := 0
  user : ByteArray := ⟨#[]⟩
  group : ByteArray := ⟨#[]⟩
  major : Int := 0
  minor : Int := 0
  pre : ByteArray := ⟨#[]⟩
  parts : List (Int × Int) := []
  more : Bool := false
  real : Int := 0

/-- Numbers as bytes. -/
def toB (zs : List Int) : List UInt8 := zs.map fun z => UInt8.ofNat z.toNat
/-- Bytes at a place. -/
def sub (zs : List Int) (at_ n : Nat) : List Int := (zs.drop at_).take n
theorem sub_len {zs : List Int} {a n : Nat} (h : a + n ≤ zs.length) : (sub zs a n).length = n := by
  unfold sub
  rw [List.length_take, List.length_drop]
  omega
theorem sub_bd {zs : List Int} {a n : Nat} (h : ∀ z ∈ zs, 0 ≤ z ∧ z ≤ 255) : ∀ z ∈ sub zs a n, 0 ≤ z ∧ z ≤ 255 :=
  fun z hz => h z (List.mem_of_mem_drop (List.mem_of_mem_take hz))
/-- A text that a field tells. -/
def txt (zs : List Int) (a n : Nat) : ByteArray := ⟨(S.M.cut (toB (sub zs a n))).toArray⟩
/-- A number that a field tells; may it be? -/
def num (zs : List Int) (a n : Nat) : Int := parN (sub zs a n)
def numOk (zs : List Int) (a n : Nat) (lo up : Int) : Bool := parOk (sub zs a n) && (decide (lo ≤ num zs a n) && decide (num zs a n ≤ up))

def known (c : Int) : Bool := decide (48 ≤ c) && decide (c ≤ 55) || c == 83 || c == 120 || c == 103 || c == 76 || c == 75
def may (kind way : Int) : Bool := kind != 83 || way == 2
def magic : Nat → List Int
  | 0 => [0, 0, 0, 0, 0, 0, 0, 0]
  | 1 => [117, 115, 116, 97, 114, 0, 48, 48]
  | _ => [117, 115, 116, 97, 114, 32, 32, 0]
def way (zs : List Int) : Option Nat :=
  if zs.length = 512 then
    if sub zs 257 8 = magic 0 then some 0 else if sub zs 257 8 = magic 1 then some 1 else if sub zs 257 8 = magic 2 then some 2 else none
  else none
/-- A byte at a place. -/
def byt (zs : List Int) (a : Nat) : Int := zs.getD a 0
def kind (zs : List Int) : Int := if byt zs 156 = 0 then 48 else byt zs 156

/-- Parts from a place on: n of them at most; none: some may not be. -/
def parts (zs : List Int) : Nat → Nat → Option (List (Int × Int))
  | _, 0 => some []
  | a, n + 1 =>
    if zs.length < a + 24 then none
    else if numOk zs a 12 0 most && numOk zs (a + 12) 12 0 most then
      if num zs a 12 = 0 ∧ num zs (a + 12) 12 = 0 then some [] else (parts zs (a + 24) n).map ((num zs a 12, num zs (a + 12) 12) :: ·)
    else none
end M
end Go.Proofs.YtbhpedhdhgjkoaaGreatDoor.Hd

/-! A header in memory; what stops a call; the deferred functions' contracts. -/
namespace Go.Proofs.YtbhpedhdhgjkoaaGreatDoor.Hd
open Go.RowKit

/-- A header's cells; pv: its parts' slice. -/
def hcells (h : M.Hdr) (pv : Value) : Array Value :=
  #[.string h.name, .int .i64 h.mode, .int .i64 h.uid, .int .i64 h.gid, .int .i64 h.size, .int .i64 h.mtime, .int .u8 h.kind, .string h.link, .int .i64 h.way, .string h.user, .string h.group, .int .i64 h.major, .int .i64 h.minor, .string h.pre, pv, .bool h.more, .int .i64 h.real]
theorem hcells_one (h : M.Hdr) {pv : Value} (hp : pv.oneCell' = true) : (hcells h pv).all (·.oneCell') = true := by simpa [hcells, Value.oneCell'] using hp
/-- Block g is a header. -/
def HB (w : World) (g : Nat) (h : M.Hdr) (pv : Value) : Prop := w.heap[g]? = some (.cells (hcells h pv) 34 (0, 0))
section
variable {w w' : World} {g : Nat} {h : M.Hdr} {pv : Value}
theorem HB.lt (hb : HB w g h pv) : g < w.heap.size := (Array.getElem?_eq_some_iff.1 hb).1
theorem HB.cell (hb : HB w g h pv) {i : Nat} {v : Value} (hv : (hcells h pv)[i]? = some v) : w.cell? ⟨g, i, none⟩ = some v := by
  rw [cell_of_row w g i _ _ (0, 0) hb]; exact hv
theorem HB.frozen (hb : HB w g h pv) (i : Nat) : w.frozen? ⟨g, i, none⟩ = false := frozen_of_row w g i _ _ hb
theorem HB.of_block (hb : HB w g h pv) (e : w'.heap[g]? = w.heap[g]?) : HB w' g h pv := e.trans hb
theorem HB.other (hb : HB w g h pv) {a : Addr} (hn : g ≠ a.block) (v : Value) : HB (w.setCell a v) g h pv := hb.of_block (heap_setCell_other w a g v hn)
theorem HB.alloc (hb : HB w g h pv) (o : Obj) : HB (w.alloc o) g h pv := hb.of_block (by show (w.heap.push o)[g]? = _; rw [Array.getElem?_push, if_neg (Nat.ne_of_lt hb.lt)])
theorem HB.drew (hb : HB w g h pv) : HB w.drew g h pv := hb
theorem HB.drewN (hb : HB w g h pv) (n : Nat) : HB (w.drewN n) g h pv := hb
theorem HB.below {B : Nat} (hb : HB w g h pv) (hw : Below B w w') (hB : g < B) : HB w' g h pv := hb.of_block (hw.block g hB)
theorem HB.new (w : World) (h : M.Hdr) (pv : Value) : HB (w.alloc (.cells (hcells h pv) 34)) w.heap.size h pv := heap_alloc_new w _
theorem HB.set (hb : HB w g h pv) (i : Nat) (v : Value) {h' : M.Hdr} {pv' : Value} (e : (hcells h pv).set! i v = hcells h' pv') : HB (w.setCell ⟨g, i, none⟩ v) g h' pv' := by
  unfold HB
  rw [heap_setCell_same w g i _ _ _ hb, ← e]
  simp
end

/-- What stops a call, told by a number. -/
def boom (n : Int) : List PanicEntry := [{ v := .iface 30 (.int .u16 n), recovered := false }]

/-! Parse's deferred function. -/
theorem hdr_size : (Tryz.prog.info? 34).map (·.size) = some 17 := by kernel_rfl
end Go.Proofs.YtbhpedhdhgjkoaaGreatDoor.Hd

/-! A field is parsed: a text's, a number's. -/
namespace Go.Proofs.YtbhpedhdhgjkoaaGreatDoor.Hd
open Go.RowKit Go.Lib

theorem Rd.sub {w : World} {B b off n : Nat} {zs : List Int} (h : Rd w B (some ⟨b, off, none⟩) n zs) {a m : Nat} (ham : a + m ≤ n) : Rd w B (some ⟨b, off + a, none⟩) m (M.sub zs a m) := by
  refine ⟨M.sub_len (by rw [h.len]; exact ham), M.sub_bd h.bd, fun hm => ?_⟩
  obtain ⟨b', off', e, hb, hc⟩ := h.2.2 (by omega)
  injection e with e
  injection e with e1 e2
  subst e1 e2
  refine ⟨_, _, rfl, hb, fun j z hj => ?_⟩
  unfold M.sub at hj
  rw [List.getElem?_take] at hj
  split at hj
  · rw [List.getElem?_drop] at hj
    rw [Nat.add_assoc]
    exact hc _ z hj
  · cases hj

/-- What parsing a number's field answers. -/
def NumTo (zs : List Int) (a m : Nat) (there : Bool) (lo up : Int) (p : Addr) (w : World) (e : Ending) (w' : World) : Prop :=
  if there = true then
    if M.numOk zs a m lo up = true then e = .returned (.tuple #[]) ∧ ∃ w1, Below w.heap.size w w1 ∧ w' = w1.setCell p (.int .i64 (M.num zs a m))
    else e = .panicked (boom 32) ∧ Below w.heap.size w w'
  else e = .returned (.tuple #[]) ∧ Below w.heap.size w w'

end Go.Proofs.YtbhpedhdhgjkoaaGreatDoor.Hd

/-! A text's field is parsed. -/
namespace Go.Proofs.YtbhpedhdhgjkoaaGreatDoor.Hd
open Go.RowKit Go.Lib

/-- What parsing a text's field answers. -/
def TxtTo (zs : List Int) (a m : Nat) (there : Bool) (p : Addr) (w : World) (e : Ending) (w' : World) : Prop :=
  e = .returned (.tuple #[]) ∧ if there = true then ∃ w1, Below w.heap.size w w1 ∧ w' = w1.setCell p (.string (M.txt zs a m)) else Below w.heap.size w w'

end Go.Proofs.YtbhpedhdhgjkoaaGreatDoor.Hd

/-! The arrays of fields. -/
namespace Go.Proofs.YtbhpedhdhgjkoaaGreatDoor.Hd
open Go.RowKit Go.Lib

theorem below_setRow {B : Nat} {w0 w : World} (h : Below B w0 w) {g : Nat} (hg : B ≤ g) (cs : Array Value) : Below B w0 (w.setRow g cs) :=
  h.trans ⟨rfl, rfl, rfl, by simp, fun k hk => setRow_other w g k cs (by omega)⟩
/-- A result that is a whole block. -/
theorem results_row {f : Func} {k : Nat} {t : TypeId} {d : TypeDesc} (hf : f.results = #[ResultVar.cell k t]) (hd : (match d with | .struct _ | .array _ _ => true | _ => false) = true) (hu : Tryz.prog.underlying t = some d)
    {tmps : Array Value} {g : Nat} {cs : Array Value} {e : TypeId} {w : World} (hk : tmps.getD k undef = .pointer (some ⟨g, 0, none⟩)) (hb : w.heap[g]? = some (.cells cs e (0, 0)))
    (hs : (Tryz.prog.info? t).map (·.size) = some cs.size) : (results f tmps).run Tryz.prog w = .ok (.agg cs) w := by
  rw [Array.getD_eq_getD_getElem?] at hk
  have hl := run_loadVar_row (P := Tryz.prog) w g e t cs (0, 0) d hb hu (by cases d <;> first | rfl | cases hd) hs
  simp [results, hf, hk, asAddr, hl]
end Go.Proofs.YtbhpedhdhgjkoaaGreatDoor.Hd

/-! head.Parse: how it is left, by a stop or at its end. -/
namespace Go.Proofs.YtbhpedhdhgjkoaaGreatDoor.Hd
open Go.RowKit Go.Lib

/-- A frame of Parse: the header so far in block g, no error in block eb. -/
structure PF (w0 w : World) (h : M.Hdr) (pv : Value) : Prop where
  box : HB w w0.heap.size h pv
  err : w.heap[w0.heap.size + 1]? = some (.cells #[.int .u16 0] 30 (0, 0))
  below : Below w0.heap.size w0 w
theorem PF.later {w0 w w' : World} {h : M.Hdr} {pv : Value} (p : PF w0 w h pv) (hb : Below w.heap.size w w') : PF w0 w' h pv :=
  ⟨p.box.below hb p.box.lt, (hb.block _ (Array.getElem?_eq_some_iff.1 p.err).1).trans p.err, p.below.trans (hb.mono p.below.size)⟩
theorem PF.set {w0 w : World} {h h' : M.Hdr} {pv pv' : Value} (p : PF w0 w h pv) (i : Nat) (v : Value) (e : (hcells h pv).set! i v = hcells h' pv') : PF w0 (w.setCell ⟨w0.heap.size, i, none⟩ v) h' pv' :=
  ⟨p.box.set i v e, (heap_setCell_other w ⟨w0.heap.size, i, none⟩ _ v (by simp)).trans p.err, p.below.setCell (p := ⟨w0.heap.size, i, none⟩) (Nat.le_refl _) v⟩

/-- A row of parts in memory, in a block that is not below base. -/
def PartsIs (w : World) (base : Nat) (pv : Value) (l : List (Int × Int)) : Prop :=
  ∃ A c, pv = .slice A l.length c ∧ l.length ≤ c ∧ (0 < l.length → ∃ b off, A = some ⟨b, off, none⟩ ∧ base ≤ b ∧ b < w.heap.size ∧ ∀ (j : Nat) (p : Int × Int), l[j]? = some p → w.cell? ⟨b, off + 2 * j, none⟩ = some (.int .i64 p.1) ∧ w.cell? ⟨b, off + 2 * j + 1, none⟩ = some (.int .i64 p.2))
theorem PartsIs.nil (w : World) (base : Nat) : PartsIs w base (.slice none 0 0) [] := ⟨none, 0, rfl, Nat.le_refl _, fun h => absurd h (by decide)⟩
theorem PartsIs.keep {w w' : World} {base : Nat} {pv : Value} {l : List (Int × Int)} (h : PartsIs w base pv l) (hs : w.heap.size ≤ w'.heap.size) (hk : ∀ a : Addr, base ≤ a.block → a.block < w.heap.size → w'.cell? a = w.cell? a) : PartsIs w' base pv l := by
  obtain ⟨A, c, rfl, h1, h2⟩ := h
  refine ⟨A, c, rfl, h1, fun hl => ?_⟩
  obtain ⟨b, off, e, h3, h4, h5⟩ := h2 hl
  exact ⟨b, off, e, h3, Nat.lt_of_lt_of_le h4 hs, fun j p hp => ⟨(hk _ h3 h4).trans (h5 j p hp).1, (hk _ h3 h4).trans (h5 j p hp).2⟩⟩
theorem PartsIs.later {w w' : World} {base : Nat} {pv : Value} {l : List (Int × Int)} (h : PartsIs w base pv l) (hb : Below w.heap.size w w') : PartsIs w' base pv l := h.keep hb.size fun a _ ha => hb.cell ha
theorem PartsIs.set {w : World} {base : Nat} {pv : Value} {l : List (Int × Int)} (h : PartsIs w base pv l) (a : Addr) (ha : a.block < base) (v : Value) : PartsIs (w.setCell a v) base pv l :=
  h.keep (by simp) fun q hq _ => World.cell?_setCell_other w a q v (fun e => by subst e; omega)
theorem PartsIs.row {w : World} {base : Nat} {pv : Value} {l : List (Int × Int)} (h : PartsIs w base pv l) (g : Nat) (hg : g < base) (cs : Array Value) : PartsIs (w.setRow g cs) base pv l :=
  h.keep (by simp) fun q hq _ => cell_setRow_other w g cs q (by omega)
end Go.Proofs.YtbhpedhdhgjkoaaGreatDoor.Hd

/-! Rows of parts in memory; how Parts is left, by a stop or at its end. -/
namespace Go.Proofs.YtbhpedhdhgjkoaaGreatDoor.Hd
open Go.RowKit Go.Lib

def pcells (l : List (Int × Int)) : List Value := l.flatMap fun p => [.int .i64 p.1, .int .i64 p.2]
theorem pcells_app (a b : List (Int × Int)) : pcells (a ++ b) = pcells a ++ pcells b := by simp [pcells]
theorem pcells_at : ∀ {l : List (Int × Int)} {j : Nat} {p : Int × Int}, l[j]? = some p → (pcells l)[2 * j]? = some (.int .i64 p.1) ∧ (pcells l)[2 * j + 1]? = some (.int .i64 p.2)
  | [], j, p, h => by simp at h
  | q :: l, 0, p, h => by
    simp at h
    subst h
    exact ⟨rfl, rfl⟩
  | q :: l, j + 1, p, h => by
    have ih := pcells_at (l := l) (j := j) (p := p) (by simpa using h)
    have e : pcells (q :: l) = .int .i64 q.1 :: .int .i64 q.2 :: pcells l := rfl
    rw [e, show 2 * (j + 1) = 2 * j + 1 + 1 by omega, List.getElem?_cons_succ, List.getElem?_cons_succ, List.getElem?_cons_succ, List.getElem?_cons_succ]
    exact ih
/-- A row of parts of the call's own. -/
def OwnP (w : World) (base : Nat) (v : Value) (l : List (Int × Int)) : Prop := w.ownsRow base 66 2 v l.length (pcells l)
theorem part_parts : (Tryz.prog.info? 66).map (fun i => (i.zero, i.size, i.bytes)) = some (some (.agg #[.int .i64 0, .int .i64 0]), 2, 16) := by kernel_rfl
theorem OwnP.parts {w : World} {base : Nat} {v : Value} {l : List (Int × Int)} (h : OwnP w base v l) : PartsIs w base v l := by
  unfold OwnP at h
  by_cases hl : 0 < l.length
  · obtain ⟨g, cap, rfl, hbg, hlt⟩ := h.form hl
    refine ⟨_, cap, rfl, ?_, fun _ => ⟨g, 0, rfl, hbg, hlt, fun j p hp => ?_⟩⟩
    · rcases h.2 with ⟨e, _⟩ | ⟨g', cap', cur, e, _, _, hnc, _⟩
      · cases e
      · injection e with _ _ e
        omega
    · obtain ⟨h1, h2⟩ := pcells_at hp
      have c1 := h.cells (g := g) rfl _ _ h1
      have c2 := h.cells (g := g) rfl _ _ h2
      have e : ∀ k : Nat, (⟨g, 0, none⟩ : Addr).add k = ⟨g, 0 + k, none⟩ := by
        intro k
        unfold Addr.add
        split
        · rename_i h0; subst h0; rfl
        · rfl
      rw [e] at c1 c2
      exact ⟨c1, by rw [Nat.add_assoc]; exact c2⟩
  · have h0 : l = [] := List.eq_nil_of_length_eq_zero (by omega)
    subst h0
    rcases h.2 with ⟨rfl, _⟩ | ⟨g, cap, cur, rfl, _⟩
    · exact PartsIs.nil w base
    · exact ⟨_, cap, rfl, Nat.zero_le _, fun h => absurd h (by decide)⟩

/-! Parts' deferred function. -/
/-- A frame of Parts: what was found lies in block g, no yes in the block behind it. -/
structure PL (w0 w : World) (v : Value) (l : List (Int × Int)) : Prop where
  box : w.heap[w0.heap.size]? = some (.cells #[v] 25 (0, 0))
  ok : w.heap[w0.heap.size + 1]? = some (.cells #[.bool false] 4 (0, 0))
  own : OwnP w (w0.heap.size + 2) v l
  below : Below w0.heap.size w0 w
theorem OwnP.later {w w' : World} {base : Nat} {v : Value} {l : List (Int × Int)} (h : OwnP w base v l) (hb : Below w.heap.size w w') : OwnP w' base v l :=
  World.ownsRow.kept (row := none) h ⟨hb.os, hb.tape, hb.output, hb.size, fun k hk _ => hb.block k hk⟩ (by
    cases hv : v.ownBlock with
    | none => exact .inl rfl
    | some g => exact .inr (fun e => nomatch e))
theorem PL.later {w0 w w' : World} {v : Value} {l : List (Int × Int)} (p : PL w0 w v l) (hb : Below w.heap.size w w') : PL w0 w' v l :=
  ⟨(hb.block _ (Array.getElem?_eq_some_iff.1 p.box).1).trans p.box, (hb.block _ (Array.getElem?_eq_some_iff.1 p.ok).1).trans p.ok, p.own.later hb, p.below.trans (hb.mono p.below.size)⟩
/-- What is appended is laid in the block. -/
theorem PL.next {w0 w w' : World} {v v' : Value} {l l' : List (Int × Int)} (p : PL w0 w v l) (ho : OwnP w' (w0.heap.size + 2) v' l') (hb : Below (w0.heap.size + 2) w w') : PL w0 (w'.setCell ⟨w0.heap.size, 0, none⟩ v') v' l' := by
  have hx := (hb.block w0.heap.size (by omega)).trans p.box
  have hy := (hb.block (w0.heap.size + 1) (by omega)).trans p.ok
  refine ⟨?_, (heap_setCell_other w' ⟨w0.heap.size, 0, none⟩ _ v' (by simp)).trans hy, ownsRow_setCell_below ho (by simp) _, (p.below.trans (hb.mono (by omega))).setCell (p := ⟨w0.heap.size, 0, none⟩) (Nat.le_refl _) v'⟩
  have := heap_setCell_same w' _ 0 _ _ v' hx
  simpa using this

/-- A part's variable, behind all that was there. -/
structure PS (wr W : World) (p q : Int) : Prop where
  box : W.heap[wr.heap.size]? = some (.cells #[.int .i64 p, .int .i64 q] 66 (0, 0))
  below : Below wr.heap.size wr W
theorem PS.new (wr : World) : PS wr (wr.alloc (.cells #[.int .i64 0, .int .i64 0] 66)) 0 0 := ⟨heap_alloc_new wr _, (Below.refl _ wr).alloc (Nat.le_refl _) _⟩
theorem PS.later {wr W W' : World} {p q : Int} (h : PS wr W p q) (hb : Below W.heap.size W W') : PS wr W' p q :=
  ⟨(hb.block _ (Array.getElem?_eq_some_iff.1 h.box).1).trans h.box, h.below.trans (hb.mono h.below.size)⟩
theorem PS.frozen {wr W : World} {p q : Int} (h : PS wr W p q) (i : Nat) : W.frozen? ⟨wr.heap.size, i, none⟩ = false := frozen_of_row _ _ i _ _ h.box
end Go.Proofs.YtbhpedhdhgjkoaaGreatDoor.Hd

/-! A region that draws its order, whose operations come in a row, but for one that makes memory and may come at any time. -/
namespace Go.Proofs.YtbhpedhdhgjkoaaGreatDoor.Hd
open Go.RowKit Go.Lib
/-- The steps of a row, each with or without the block: from its end. -/
theorem two_rows {P : Program} {md : Region.Mode} {ops : Array Oper} {Q : Exit → Act → World → Prop} {S : World → Prop} (N : Nat) (R : Nat → World → Prop) (F : Nat → Option Nat → Nat) (L : Nat → Option Nat → Array Bool) (act : Nat → Option Nat → Act)
    (hend : ∀ g w, S w → R g w → wpAnyH P md ops Q S (F N (some g)) (L N (some g)) (act N (some g)) w)
    (hnone : ∀ w, S w → (∀ g w', S w' → R g w' → wpAnyH P md ops Q S (F N (some g)) (L N (some g)) (act N (some g)) w') → wpAnyH P md ops Q S (F N none) (L N none) (act N none) w)
    (hstep : ∀ k, k < N → ∀ o w, S w → (∀ g, o = some g → R g w) → Hid (∀ w', S w' → Below w.heap.size w w' → wpAnyH P md ops Q S (F (k + 1) o) (L (k + 1) o) (act (k + 1) o) w') →
      Hid (o = none → ∀ g w', S w' → R g w' → wpAnyH P md ops Q S (F k (some g)) (L k (some g)) (act k (some g)) w') → wpAnyH P md ops Q S (F k o) (L k o) (act k o) w)
    (hR : ∀ g w w', R g w → Below w.heap.size w w' → R g w') : ∀ w, S w → wpAnyH P md ops Q S (F 0 none) (L 0 none) (act 0 none) w := by
  have hB : ∀ k, k ≤ N → ∀ g w, S w → R g w → wpAnyH P md ops Q S (F (N - k) (some g)) (L (N - k) (some g)) (act (N - k) (some g)) w := by
    intro k
    induction k with
    | zero => exact fun _ g w hS hg => hend g w hS hg
    | succ k ih =>
      intro hk g w hS hg
      have e : N - k = N - (k + 1) + 1 := by omega
      refine hstep (N - (k + 1)) (by omega) (some g) w hS (fun g' e' => by cases e'; exact hg) (hid (fun w' hS' hb => ?_)) (hid (fun e' => by cases e'))
      rw [← e]
      exact ih (by omega) g w' hS' (hR g w w' hg hb)
  have hA : ∀ k, k ≤ N → ∀ w, S w → wpAnyH P md ops Q S (F (N - k) none) (L (N - k) none) (act (N - k) none) w := by
    intro k
    induction k with
    | zero => exact fun _ w hS => hnone w hS (fun g w' hS' hg => by simpa using hB 0 (by omega) g w' hS' hg)
    | succ k ih =>
      intro hk w hS
      have e : N - k = N - (k + 1) + 1 := by omega
      refine hstep (N - (k + 1)) (by omega) none w hS (fun g' e' => by cases e') (hid (fun w' hS' _ => ?_)) (hid (fun _ g w' hS' hg => hB (k + 1) hk g w' hS' hg))
      rw [← e]
      exact ih (by omega) w' hS'
  intro w hS
  have := hA N (Nat.le_refl _) w hS
  rwa [Nat.sub_self] at this
/-- Two may come up. -/
theorem twoH {P : Program} {md : Region.Mode} {ops : Array Oper} {Q : Exit → Act → World → Prop} {S : World → Prop} {i j : Nat} (d e : Nat) {oi oj : Oper} {fuel : Nat} {listed : Array Bool} {a : Act} {w : World} (hi : ops[i]? = some oi) (hj : ops[j]? = some oj) (hd : oi.dst = some d) (he : oj.dst = some e) (hr : Region.ready md ops listed = [i, j])
    (hwi : Region.wanted oi (yielded ops a.tmps) = true) (hwj : Region.wanted oj (yielded ops a.tmps) = true)
    (h1 : ∀ K' : Act → World → Prop, Shut (∀ v w', S w' → (S w' → wpAnyH P md ops Q S fuel (listed.setIfInBounds i true) (a.put (some d) v) w') → K' (a.put oi.dst v) w') → Oper.wp P oi a w K' Q)
    (h2 : ∀ K' : Act → World → Prop, Shut (∀ v w', S w' → (S w' → wpAnyH P md ops Q S fuel (listed.setIfInBounds j true) (a.put (some e) v) w') → K' (a.put oj.dst v) w') → Oper.wp P oj a w K' Q) : wpAnyH P md ops Q S (fuel + 1) listed a w :=
  wpAnyH_ready hr (by simp) (AllReadyH.cons hi (fun K' hK => by
    rw [if_pos hwi]
    exact h1 K' (fun v w' hS hW => hK _ _ hS (by rw [hd]; exact hW))) (AllReadyH.cons hj (fun K' hK => by
    rw [if_pos hwj]
    exact h2 K' (fun v w' hS hW => hK _ _ hS (by rw [he]; exact hW))) AllReadyH.nil))
end Go.Proofs.YtbhpedhdhgjkoaaGreatDoor.Hd

/-! append in any region: a list of parts of the call's own. -/
namespace Go.Proofs.YtbhpedhdhgjkoaaGreatDoor.Hd
open Go.RowKit Go.Lib
namespace Ap
theorem below_grown {B : Nat} {w0 w w' : World} {row : Option Nat} (h : Below B w0 w) (hg : w.grownBy w' row) (hB : B ≤ w.heap.size) (hr : ∀ g, row = some g → B ≤ g) : Below B w0 w' :=
  h.trans ⟨hg.os, hg.tape, hg.output, hg.size, fun k hk => hg.block k (by omega) (fun e => by have := hr k e.symm; omega)⟩
def Reads (w : World) (B size : Nat) (A : Option Addr) (n : Nat) (xs : List Value) : Prop :=
  xs.length = n * size ∧ (0 < n → ∃ ad, A = some ad ∧ ad.block < B ∧ ∀ j u, xs[j]? = some u → w.cell? (ad.add j) = some u)

section
variable {P : Program} (w : World)

theorem run_append_of_nil (base : Nat) (t ty e : TypeId) (i : TypeInfo) (size : Nat) (ht : P.underlying t = some (.slice e)) (hi : P.info? e = some i)
    (v : Value) (n : Nat) (xs : List Value) (hown : w.ownsRow base e size v n xs) (c : Nat) : (Builtin.append_ #[t, t] ty #[v, .slice none 0 c]).run P w = .ok v w := by
  rcases hown.2 with ⟨rfl, rfl⟩ | ⟨g, cap, cur, rfl, _, _, hnc, _⟩
  · simp [Builtin.append_, run_underlying ht, sizeOf, typeInfo, hi, Builtin.lenOf, Builtin.firstCells]
  · simp [Builtin.append_, run_underlying ht, sizeOf, typeInfo, hi, Builtin.lenOf, Builtin.firstCells, hnc, storeCells]

theorem run_append_any (base : Nat) (t ty e : TypeId) (i : TypeInfo) (z : Value) (size bytes : Nat) (ht : P.underlying t = some (.slice e)) (hi : P.info? e = some i) (hz : i.zero = some z)
    (hsize : i.size = size) (hby : i.bytes = bytes) (hzs : z.cells.size = size) (hsz : 0 < size)
    (v : Value) (n : Nat) (xs : List Value) (hown : w.ownsRow base e size v n xs)
    (B : Nat) (A : Option Addr) (m c : Nat) (news : List Value) (hr : Reads w B size A m news) (h1 : ∀ u ∈ news, u.oneCell' = true)
    (h63 : n + m ≤ maxLen) (hbytes : (n + m) * bytes ≤ 140737488355328) (hbase : base ≤ w.heap.size) :
    ∃ v' w', (Builtin.append_ #[t, t] ty #[v, .slice A m c]).run P w = .ok v' w' ∧ w'.ownsRow base e size v' (n + m) (xs ++ news) ∧ w.grownBy w' v.ownBlock ∧
      (v'.ownBlock = v.ownBlock ∨ v'.ownBlock = some w.heap.size) := by
  rcases A with _ | ad
  · have hm : m = 0 := by
      rcases Nat.eq_zero_or_pos m with h0 | h0
      · exact h0
      · obtain ⟨ad, h, _⟩ := hr.2 h0
        cases h
    subst hm
    have hn : news = [] := List.eq_nil_of_length_eq_zero (by simpa using hr.1)
    subst hn
    exact ⟨v, w, run_append_of_nil w base t ty e i size ht hi v n xs hown c, by simpa using hown, World.grownBy.refl w _, .inl rfl⟩
  · have hcells : ∀ j u, news[j]? = some u → w.cell? (ad.add j) = some u := by
      intro j u hu
      rcases Nat.eq_zero_or_pos m with h0 | h0
      · subst h0
        have hn : news = [] := List.eq_nil_of_length_eq_zero (by simpa using hr.1)
        subst hn
        simp at hu
      · obtain ⟨ad', h, _, hc⟩ := hr.2 h0
        injection h with h
        subst h
        exact hc j u hu
    obtain ⟨v', w', hrun, h2, h3, _, h5⟩ := run_append_own_at (P := P) w base t ty e i z size bytes ht hi hz hsize hby hzs hsz v n xs hown ad m c news hr.1 hcells h1 h63 hbytes hbase
    exact ⟨v', w', hrun, h2, h3, h5⟩

theorem wp_append_any {o : Oper} {a : Act} {K : Act → World → Prop} {Q : Exit → Act → World → Prop} (s x : Operand) (t : TypeId)
    (ho : o.op = .call { callee := .builtin .append, args := #[s, x], argTypes := #[t, t] })
    (base : Nat) (e : TypeId) (i : TypeInfo) (z : Value) (size bytes : Nat) (ht : P.underlying t = some (.slice e)) (hi : P.info? e = some i) (hz : i.zero = some z)
    (hsize : i.size = size) (hby : i.bytes = bytes) (hzs : z.cells.size = size) (hsz : 0 < size)
    (v : Value) (n : Nat) (xs : List Value) (hs : a.eval s = v) (hown : w.ownsRow base e size v n xs)
    (B : Nat) (A : Option Addr) (m c : Nat) (news : List Value) (hx : a.eval x = .slice A m c) (hr : Reads w B size A m news) (h1 : ∀ u ∈ news, u.oneCell' = true)
    (h63 : n + m ≤ maxLen) (hbytes : (n + m) * bytes ≤ 140737488355328) (hbase : base ≤ w.heap.size)
    (h : ∀ v' w', w'.ownsRow base e size v' (n + m) (xs ++ news) → w.grownBy w' v.ownBlock → (v'.ownBlock = v.ownBlock ∨ v'.ownBlock = some w.heap.size) → K (a.put o.dst v') w') : o.wp P a w K Q := by
  obtain ⟨v', w', hrun, h2, h3, h4⟩ := run_append_any (P := P) w base t o.type e i z size bytes ht hi hz hsize hby hzs hsz v n xs hown B A m c news hr h1 h63 hbytes hbase
  unfold Oper.wp execOp
  simp only [ho, resolve, invoke, builtin, Sem.run_bind, Sem.run_pure, Result.andThen_ok, List.map_toArray, List.map_cons, List.map_nil, hs, hx, hrun]
  exact h v' w' h2 h3 h4

end
end Ap
theorem OwnP.nil (w : World) (base : Nat) : OwnP w base (.slice none 0 0) [] := ⟨rfl, .inl ⟨rfl, rfl⟩⟩
/-- append of one part, in any region. -/
theorem wp_appP {o : Oper} {a : Act} {w : World} {K : Act → World → Prop} {Q : Exit → Act → World → Prop} (s x : Operand)
    (ho : o.op = .call { callee := .builtin .append, args := #[s, x], argTypes := #[25, 25] })
    (base : Nat) (v : Value) (l : List (Int × Int)) (p q : Int) (hs : a.eval s = v) (hown : OwnP w base v l) (hbase : base ≤ w.heap.size) (gb : Nat)
    (hx : a.eval x = .slice (some ⟨gb, 0, none⟩) 1 1) (hb : w.heap[gb]? = some (.cells #[.int .i64 p, .int .i64 q] 66 (0, 0))) (hl : l.length ≤ 1000000)
    (h : ∀ v' w', Hid (OwnP w' base v' (l ++ [(p, q)])) → Hid (Below base w w') → K (a.put o.dst v') w') : Oper.wp Tryz.prog o a w K Q := by
  obtain ⟨i0, hi, hz0, hz1, hz2⟩ := info_parts part_parts
  have hgb : gb < w.heap.size := (Array.getElem?_eq_some_iff.1 hb).1
  refine Ap.wp_append_any w s x 25 ho base 66 i0 (.agg #[.int .i64 0, .int .i64 0]) 2 16 Tryz.underlying25 hi hz0 hz1 hz2 rfl (by decide) v l.length (pcells l) hs hown w.heap.size (some ⟨gb, 0, none⟩) 1 1 [.int .i64 p, .int .i64 q] hx ?_ ?_ ?_ ?_ hbase ?_
  · refine ⟨rfl, fun _ => ⟨⟨gb, 0, none⟩, rfl, hgb, fun j u hj => ?_⟩⟩
    match j, hj with
    | 0, hj => simp at hj; subst hj; exact (cell_of_row _ _ 0 _ _ _ hb).trans rfl
    | 1, hj => simp at hj; subst hj; exact (cell_of_row _ _ 1 _ _ _ hb).trans rfl
  · intro u hu
    simp at hu
    rcases hu with rfl | rfl <;> rfl
  · unfold maxLen; omega
  · omega
  · intro v' w' hown' hgrow _
    refine h v' w' (hid ?_) (hid ?_)
    · unfold OwnP
      rw [pcells_app, List.length_append]
      exact hown'
    · refine Ap.below_grown (Below.refl base w) hgrow hbase ?_
      intro g hg
      rcases hown.2 with ⟨rfl, _⟩ | ⟨g', cap, cur, rfl, hb, _⟩
      · simp [Value.ownBlock] at hg
      · have : g' = g := by simpa [Value.ownBlock] using hg
        omega
end Go.Proofs.YtbhpedhdhgjkoaaGreatDoor.Hd

/-! Variables that hold a header: laid at once, loaded whole. -/
namespace Go.Proofs.YtbhpedhdhgjkoaaGreatDoor.Hd
open Go.RowKit Go.Lib

theorem store_row (w : World) (g : Nat) (C : Array Value) (t : TypeId) (D : List Value) (hb : w.heap[g]? = some (.cells C t (0, 0))) (hs : D.length = C.size) (h1 : ∀ v ∈ D, v.oneCell' = true) :
    Sem.run Tryz.prog (storeCells ⟨g, 0, none⟩ D) w = .ok () (w.setRow g D.toArray) := by
  have h := run_storeCells_at Tryz.prog g 0 t D 0 C w hb (by omega) h1
  have e : C.toList.take (0 + 0) ++ D ++ C.toList.drop (0 + 0 + D.length) = D := by
    rw [show (0 : Nat) + 0 = 0 from rfl, List.take_zero, Nat.zero_add, hs, List.drop_of_length_le (by simp)]
    simp
  rw [e] at h
  exact h
end Go.Proofs.YtbhpedhdhgjkoaaGreatDoor.Hd

/-! What a block tells of a header, and why it tells none. -/
namespace Go.Proofs.YtbhpedhdhgjkoaaGreatDoor.Hd
namespace M
/-- The texts, one behind the other: k of them are read. -/
def rt (zs : List Int) (h : Hdr) : Nat → Hdr
  | 0 => h
  | 1 => { h with name := txt zs 0 100 }
  | 2 => { h with name := txt zs 0 100, link := txt zs 157 100 }
  | 3 => { h with name := txt zs 0 100, link := txt zs 157 100, user := if h.way != 0 then txt zs 265 32 else h.user }
  | 4 => { h with name := txt zs 0 100, link := txt zs 157 100, user := if h.way != 0 then txt zs 265 32 else h.user, group := if h.way != 0 then txt zs 297 32 else h.group }
  | _ => { h with name := txt zs 0 100, link := txt zs 157 100, user := if h.way != 0 then txt zs 265 32 else h.user, group := if h.way != 0 then txt zs 297 32 else h.group, pre := if h.way == 1 then txt zs 345 155 else h.pre }
def holed (h : Hdr) : Bool := h.kind == 83 && h.way == 2
/-- The numbers: k of them are read. -/
def rn (zs : List Int) (h : Hdr) (k : Nat) : Hdr :=
  { h with
    mode := if 1 ≤ k then num zs 100 8 else h.mode
    uid := if 2 ≤ k then num zs 108 8 else h.uid
    gid := if 3 ≤ k then num zs 116 8 else h.gid
    size := if 4 ≤ k then num zs 124 12 else h.size
    mtime := if 5 ≤ k then num zs 136 12 else h.mtime
    major := if 6 ≤ k then if h.way != 0 then num zs 329 8 else h.major else h.major
    minor := if 7 ≤ k then if h.way != 0 then num zs 337 8 else h.minor else h.minor
    real := if 8 ≤ k then if holed h then num zs 483 12 else h.real else h.real }
/-- What a block's fields tell, but for what a sparse one alone has. -/
def told (zs : List Int) (w : Nat) : Hdr := rn zs (rt zs { kind := kind zs, way := w } 5) 8
end M
end Go.Proofs.YtbhpedhdhgjkoaaGreatDoor.Hd

/-! head.Parse: its steps. -/
namespace Go.Proofs.YtbhpedhdhgjkoaaGreatDoor.Hd
open Go.RowKit Go.Lib

theorem PF.more {w W : World} {h : M.Hdr} {pv : Value} (p : PF w W h pv) (o : Obj) : PF w (W.alloc o) h pv := p.later ((Below.refl _ _).alloc (Nat.le_refl _) _)
theorem PF.text {w W w' : World} {h h' : M.Hdr} {pv : Value} {zs : List Int} {a m i : Nat} {there : Bool} {e : Ending} (p : PF w W h pv) (t : TxtTo zs a m there ⟨w.heap.size, i, none⟩ W e w')
    (h1 : there = true → (hcells h pv).set! i (.string (M.txt zs a m)) = hcells h' pv) (h0 : there = false → h = h') : e = .returned (.tuple #[]) ∧ PF w w' h' pv := by
  obtain ⟨rfl, t⟩ := t
  refine ⟨rfl, ?_⟩
  cases ht : there with
  | true =>
    rw [ht, if_pos rfl] at t
    obtain ⟨w1, b1, rfl⟩ := t
    exact (p.later b1).set i _ (h1 ht)
  | false =>
    rw [ht, if_neg (by decide)] at t
    rw [← h0 ht]
    exact p.later t
theorem PF.num {w W w' : World} {h h' : M.Hdr} {pv : Value} {zs : List Int} {a m i : Nat} {there ok : Bool} {lo up : Int} {e : Ending} (p : PF w W h pv) (t : NumTo zs a m there lo up ⟨w.heap.size, i, none⟩ W e w')
    (hok : ok = (!there || M.numOk zs a m lo up)) (h1 : there = true → (hcells h pv).set! i (.int .i64 (M.num zs a m)) = hcells h' pv) (h0 : there = false → h = h') :
    (ok = false → e = .panicked (boom 32) ∧ PF w w' h pv) ∧ (ok = true → e = .returned (.tuple #[]) ∧ PF w w' h' pv) := by
  unfold NumTo at t
  cases ht : there with
  | true =>
    rw [ht, if_pos rfl] at t
    rw [ht] at hok
    have hok' : ok = M.numOk zs a m lo up := hok
    refine ⟨fun h2 => ?_, fun h2 => ?_⟩
    · rw [if_neg (by rw [← hok', h2]; decide)] at t
      exact ⟨t.1, p.later t.2⟩
    · rw [if_pos (by rw [← hok', h2])] at t
      obtain ⟨rfl, w1, b1, rfl⟩ := t
      exact ⟨rfl, (p.later b1).set i _ (h1 ht)⟩
  | false =>
    rw [ht, if_neg (by decide)] at t
    rw [ht] at hok
    have hok' : ok = true := hok
    refine ⟨fun h2 => ?_, fun _ => ?_⟩
    · rw [hok'] at h2; cases h2
    · rw [← h0 ht]
      exact ⟨t.1, p.later t.2⟩
theorem PF.whole {w W : World} {h : M.Hdr} {pv : Value} (p : PF w W h pv) : PF w (W.setRow w.heap.size (hcells h pv)) h pv :=
  ⟨setRow_heap W _ _ _ _ _ p.box, (setRow_other W _ _ _ (by simp)).trans p.err, below_setRow p.below (Nat.le_refl _) _⟩

/-! What each step lays. -/
end Go.Proofs.YtbhpedhdhgjkoaaGreatDoor.Hd

/-! A field is printed: a text's, a number's. -/
namespace Go.Proofs.YtbhpedhdhgjkoaaGreatDoor.Hd
open Go.RowKit Go.Lib

/-- Block gb is a block of 512 bytes that is being laid. -/
def laid (W : World) (gb : Nat) (zs : List Int) : World := W.setRow gb (bcells zs).toArray
theorem Arr.laid {W : World} {gb : Nat} {t : TypeId} {zs : List Int} (h : Arr W gb t zs) (ys : List Int) : Arr (laid W gb ys) gb t ys := h.setRow ys

/-- What printing a text's field does. -/
def TxtPut (zs : List Int) (a m : Nat) (s : ByteArray) (gb : Nat) (w : World) (e : Ending) (w' : World) : Prop :=
  match S.M.put s.data.toList m with
  | none => e = .panicked (boom 33) ∧ Below w.heap.size w w'
  | some l => e = .returned (.tuple #[]) ∧ ∃ w1, Below w.heap.size w w1 ∧ w' = laid w1 gb (splice zs a (S.ints l))

theorem put_len {s l : List UInt8} {m : Nat} (h : S.M.put s (m : Int) = some l) : l.length = m := by
  unfold S.M.put at h
  split at h
  · rename_i h1
    injection h with h
    subst h
    rw [List.length_append, List.length_replicate]
    omega
  · cases h
theorem putR_len {x : Int} {m : Nat} (h : M.putFits x m = true) : (M.putR x m).length = m := by
  unfold M.putR
  cases ho : M.octFits x m with
  | true =>
    rw [if_pos rfl]
    unfold M.oct
    rw [M.listOf_len]
    rfl
  | false =>
    have hb : M.binFits x m = true := by
      unfold M.putFits at h
      rw [ho] at h
      exact h
    rw [if_neg (by decide), M.binR_yes hb]
    unfold M.bin
    rw [M.listOf_len]
    rfl
/-- May a number be printed? -/
def M.putOk (x : Int) (m : Nat) (lo up : Int) : Bool := M.putFits x m && (decide (lo ≤ x) && decide (x ≤ up))
/-- What printing a number's field does. -/
def NumPut (zs : List Int) (a m : Nat) (there : Bool) (lo up x : Int) (gb : Nat) (w : World) (e : Ending) (w' : World) : Prop :=
  if there = true then
    if M.putOk x m lo up = true then e = .returned (.tuple #[]) ∧ ∃ w1, Below w.heap.size w w1 ∧ w' = laid w1 gb (splice zs a (M.putR x m))
    else e = .panicked (boom 32) ∧ Below w.heap.size w w'
  else if x = 0 then e = .returned (.tuple #[]) ∧ Below w.heap.size w w' else e = .panicked (boom 32) ∧ Below w.heap.size w w'

end Go.Proofs.YtbhpedhdhgjkoaaGreatDoor.Hd

/-! Choices: a byte of them, a name, a number. -/
namespace Go.Proofs.YtbhpedhdhgjkoaaGreatDoor.Hd
open Go.RowKit Go.Lib

namespace M
def gz (zs : List Int) (i : Nat) : Int := zs.getD i 0
theorem gz_bd {zs : List Int} (h : ∀ z ∈ zs, 0 ≤ z ∧ z ≤ 255) (i : Nat) : 0 ≤ gz zs i ∧ gz zs i ≤ 255 := by
  unfold gz
  rw [List.getD_eq_getElem?_getD]
  cases hz : zs[i]? with
  | none => exact ⟨Int.le_refl _, by decide⟩
  | some z => exact h z (List.mem_of_getElem? hz)
def longName : ByteArray := ⟨#[97, 32, 108, 111, 110, 103, 32, 110, 97, 109, 101, 44, 32, 111, 102, 32, 115, 111, 109, 101, 32, 102, 111, 114, 116, 121, 32, 98, 121, 116, 101, 115, 58, 32, 49, 50, 51, 52, 53, 54]⟩
def nm (c : Int) : ByteArray :=
  if c % 6 = 0 then ⟨#[]⟩ else if c % 6 = 1 then ⟨#[100, 105, 114, 47]⟩ else if c % 6 = 2 then longName else if c % 6 = 3 then ⟨#[195, 169]⟩ else ⟨#[UInt8.ofNat (97 + c % 26).toNat]⟩
theorem nm_size (c : Int) : (nm c).size ≤ 100000 := by
  unfold nm
  repeat' split
  all_goals first | decide | exact Nat.le_trans (show (1 : Nat) ≤ 1 from Nat.le_refl _) (by decide)
def nr (c : Int) : Int :=
  if 230 < c then
    (if c % 7 = 0 then 2097151 else if c % 7 = 1 then 2097152 else if c % 7 = 2 then 8589934591 else if c % 7 = 3 then 8589934592 else if c % 7 = 4 then 1099511627776 else if c % 7 = 5 then -1 else 4611686018427387904)
  else c
theorem nr_bd {c : Int} (h : 0 ≤ c ∧ c ≤ 255) : -1 ≤ nr c ∧ nr c ≤ 4611686018427387904 := by
  unfold nr
  repeat' split
  all_goals omega
end M

set_option maxRecDepth 100000 in
set_option maxHeartbeats 1000000 in
theorem g_any (A : Option Addr) (n c i : Nat) (zs : List Int) (w : World) (B : Nat) (hr : Rd w B A n zs) (hi : i ≤ 1000) :
    Calls Tryz.prog 20 #[.slice A n c, .int .i64 i] w fun e w' => e = .returned (.int .u8 (M.gz zs i)) ∧ w = w' := by
  by_cases hin : i < n
  · obtain ⟨b, off, z, rfl, _, _, _, hz, hcell⟩ := hr.at_ (k := i) hin
    have hg : M.gz zs i = z := by unfold M.gz; rw [List.getD_eq_getElem?_getD, hz]; rfl
    rw [hg]
    clear hr hz hg
    go_enter Tryz.func20, Tryz.ntmps20
    go_wp2
    go_ret
    exact ⟨rfl, rfl⟩
  · have hg : M.gz zs i = 0 := by unfold M.gz; rw [List.getD_eq_getElem?_getD, List.getElem?_eq_none (by rw [hr.len]; omega)]; rfl
    rw [hg]
    clear hr hg
    go_enter Tryz.func20, Tryz.ntmps20
    go_wp2
    go_ret
    exact ⟨rfl, rfl⟩

set_option maxRecDepth 100000 in
set_option maxHeartbeats 1000000 in
theorem name_any (c : Int) (hc : 0 ≤ c ∧ c ≤ 255) (w : World) : Calls Tryz.prog 19 #[.int .u8 c] w fun e w' => e = .returned (.string (M.nm c)) ∧ Below w.heap.size w w' := by
  have hm : c.tmod 6 = c % 6 := Int.tmod_eq_emod_of_nonneg hc.1
  have hm2 : c.tmod 26 = c % 26 := Int.tmod_eq_emod_of_nonneg hc.1
  have hcase : c % 6 = 0 ∨ c % 6 = 1 ∨ c % 6 = 2 ∨ c % 6 = 3 ∨ c % 6 = 4 ∨ c % 6 = 5 := by omega
  have h26 : 0 ≤ c % 26 ∧ c % 26 < 26 := by omega
  rcases hcase with h | h | h | h | h | h
  · have e : c.tmod 6 = 0 := by omega
    rw [show M.nm c = ⟨#[]⟩ by simp [M.nm, h]]
    clear hm hm2 h h26
    go_enter Tryz.func19, Tryz.ntmps19
    go_wp2
    go_ret
    exact ⟨rfl, Below.refl _ _⟩
  · have e : c.tmod 6 = 1 := by omega
    rw [show M.nm c = ⟨#[100, 105, 114, 47]⟩ by simp [M.nm, h]]
    clear hm hm2 h h26
    go_enter Tryz.func19, Tryz.ntmps19
    go_wp2
    go_ret
    exact ⟨rfl, Below.refl _ _⟩
  · have e : c.tmod 6 = 2 := by omega
    rw [show M.nm c = M.longName by simp [M.nm, h]]
    clear hm hm2 h h26
    go_enter Tryz.func19, Tryz.ntmps19
    go_wp2
    go_ret
    exact ⟨rfl, Below.refl _ _⟩
  · have e : c.tmod 6 = 3 := by omega
    rw [show M.nm c = ⟨#[195, 169]⟩ by simp [M.nm, h]]
    clear hm hm2 h h26
    go_enter Tryz.func19, Tryz.ntmps19
    go_wp2
    go_ret
    exact ⟨rfl, Below.refl _ _⟩
  · have e : c.tmod 6 = 4 := by omega
    rw [show M.nm c = ⟨#[UInt8.ofNat (97 + c % 26).toNat]⟩ by simp [M.nm, h]]
    have hw1 : IntKind.u8.wrap (c.tmod 26) = c % 26 := by rw [hm2]; exact IntWalk.u8_in _ (by omega)
    have hw2 : IntKind.u8.wrap (97 + c % 26) = 97 + c % 26 := IntWalk.u8_in _ (by omega)
    have hr : Rd (w.alloc (.cells #[.int .u8 (97 + c % 26)] 5)) (w.alloc (.cells #[.int .u8 (97 + c % 26)] 5)).heap.size (some ⟨w.heap.size, 0, none⟩) 1 [97 + c % 26] :=
      (Arr.new w 5 [97 + c % 26]).rd (by intro z hz; rw [List.mem_singleton] at hz; omega) (by simp)
    have cv := S.run_str hr 1
    rw [show S.strOf [97 + c % 26] = ⟨#[UInt8.ofNat (97 + c % 26).toNat]⟩ from rfl] at cv
    clear hm h hr
    go_enter Tryz.func19, Tryz.ntmps19
    go_wp2
    go_ret
    exact ⟨rfl, (Below.refl _ _).alloc (Nat.le_refl _) _⟩
  · have e : c.tmod 6 = 5 := by omega
    rw [show M.nm c = ⟨#[UInt8.ofNat (97 + c % 26).toNat]⟩ by simp [M.nm, h]]
    have hw1 : IntKind.u8.wrap (c.tmod 26) = c % 26 := by rw [hm2]; exact IntWalk.u8_in _ (by omega)
    have hw2 : IntKind.u8.wrap (97 + c % 26) = 97 + c % 26 := IntWalk.u8_in _ (by omega)
    have hr : Rd (w.alloc (.cells #[.int .u8 (97 + c % 26)] 5)) (w.alloc (.cells #[.int .u8 (97 + c % 26)] 5)).heap.size (some ⟨w.heap.size, 0, none⟩) 1 [97 + c % 26] :=
      (Arr.new w 5 [97 + c % 26]).rd (by intro z hz; rw [List.mem_singleton] at hz; omega) (by simp)
    have cv := S.run_str hr 1
    rw [show S.strOf [97 + c % 26] = ⟨#[UInt8.ofNat (97 + c % 26).toNat]⟩ from rfl] at cv
    clear hm h hr
    go_enter Tryz.func19, Tryz.ntmps19
    go_wp2
    go_ret
    exact ⟨rfl, (Below.refl _ _).alloc (Nat.le_refl _) _⟩

set_option maxRecDepth 100000 in
set_option maxHeartbeats 1000000 in
theorem number_any (c : Int) (hc : 0 ≤ c ∧ c ≤ 255) (w : World) : Calls Tryz.prog 21 #[.int .u8 c] w fun e w' => e = .returned (.int .i64 (M.nr c)) ∧ Below w.heap.size w w' := by
  by_cases hb : 230 < c
  · have hm : c.tmod 7 = c % 7 := Int.tmod_eq_emod_of_nonneg hc.1
    have hcase : c % 7 = 0 ∨ c % 7 = 1 ∨ c % 7 = 2 ∨ c % 7 = 3 ∨ c % 7 = 4 ∨ c % 7 = 5 ∨ c % 7 = 6 := by omega
    rcases hcase with h | h | h | h | h | h | h
    · have e : c.tmod 7 = 0 := by omega
      rw [show M.nr c = 2097151 by simp [M.nr, hb, h]]
      clear hm h
      go_enter Tryz.func21, Tryz.ntmps21
      go_wp2
      go_ret
      exact ⟨rfl, (Below.refl _ _).alloc (Nat.le_refl _) _⟩
    · have e : c.tmod 7 = 1 := by omega
      rw [show M.nr c = 2097152 by simp [M.nr, hb, h]]
      clear hm h
      go_enter Tryz.func21, Tryz.ntmps21
      go_wp2
      go_ret
      exact ⟨rfl, (Below.refl _ _).alloc (Nat.le_refl _) _⟩
    · have e : c.tmod 7 = 2 := by omega
      rw [show M.nr c = 8589934591 by simp [M.nr, hb, h]]
      clear hm h
      go_enter Tryz.func21, Tryz.ntmps21
      go_wp2
      go_ret
      exact ⟨rfl, (Below.refl _ _).alloc (Nat.le_refl _) _⟩
    · have e : c.tmod 7 = 3 := by omega
      rw [show M.nr c = 8589934592 by simp [M.nr, hb, h]]
      clear hm h
      go_enter Tryz.func21, Tryz.ntmps21
      go_wp2
      go_ret
      exact ⟨rfl, (Below.refl _ _).alloc (Nat.le_refl _) _⟩
    · have e : c.tmod 7 = 4 := by omega
      rw [show M.nr c = 1099511627776 by simp [M.nr, hb, h]]
      clear hm h
      go_enter Tryz.func21, Tryz.ntmps21
      go_wp2
      go_ret
      exact ⟨rfl, (Below.refl _ _).alloc (Nat.le_refl _) _⟩
    · have e : c.tmod 7 = 5 := by omega
      rw [show M.nr c = -1 by simp [M.nr, hb, h]]
      clear hm h
      go_enter Tryz.func21, Tryz.ntmps21
      go_wp2
      go_ret
      exact ⟨rfl, (Below.refl _ _).alloc (Nat.le_refl _) _⟩
    · have e : c.tmod 7 = 6 := by omega
      rw [show M.nr c = 4611686018427387904 by simp [M.nr, hb, h]]
      clear hm h
      go_enter Tryz.func21, Tryz.ntmps21
      go_wp2
      go_ret
      exact ⟨rfl, (Below.refl _ _).alloc (Nat.le_refl _) _⟩
  · rw [show M.nr c = c by simp [M.nr, hb]]
    have hw : IntKind.i64.wrap c = c := IntWalk.i64_in _ (by omega)
    go_enter Tryz.func21, Tryz.ntmps21
    go_wp2
    go_ret
    exact ⟨rfl, Below.refl _ _⟩
end Go.Proofs.YtbhpedhdhgjkoaaGreatDoor.Hd

/-! How a header is laid in a block, and why it is not. -/
namespace Go.Proofs.YtbhpedhdhgjkoaaGreatDoor.Hd
namespace M

def putT (zs : List Int) (a m : Nat) (s : ByteArray) : Option (List Int) := (S.M.put s.data.toList m).map fun l => splice zs a (S.ints l)
def putN (zs : List Int) (a m : Nat) (there : Bool) (lo up x : Int) : Option (List Int) :=
  if there = true then if putOk x m lo up = true then some (splice zs a (putR x m)) else none
  else if x = 0 then some zs else none
end M
end Go.Proofs.YtbhpedhdhgjkoaaGreatDoor.Hd

/-! head.Print: how it is left; printParts. -/
namespace Go.Proofs.YtbhpedhdhgjkoaaGreatDoor.Hd
open Go.RowKit Go.Lib

/-! Print's deferred function. -/
/-- A frame of Print: the header's own copy, then the bytes' variable, then the error's. -/
structure QF (w0 w : World) (h : M.Hdr) (pv v : Value) : Prop where
  box : HB w w0.heap.size h pv
  bytes : w.heap[w0.heap.size + 1]? = some (.cells #[v] 22 (0, 0))
  err : w.heap[w0.heap.size + 2]? = some (.cells #[.int .u16 0] 30 (0, 0))
  below : Below w0.heap.size w0 w
theorem QF.keep {w0 w w' : World} {h : M.Hdr} {pv v : Value} (q : QF w0 w h pv v) (hb : Below (w0.heap.size + 3) w w') : QF w0 w' h pv v :=
  ⟨(hb.block _ (by omega)).trans q.box, (hb.block _ (by omega)).trans q.bytes, (hb.block _ (by omega)).trans q.err, q.below.trans (hb.mono (by omega))⟩
theorem QF.size {w0 w : World} {h : M.Hdr} {pv v : Value} (q : QF w0 w h pv v) : w0.heap.size + 3 ≤ w.heap.size := (Array.getElem?_eq_some_iff.1 q.err).1
theorem QF.later {w0 w w' : World} {h : M.Hdr} {pv v : Value} (q : QF w0 w h pv v) (hb : Below w.heap.size w w') : QF w0 w' h pv v := q.keep (hb.mono q.size)

/-! Parts that came in. -/
def PartsB (w : World) (B : Nat) (pv : Value) (l : List (Int × Int)) : Prop :=
  ∃ A c, pv = .slice A l.length c ∧ l.length ≤ c ∧ (0 < l.length → ∃ b off, A = some ⟨b, off, none⟩ ∧ b < B ∧ ∀ (j : Nat) (p : Int × Int), l[j]? = some p → w.cell? ⟨b, off + 2 * j, none⟩ = some (.int .i64 p.1) ∧ w.cell? ⟨b, off + 2 * j + 1, none⟩ = some (.int .i64 p.2))
theorem PartsIs.in_ {w : World} {base : Nat} {pv : Value} {l : List (Int × Int)} (h : PartsIs w base pv l) : PartsB w w.heap.size pv l := by
  obtain ⟨A, c, rfl, h1, h2⟩ := h
  exact ⟨A, c, rfl, h1, fun hl => let ⟨b, off, e, _, h4, h5⟩ := h2 hl; ⟨b, off, e, h4, h5⟩⟩
theorem PartsB.below {w w' : World} {B : Nat} {pv : Value} {l : List (Int × Int)} (h : PartsB w B pv l) (hb : Below B w w') : PartsB w' B pv l := by
  obtain ⟨A, c, rfl, h1, h2⟩ := h
  exact ⟨A, c, rfl, h1, fun hl => let ⟨b, off, e, h4, h5⟩ := h2 hl; ⟨b, off, e, h4, fun j p hp => ⟨(hb.cell (p := ⟨b, off + 2 * j, none⟩) h4).trans (h5 j p hp).1, (hb.cell (p := ⟨b, off + 2 * j + 1, none⟩) h4).trans (h5 j p hp).2⟩⟩⟩
end Go.Proofs.YtbhpedhdhgjkoaaGreatDoor.Hd

/-! printParts. -/
namespace Go.Proofs.YtbhpedhdhgjkoaaGreatDoor.Hd
open Go.RowKit Go.Lib

/-- A part's variable beside a block that is being laid. -/
structure PP (w0 W : World) (gb g : Nat) (zs : List Int) (p q : Int) : Prop where
  arr : Arr W gb 5 zs
  box : W.heap[g]? = some (.cells #[.int .i64 p, .int .i64 q] 66 (0, 0))
  ne : gb ≠ g
  below : Below gb w0 W
theorem PP.new {w0 W : World} {gb : Nat} {zs : List Int} (ha : Arr W gb 5 zs) (hb : Below gb w0 W) (p q : Int) : PP w0 (W.alloc (.cells #[.int .i64 p, .int .i64 q] 66)) gb W.heap.size zs p q :=
  ⟨ha.alloc _, heap_alloc_new W _, Nat.ne_of_lt ha.lt, hb.alloc (Nat.le_of_lt ha.lt) _⟩
theorem PP.later {w0 W W' : World} {gb g : Nat} {zs : List Int} {p q : Int} (h : PP w0 W gb g zs p q) (hb : Below W.heap.size W W') : PP w0 W' gb g zs p q :=
  ⟨h.arr.below hb h.arr.lt, (hb.block _ (Array.getElem?_eq_some_iff.1 h.box).1).trans h.box, h.ne, h.below.trans (hb.mono (Nat.le_of_lt h.arr.lt))⟩
theorem PP.laid {w0 W : World} {gb g : Nat} {zs : List Int} {p q : Int} (h : PP w0 W gb g zs p q) (ys : List Int) : PP w0 (laid W gb ys) gb g ys p q :=
  ⟨h.arr.laid ys, (setRow_other _ _ _ _ (Ne.symm h.ne)).trans h.box, h.ne, below_setRow h.below (Nat.le_refl _) _⟩
theorem PP.more {w0 W : World} {gb g : Nat} {zs : List Int} {p q : Int} (h : PP w0 W gb g zs p q) (o : Obj) : PP w0 (W.alloc o) gb g zs p q := h.later ((Below.refl _ _).alloc (Nat.le_refl _) _)

def PartsPut (o : Option (List Int)) (gb : Nat) (w : World) (e : Ending) (w' : World) : Prop :=
  (match o with
    | none => e = .panicked (boom 32)
    | some ys => e = .returned (.tuple #[]) ∧ Arr w' gb 5 ys ∧ ys.length = 512) ∧ Below gb w w'
theorem PartsPut.no {o : Option (List Int)} {gb : Nat} {w w' : World} (ho : o = none) (hb : Below gb w w') : PartsPut o gb w (.panicked (boom 32)) w' := by
  subst ho; exact ⟨rfl, hb⟩
theorem PartsPut.yes {o : Option (List Int)} {ys : List Int} {gb : Nat} {w w' : World} (ho : o = some ys) (ha : Arr w' gb 5 ys) (hl : ys.length = 512) (hb : Below gb w w') : PartsPut o gb w (.returned (.tuple #[])) w' := by
  subst ho; exact ⟨⟨rfl, ha, hl⟩, hb⟩

namespace M
theorem putOk_fits {x : Int} {m : Nat} {lo up : Int} (h : putOk x m lo up = true) : putFits x m = true := by
  unfold putOk at h
  rw [Bool.and_eq_true] at h
  exact h.1
end M

def i64p (l : List (Int × Int)) : Prop := ∀ p ∈ l, (-9223372036854775808 ≤ p.1 ∧ p.1 ≤ 9223372036854775807) ∧ (-9223372036854775808 ≤ p.2 ∧ p.2 ≤ 9223372036854775807)

end Go.Proofs.YtbhpedhdhgjkoaaGreatDoor.Hd

/-! head.Print: its steps. -/
namespace Go.Proofs.YtbhpedhdhgjkoaaGreatDoor.Hd
open Go.RowKit Go.Lib

/-- A frame of Print, with the block so far. -/
structure RF (w0 W : World) (h : M.Hdr) (pv : Value) (zs : List Int) : Prop where
  q : QF w0 W h pv (.slice (some ⟨w0.heap.size + 3, 0, none⟩) 512 512)
  arr : Arr W (w0.heap.size + 3) 5 zs
  len : zs.length = 512
  bd : ∀ z ∈ zs, 0 ≤ z ∧ z ≤ 255
theorem RF.later {w0 W W' : World} {h : M.Hdr} {pv : Value} {zs : List Int} (r : RF w0 W h pv zs) (hb : Below W.heap.size W W') : RF w0 W' h pv zs := ⟨r.q.later hb, r.arr.below hb r.arr.lt, r.len, r.bd⟩
theorem RF.more {w0 W : World} {h : M.Hdr} {pv : Value} {zs : List Int} (r : RF w0 W h pv zs) (o : Obj) : RF w0 (W.alloc o) h pv zs := r.later ((Below.refl _ _).alloc (Nat.le_refl _) _)
theorem RF.laid {w0 W : World} {h : M.Hdr} {pv : Value} {zs : List Int} (r : RF w0 W h pv zs) {ys : List Int} (hl : ys.length = 512) (hbd : ∀ z ∈ ys, 0 ≤ z ∧ z ≤ 255) : RF w0 (laid W (w0.heap.size + 3) ys) h pv ys :=
  ⟨r.q.keep (below_setRow (Below.refl _ _) (Nat.le_refl _) _), r.arr.laid ys, hl, hbd⟩
theorem RF.drew {w0 W : World} {h : M.Hdr} {pv : Value} {zs : List Int} (r : RF w0 W h pv zs) : RF w0 W.drew h pv zs := ⟨⟨r.q.box, r.q.bytes, r.q.err, below_drew' r.q.below⟩, r.arr, r.len, r.bd⟩

theorem splice_bd {zs ys : List Int} {a : Nat} (h : ∀ z ∈ zs, 0 ≤ z ∧ z ≤ 255) (hy : ∀ z ∈ ys, 0 ≤ z ∧ z ≤ 255) : ∀ z ∈ splice zs a ys, 0 ≤ z ∧ z ≤ 255 := by
  intro z hz
  unfold splice at hz
  rcases List.mem_append.1 hz with h1 | h1
  · exact h z (List.mem_of_mem_take h1)
  · rcases List.mem_append.1 h1 with h2 | h2
    · exact hy z h2
    · exact h z (List.mem_of_mem_drop h2)
theorem listOf_bd {g : Nat → Int} {N : Nat} (hg : ∀ j, 0 ≤ g j ∧ g j ≤ 255) : ∀ z ∈ M.listOf g N, 0 ≤ z ∧ z ≤ 255 := by
  intro z hz
  unfold M.listOf at hz
  obtain ⟨j, _, rfl⟩ := List.mem_map.1 hz
  exact hg j
theorem putR_bd (x m : Int) : ∀ z ∈ M.putR x m, 0 ≤ z ∧ z ≤ 255 := by
  unfold M.putR M.binR
  split
  · exact listOf_bd (M.octG_bd _ _)
  · split
    · exact listOf_bd (M.binG_bd _ _)
    · intro z hz; cases hz
theorem splice_len {zs ys : List Int} {a n : Nat} (h : zs.length = 512) (hy : ys.length = n) (ha : a + n ≤ 512) : (splice zs a ys).length = 512 := by
  rw [length_splice _ _ _ (by omega), h]
theorem RF.text {w0 W w' : World} {h : M.Hdr} {pv : Value} {zs : List Int} {a m : Nat} {s : ByteArray} {e : Ending} (r : RF w0 W h pv zs) (ham : a + m ≤ 512) (t : TxtPut zs a m s (w0.heap.size + 3) W e w') :
    (M.putT zs a m s = none → e = .panicked (boom 33) ∧ QF w0 w' h pv (.slice (some ⟨w0.heap.size + 3, 0, none⟩) 512 512)) ∧ (∀ ys, M.putT zs a m s = some ys → e = .returned (.tuple #[]) ∧ RF w0 w' h pv ys) := by
  unfold TxtPut at t
  unfold M.putT
  cases hp : S.M.put s.data.toList (m : Int) with
  | none =>
    rw [hp] at t
    exact ⟨fun _ => ⟨t.1, r.q.later t.2⟩, (fun ys h => by cases h)⟩
  | some l =>
    rw [hp] at t
    refine ⟨(fun h => by cases h), fun ys hy => ?_⟩
    injection hy with hy
    subst hy
    obtain ⟨rfl, w1, b1, rfl⟩ := t
    exact ⟨rfl, (r.later b1).laid (splice_len r.len (by rw [S.ints_length]; exact put_len hp) ham) (splice_bd r.bd (S.ints_bd l))⟩
theorem RF.num {w0 W w' : World} {h : M.Hdr} {pv : Value} {zs : List Int} {a m : Nat} {there : Bool} {lo up x : Int} {e : Ending} (r : RF w0 W h pv zs) (ham : a + m ≤ 512) (t : NumPut zs a m there lo up x (w0.heap.size + 3) W e w') :
    (M.putN zs a m there lo up x = none → e = .panicked (boom 32) ∧ QF w0 w' h pv (.slice (some ⟨w0.heap.size + 3, 0, none⟩) 512 512)) ∧ (∀ ys, M.putN zs a m there lo up x = some ys → e = .returned (.tuple #[]) ∧ RF w0 w' h pv ys) := by
  unfold NumPut at t
  unfold M.putN
  cases there with
  | true =>
    rw [if_pos rfl] at t ⊢
    cases ho : M.putOk x m lo up with
    | true =>
      rw [ho, if_pos rfl] at t
      rw [if_pos rfl]
      refine ⟨(fun h => by cases h), fun ys hy => ?_⟩
      injection hy with hy
      subst hy
      obtain ⟨rfl, w1, b1, rfl⟩ := t
      exact ⟨rfl, (r.later b1).laid (splice_len r.len (putR_len (M.putOk_fits ho)) ham) (splice_bd r.bd (putR_bd x m))⟩
    | false =>
      rw [ho, if_neg (by decide)] at t
      rw [if_neg (by decide)]
      exact ⟨fun _ => ⟨t.1, r.q.later t.2⟩, (fun ys h => by cases h)⟩
  | false =>
    rw [if_neg (by decide)] at t ⊢
    by_cases h0 : x = 0
    · rw [if_pos h0] at t ⊢
      refine ⟨(fun h => by cases h), fun ys hy => ?_⟩
      injection hy with hy
      subst hy
      exact ⟨t.1, r.later t.2⟩
    · rw [if_neg h0] at t ⊢
      exact ⟨fun _ => ⟨t.1, r.q.later t.2⟩, (fun ys h => by cases h)⟩

namespace M
end M
end Go.Proofs.YtbhpedhdhgjkoaaGreatDoor.Hd

/-! head.Print: the walk. -/
namespace Go.Proofs.YtbhpedhdhgjkoaaGreatDoor.Hd
open Go.RowKit Go.Lib
/-- A header that may come in. -/
structure HIn (w : World) (h : M.Hdr) (pv : Value) : Prop where
  parts : PartsB w w.heap.size pv h.parts
  nums : i64p h.parts
  kind : 0 ≤ h.kind ∧ h.kind ≤ 255
  ints : (-9223372036854775808 ≤ h.mode ∧ h.mode ≤ 9223372036854775807) ∧ (-9223372036854775808 ≤ h.uid ∧ h.uid ≤ 9223372036854775807) ∧ (-9223372036854775808 ≤ h.gid ∧ h.gid ≤ 9223372036854775807) ∧ (-9223372036854775808 ≤ h.size ∧ h.size ≤ 9223372036854775807) ∧ (-9223372036854775808 ≤ h.mtime ∧ h.mtime ≤ 9223372036854775807) ∧
    (-9223372036854775808 ≤ h.major ∧ h.major ≤ 9223372036854775807) ∧ (-9223372036854775808 ≤ h.minor ∧ h.minor ≤ 9223372036854775807) ∧ (-9223372036854775808 ≤ h.real ∧ h.real ≤ 9223372036854775807)
  texts : h.name.size ≤ 100000 ∧ h.link.size ≤ 100000 ∧ h.user.size ≤ 100000 ∧ h.group.size ≤ 100000 ∧ h.pre.size ≤ 100000

theorem PartsB.mono {w : World} {B B' : Nat} {pv : Value} {l : List (Int × Int)} (h : PartsB w B pv l) (hb : B ≤ B') : PartsB w B' pv l := by
  obtain ⟨A, c, rfl, h1, h2⟩ := h
  exact ⟨A, c, rfl, h1, fun hl => let ⟨b, off, e, h4, h5⟩ := h2 hl; ⟨b, off, e, Nat.lt_of_lt_of_le h4 hb, h5⟩⟩
end Go.Proofs.YtbhpedhdhgjkoaaGreatDoor.Hd

/-! Header: one, as choices say. -/
namespace Go.Proofs.YtbhpedhdhgjkoaaGreatDoor.Hd
open Go.RowKit Go.Lib

theorem below_drw {B : Nat} {a w : World} (h : Below B a w) : Below B a w.drew := ⟨h.os, h.tape, h.output, h.size, h.block⟩
def pvo (o : Option Nat) : Value := match o with
  | none => undef
  | some g => .pointer (some ⟨g, 0, none⟩)
def pick (k i : Nat) (v : Value) : Value := if i < k then v else undef
/-- A variable that holds a header that may be. -/
structure HD (w0 w : World) (g : Nat) (h : M.Hdr) (pv : Value) : Prop where
  box : HB w g h pv
  res : HB w w0.heap.size {} (.slice none 0 0)
  apart : w0.heap.size < g
  own : PartsIs w (g + 1) pv h.parts
  few : h.parts.length ≤ 1000
  way : 0 ≤ h.way ∧ h.way ≤ 2
  nums : i64p h.parts
  kind : 0 ≤ h.kind ∧ h.kind ≤ 255
  ints : (-9223372036854775808 ≤ h.mode ∧ h.mode ≤ 9223372036854775807) ∧ (-9223372036854775808 ≤ h.uid ∧ h.uid ≤ 9223372036854775807) ∧ (-9223372036854775808 ≤ h.gid ∧ h.gid ≤ 9223372036854775807) ∧ (-9223372036854775808 ≤ h.size ∧ h.size ≤ 9223372036854775807) ∧ (-9223372036854775808 ≤ h.mtime ∧ h.mtime ≤ 9223372036854775807) ∧
    (-9223372036854775808 ≤ h.major ∧ h.major ≤ 9223372036854775807) ∧ (-9223372036854775808 ≤ h.minor ∧ h.minor ≤ 9223372036854775807) ∧ (-9223372036854775808 ≤ h.real ∧ h.real ≤ 9223372036854775807)
  texts : h.name.size ≤ 100000 ∧ h.link.size ≤ 100000 ∧ h.user.size ≤ 100000 ∧ h.group.size ≤ 100000 ∧ h.pre.size ≤ 100000
  below : Below w0.heap.size w0 w

theorem HD.set {w0 w : World} {g : Nat} {h h' : M.Hdr} {pv : Value} (p : HD w0 w g h pv) (i : Nat) (v : Value) (e : (hcells h pv).set! i v = hcells h' pv) (hp : h'.parts = h.parts) (hw : 0 ≤ h'.way ∧ h'.way ≤ 2) (hk : 0 ≤ h'.kind ∧ h'.kind ≤ 255)
    (hi : (-9223372036854775808 ≤ h'.mode ∧ h'.mode ≤ 9223372036854775807) ∧ (-9223372036854775808 ≤ h'.uid ∧ h'.uid ≤ 9223372036854775807) ∧ (-9223372036854775808 ≤ h'.gid ∧ h'.gid ≤ 9223372036854775807) ∧ (-9223372036854775808 ≤ h'.size ∧ h'.size ≤ 9223372036854775807) ∧ (-9223372036854775808 ≤ h'.mtime ∧ h'.mtime ≤ 9223372036854775807) ∧
      (-9223372036854775808 ≤ h'.major ∧ h'.major ≤ 9223372036854775807) ∧ (-9223372036854775808 ≤ h'.minor ∧ h'.minor ≤ 9223372036854775807) ∧ (-9223372036854775808 ≤ h'.real ∧ h'.real ≤ 9223372036854775807))
    (ht : h'.name.size ≤ 100000 ∧ h'.link.size ≤ 100000 ∧ h'.user.size ≤ 100000 ∧ h'.group.size ≤ 100000 ∧ h'.pre.size ≤ 100000) : HD w0 (w.setCell ⟨g, i, none⟩ v) g h' pv :=
  ⟨p.box.set i v e, HB.other p.res (by have := p.apart; show w0.heap.size ≠ g; omega) v, p.apart, by rw [hp]; exact p.own.set _ (Nat.lt_succ_self _) v, by rw [hp]; exact p.few, hw, by rw [hp]; exact p.nums, hk, hi, ht, p.below.setCell (p := ⟨g, i, none⟩) (by have := p.apart; show w0.heap.size ≤ g; omega) v⟩
theorem HD.later {w0 w w' : World} {g : Nat} {h : M.Hdr} {pv : Value} (p : HD w0 w g h pv) (hb : Below w.heap.size w w') : HD w0 w' g h pv :=
  ⟨HB.below p.box hb (HB.lt p.box), HB.below p.res hb (HB.lt p.res), p.apart, p.own.later hb, p.few, p.way, p.nums, p.kind, p.ints, p.texts, p.below.trans (hb.mono p.below.size)⟩
theorem HD.cell {w0 w : World} {g : Nat} {h : M.Hdr} {pv : Value} (p : HD w0 w g h pv) {i : Nat} {v : Value} (hv : (hcells h pv)[i]? = some v) : w.cell? ⟨g, i, none⟩ = some v := HB.cell p.box hv

theorem HD.next {w0 w w' : World} {g : Nat} {h : M.Hdr} {pv : Value} {p q : Int} {A : Option Addr} {n c : Nat} (d : HD w0 w g h pv) (ho : OwnP w' (g + 1) (.slice A n c) (h.parts ++ [(p, q)])) (hb : Below (g + 1) w w') (hl : h.parts.length ≤ 900)
    (hp : -9223372036854775808 ≤ p ∧ p ≤ 9223372036854775807) (hq : -9223372036854775808 ≤ q ∧ q ≤ 9223372036854775807) :
    HD w0 (w'.setCell ⟨g, 14, none⟩ (.slice A n c)) g { h with parts := h.parts ++ [(p, q)] } (.slice A n c) ∧ OwnP (w'.setCell ⟨g, 14, none⟩ (.slice A n c)) (g + 1) (.slice A n c) (h.parts ++ [(p, q)]) := by
  have hog : w0.heap.size ≤ g := Nat.le_of_lt d.apart
  have hor : OwnP (w'.setCell ⟨g, 14, none⟩ (.slice A n c)) (g + 1) (.slice A n c) (h.parts ++ [(p, q)]) := ownsRow_setCell_below ho (Nat.lt_succ_self _) _
  have hb1 : HB w' g h pv := HB.below d.box hb (Nat.lt_succ_self _)
  have hr1 : HB w' w0.heap.size {} (.slice none 0 0) := HB.below d.res hb (by have := d.apart; omega)
  refine ⟨⟨HB.set hb1 14 _ rfl, HB.other hr1 (by have := d.apart; show w0.heap.size ≠ g; omega) _, d.apart, hor.parts, by show (h.parts ++ [(p, q)]).length ≤ 1000; rw [List.length_append]; simp; omega, d.way, ?_, d.kind, d.ints, d.texts, (d.below.trans (hb.mono (by omega))).setCell (p := ⟨g, 14, none⟩) hog _⟩, hor⟩
  intro x hx
  rw [List.mem_append] at hx
  rcases hx with hx | hx
  · exact d.nums x hx
  · rw [List.mem_singleton] at hx
    subst hx
    exact ⟨hp, hq⟩

/-- What Header answers. -/
def HeaderIs (w0 : World) (e : Ending) (w' : World) : Prop :=
  ∃ h pv, e = .returned (.agg (hcells h pv)) ∧ HIn w' h pv ∧ h.parts.length ≤ 1000 ∧ (0 ≤ h.way ∧ h.way ≤ 2) ∧ Below w0.heap.size w0 w'

theorem kinds_at (j : Nat) (hj : j < 13) : ∃ kk : Int, (0 ≤ kk ∧ kk ≤ 255) ∧ (#[.int .u8 48, .int .u8 49, .int .u8 50, .int .u8 51, .int .u8 52, .int .u8 53, .int .u8 54, .int .u8 55, .int .u8 120, .int .u8 103, .int .u8 76, .int .u8 75, .int .u8 83, .int .u8 122] : Array Value)[j]? = some (.int .u8 kk) := by
  have : j = 0 ∨ j = 1 ∨ j = 2 ∨ j = 3 ∨ j = 4 ∨ j = 5 ∨ j = 6 ∨ j = 7 ∨ j = 8 ∨ j = 9 ∨ j = 10 ∨ j = 11 ∨ j = 12 := by omega
  rcases this with rfl | rfl | rfl | rfl | rfl | rfl | rfl | rfl | rfl | rfl | rfl | rfl | rfl <;> exact ⟨_, by decide, rfl⟩

set_option maxRecDepth 100000 in
set_option maxHeartbeats 4000000 in
theorem header_any (A : Option Addr) (n c : Nat) (zs : List Int) (w : World) (hr : Rd w w.heap.size A n zs) (hc : n ≤ c) (hcm : c ≤ maxLen) :
    Calls Tryz.prog 5 #[.slice A n c] w (HeaderIs w) := by
  obtain ⟨x0, hx0, G0⟩ : ∃ x : Int, (0 ≤ x ∧ x ≤ 255) ∧ Hid (∀ W, Below w.heap.size w W → Calls Tryz.prog 20 #[.slice A n c, .int .i64 0] W fun e w' => e = .returned (.int .u8 x) ∧ W = w') :=
    ⟨M.gz zs 0, M.gz_bd hr.2.1 _, hid fun W hW => g_any A n c 0 zs W w.heap.size (hr.below hW) (by decide)⟩
  obtain ⟨x1, hx1, G1⟩ : ∃ x : Int, (0 ≤ x ∧ x ≤ 255) ∧ Hid (∀ W, Below w.heap.size w W → Calls Tryz.prog 20 #[.slice A n c, .int .i64 1] W fun e w' => e = .returned (.int .u8 x) ∧ W = w') :=
    ⟨M.gz zs 1, M.gz_bd hr.2.1 _, hid fun W hW => g_any A n c 1 zs W w.heap.size (hr.below hW) (by decide)⟩
  obtain ⟨x2, hx2, G2⟩ : ∃ x : Int, (0 ≤ x ∧ x ≤ 255) ∧ Hid (∀ W, Below w.heap.size w W → Calls Tryz.prog 20 #[.slice A n c, .int .i64 2] W fun e w' => e = .returned (.int .u8 x) ∧ W = w') :=
    ⟨M.gz zs 2, M.gz_bd hr.2.1 _, hid fun W hW => g_any A n c 2 zs W w.heap.size (hr.below hW) (by decide)⟩
  obtain ⟨x3, hx3, G3⟩ : ∃ x : Int, (0 ≤ x ∧ x ≤ 255) ∧ Hid (∀ W, Below w.heap.size w W → Calls Tryz.prog 20 #[.slice A n c, .int .i64 3] W fun e w' => e = .returned (.int .u8 x) ∧ W = w') :=
    ⟨M.gz zs 3, M.gz_bd hr.2.1 _, hid fun W hW => g_any A n c 3 zs W w.heap.size (hr.below hW) (by decide)⟩
  obtain ⟨x4, hx4, G4⟩ : ∃ x : Int, (0 ≤ x ∧ x ≤ 255) ∧ Hid (∀ W, Below w.heap.size w W → Calls Tryz.prog 20 #[.slice A n c, .int .i64 4] W fun e w' => e = .returned (.int .u8 x) ∧ W = w') :=
    ⟨M.gz zs 4, M.gz_bd hr.2.1 _, hid fun W hW => g_any A n c 4 zs W w.heap.size (hr.below hW) (by decide)⟩
  obtain ⟨x5, hx5, G5⟩ : ∃ x : Int, (0 ≤ x ∧ x ≤ 255) ∧ Hid (∀ W, Below w.heap.size w W → Calls Tryz.prog 20 #[.slice A n c, .int .i64 5] W fun e w' => e = .returned (.int .u8 x) ∧ W = w') :=
    ⟨M.gz zs 5, M.gz_bd hr.2.1 _, hid fun W hW => g_any A n c 5 zs W w.heap.size (hr.below hW) (by decide)⟩
  obtain ⟨x6, hx6, G6⟩ : ∃ x : Int, (0 ≤ x ∧ x ≤ 255) ∧ Hid (∀ W, Below w.heap.size w W → Calls Tryz.prog 20 #[.slice A n c, .int .i64 6] W fun e w' => e = .returned (.int .u8 x) ∧ W = w') :=
    ⟨M.gz zs 6, M.gz_bd hr.2.1 _, hid fun W hW => g_any A n c 6 zs W w.heap.size (hr.below hW) (by decide)⟩
  obtain ⟨x7, hx7, G7⟩ : ∃ x : Int, (0 ≤ x ∧ x ≤ 255) ∧ Hid (∀ W, Below w.heap.size w W → Calls Tryz.prog 20 #[.slice A n c, .int .i64 7] W fun e w' => e = .returned (.int .u8 x) ∧ W = w') :=
    ⟨M.gz zs 7, M.gz_bd hr.2.1 _, hid fun W hW => g_any A n c 7 zs W w.heap.size (hr.below hW) (by decide)⟩
  obtain ⟨x8, hx8, G8⟩ : ∃ x : Int, (0 ≤ x ∧ x ≤ 255) ∧ Hid (∀ W, Below w.heap.size w W → Calls Tryz.prog 20 #[.slice A n c, .int .i64 8] W fun e w' => e = .returned (.int .u8 x) ∧ W = w') :=
    ⟨M.gz zs 8, M.gz_bd hr.2.1 _, hid fun W hW => g_any A n c 8 zs W w.heap.size (hr.below hW) (by decide)⟩
  obtain ⟨x9, hx9, G9⟩ : ∃ x : Int, (0 ≤ x ∧ x ≤ 255) ∧ Hid (∀ W, Below w.heap.size w W → Calls Tryz.prog 20 #[.slice A n c, .int .i64 9] W fun e w' => e = .returned (.int .u8 x) ∧ W = w') :=
    ⟨M.gz zs 9, M.gz_bd hr.2.1 _, hid fun W hW => g_any A n c 9 zs W w.heap.size (hr.below hW) (by decide)⟩
  obtain ⟨x14, hx14, G14⟩ : ∃ x : Int, (0 ≤ x ∧ x ≤ 255) ∧ Hid (∀ W, Below w.heap.size w W → Calls Tryz.prog 20 #[.slice A n c, .int .i64 14] W fun e w' => e = .returned (.int .u8 x) ∧ W = w') :=
    ⟨M.gz zs 14, M.gz_bd hr.2.1 _, hid fun W hW => g_any A n c 14 zs W w.heap.size (hr.below hW) (by decide)⟩
  obtain ⟨x15, hx15, G15⟩ : ∃ x : Int, (0 ≤ x ∧ x ≤ 255) ∧ Hid (∀ W, Below w.heap.size w W → Calls Tryz.prog 20 #[.slice A n c, .int .i64 15] W fun e w' => e = .returned (.int .u8 x) ∧ W = w') :=
    ⟨M.gz zs 15, M.gz_bd hr.2.1 _, hid fun W hW => g_any A n c 15 zs W w.heap.size (hr.below hW) (by decide)⟩
  obtain ⟨x16, hx16, G16⟩ : ∃ x : Int, (0 ≤ x ∧ x ≤ 255) ∧ Hid (∀ W, Below w.heap.size w W → Calls Tryz.prog 20 #[.slice A n c, .int .i64 16] W fun e w' => e = .returned (.int .u8 x) ∧ W = w') :=
    ⟨M.gz zs 16, M.gz_bd hr.2.1 _, hid fun W hW => g_any A n c 16 zs W w.heap.size (hr.below hW) (by decide)⟩
  obtain ⟨x17, hx17, G17⟩ : ∃ x : Int, (0 ≤ x ∧ x ≤ 255) ∧ Hid (∀ W, Below w.heap.size w W → Calls Tryz.prog 20 #[.slice A n c, .int .i64 17] W fun e w' => e = .returned (.int .u8 x) ∧ W = w') :=
    ⟨M.gz zs 17, M.gz_bd hr.2.1 _, hid fun W hW => g_any A n c 17 zs W w.heap.size (hr.below hW) (by decide)⟩
  obtain ⟨x18, hx18, G18⟩ : ∃ x : Int, (0 ≤ x ∧ x ≤ 255) ∧ Hid (∀ W, Below w.heap.size w W → Calls Tryz.prog 20 #[.slice A n c, .int .i64 18] W fun e w' => e = .returned (.int .u8 x) ∧ W = w') :=
    ⟨M.gz zs 18, M.gz_bd hr.2.1 _, hid fun W hW => g_any A n c 18 zs W w.heap.size (hr.below hW) (by decide)⟩
  obtain ⟨x19, hx19, G19⟩ : ∃ x : Int, (0 ≤ x ∧ x ≤ 255) ∧ Hid (∀ W, Below w.heap.size w W → Calls Tryz.prog 20 #[.slice A n c, .int .i64 19] W fun e w' => e = .returned (.int .u8 x) ∧ W = w') :=
    ⟨M.gz zs 19, M.gz_bd hr.2.1 _, hid fun W hW => g_any A n c 19 zs W w.heap.size (hr.below hW) (by decide)⟩
  obtain ⟨s0, hs0, N0⟩ : ∃ s : ByteArray, s.size ≤ 100000 ∧ Hid (∀ W, Calls Tryz.prog 19 #[.int .u8 x0] W fun e w' => e = .returned (.string s) ∧ Below W.heap.size W w') :=
    ⟨M.nm x0, M.nm_size _, hid fun W => name_any x0 hx0 W⟩
  obtain ⟨s7, hs7, N7⟩ : ∃ s : ByteArray, s.size ≤ 100000 ∧ Hid (∀ W, Calls Tryz.prog 19 #[.int .u8 x7] W fun e w' => e = .returned (.string s) ∧ Below W.heap.size W w') :=
    ⟨M.nm x7, M.nm_size _, hid fun W => name_any x7 hx7 W⟩
  obtain ⟨s15, hs15, N15⟩ : ∃ s : ByteArray, s.size ≤ 100000 ∧ Hid (∀ W, Calls Tryz.prog 19 #[.int .u8 x15] W fun e w' => e = .returned (.string s) ∧ Below W.heap.size W w') :=
    ⟨M.nm x15, M.nm_size _, hid fun W => name_any x15 hx15 W⟩
  obtain ⟨s16, hs16, N16⟩ : ∃ s : ByteArray, s.size ≤ 100000 ∧ Hid (∀ W, Calls Tryz.prog 19 #[.int .u8 x16] W fun e w' => e = .returned (.string s) ∧ Below W.heap.size W w') :=
    ⟨M.nm x16, M.nm_size _, hid fun W => name_any x16 hx16 W⟩
  obtain ⟨s19, hs19, N19⟩ : ∃ s : ByteArray, s.size ≤ 100000 ∧ Hid (∀ W, Calls Tryz.prog 19 #[.int .u8 x19] W fun e w' => e = .returned (.string s) ∧ Below W.heap.size W w') :=
    ⟨M.nm x19, M.nm_size _, hid fun W => name_any x19 hx19 W⟩
  obtain ⟨y1, hy1, Y1⟩ : ∃ y : Int, (-1 ≤ y ∧ y ≤ 4611686018427387904) ∧ Hid (∀ W, Calls Tryz.prog 21 #[.int .u8 x1] W fun e w' => e = .returned (.int .i64 y) ∧ Below W.heap.size W w') :=
    ⟨M.nr x1, M.nr_bd hx1, hid fun W => number_any x1 hx1 W⟩
  obtain ⟨y2, hy2, Y2⟩ : ∃ y : Int, (-1 ≤ y ∧ y ≤ 4611686018427387904) ∧ Hid (∀ W, Calls Tryz.prog 21 #[.int .u8 x2] W fun e w' => e = .returned (.int .i64 y) ∧ Below W.heap.size W w') :=
    ⟨M.nr x2, M.nr_bd hx2, hid fun W => number_any x2 hx2 W⟩
  obtain ⟨y3, hy3, Y3⟩ : ∃ y : Int, (-1 ≤ y ∧ y ≤ 4611686018427387904) ∧ Hid (∀ W, Calls Tryz.prog 21 #[.int .u8 x3] W fun e w' => e = .returned (.int .i64 y) ∧ Below W.heap.size W w') :=
    ⟨M.nr x3, M.nr_bd hx3, hid fun W => number_any x3 hx3 W⟩
  obtain ⟨y4, hy4, Y4⟩ : ∃ y : Int, (-1 ≤ y ∧ y ≤ 4611686018427387904) ∧ Hid (∀ W, Calls Tryz.prog 21 #[.int .u8 x4] W fun e w' => e = .returned (.int .i64 y) ∧ Below W.heap.size W w') :=
    ⟨M.nr x4, M.nr_bd hx4, hid fun W => number_any x4 hx4 W⟩
  obtain ⟨y5, hy5, Y5⟩ : ∃ y : Int, (-1 ≤ y ∧ y ≤ 4611686018427387904) ∧ Hid (∀ W, Calls Tryz.prog 21 #[.int .u8 x5] W fun e w' => e = .returned (.int .i64 y) ∧ Below W.heap.size W w') :=
    ⟨M.nr x5, M.nr_bd hx5, hid fun W => number_any x5 hx5 W⟩
  obtain ⟨y14, hy14, Y14⟩ : ∃ y : Int, (-1 ≤ y ∧ y ≤ 4611686018427387904) ∧ Hid (∀ W, Calls Tryz.prog 21 #[.int .u8 x14] W fun e w' => e = .returned (.int .i64 y) ∧ Below W.heap.size W w') :=
    ⟨M.nr x14, M.nr_bd hx14, hid fun W => number_any x14 hx14 W⟩
  obtain ⟨y17, hy17, Y17⟩ : ∃ y : Int, (-1 ≤ y ∧ y ≤ 4611686018427387904) ∧ Hid (∀ W, Calls Tryz.prog 21 #[.int .u8 x17] W fun e w' => e = .returned (.int .i64 y) ∧ Below W.heap.size W w') :=
    ⟨M.nr x17, M.nr_bd hx17, hid fun W => number_any x17 hx17 W⟩
  have GI := hid (fun (i : Nat) (hi : i ≤ 1000) => (⟨M.gz zs i, M.gz_bd hr.2.1 _, fun W hW => g_any A n c i zs W w.heap.size (hr.below hW) hi⟩ : ∃ x : Int, (0 ≤ x ∧ x ≤ 255) ∧ ∀ W, Below w.heap.size w W → Calls Tryz.prog 20 #[.slice A n c, .int .i64 i] W fun e w' => e = .returned (.int .u8 x) ∧ W = w'))
  have HY := hid (fun (x : Int) (hx : 0 ≤ x ∧ x ≤ 255) => (⟨M.nr x, M.nr_bd hx, fun W => number_any x hx W⟩ : ∃ y : Int, (-1 ≤ y ∧ y ≤ 4611686018427387904) ∧ ∀ W, Calls Tryz.prog 21 #[.int .u8 x] W fun e w' => e = .returned (.int .i64 y) ∧ Below W.heap.size W w'))
  obtain ⟨j, hj⟩ : ∃ j : Nat, (j : Int) = x6 % 13 := ⟨(x6 % 13).toNat, by omega⟩
  have hj13 : j < 13 := by omega
  obtain ⟨kk, hkk, hkj⟩ := kinds_at j hj13
  obtain ⟨m8, hm8⟩ : ∃ m : Int, m = x8 % 3 := ⟨_, rfl⟩
  have hm8b : 0 ≤ m8 ∧ m8 ≤ 2 := by omega
  have E13 := hid (show x6.tmod 13 = (j : Int) by rw [Int.tmod_eq_emod_of_nonneg hx6.1]; exact hj.symm)
  obtain ⟨m9, hm9⟩ : ∃ m : Nat, (m : Int) = x9 % 5 := ⟨(x9 % 5).toNat, by omega⟩
  have HM9 := hid (show m9 ≤ 4 by omega)
  have E5 := hid (show x9.tmod 5 = (m9 : Int) by rw [Int.tmod_eq_emod_of_nonneg hx9.1]; exact hm9.symm)
  have EW5 := hid (show IntKind.u8.wrap (m9 : Int) = m9 from IntWalk.u8_in _ (by omega))
  have EI5 := hid (show IntKind.i64.wrap (m9 : Int) = m9 from IntWalk.i64_in _ (by omega))
  clear hm9
  obtain ⟨t17, ht17⟩ : ∃ t : Int, t = y17.tmod 4000000 := ⟨_, rfl⟩
  have hb17 : -4000000 ≤ t17 ∧ t17 ≤ 4000000 := by
    subst ht17
    by_cases h0 : 0 ≤ y17
    · rw [Int.tmod_eq_emod_of_nonneg h0]; omega
    · have : y17 = -1 := by omega
      subst this
      decide
  have E17 := hid ht17.symm
  have EW17 := hid (show IntKind.i64.wrap t17 = t17 from IntWalk.i64_in _ (by omega))
  have BT17 := hid hb17
  have EW18 := hid (show IntKind.i64.wrap x18 = x18 from IntWalk.i64_in _ (by omega))
  clear ht17 hb17
  have E3 := hid (show x8.tmod 3 = m8 by rw [Int.tmod_eq_emod_of_nonneg hx8.1]; exact hm8.symm)
  have EW := hid (show IntKind.u8.wrap (j : Int) = j from IntWalk.u8_in _ (by omega))
  have EM := hid (show IntKind.u8.wrap m8 = m8 from IntWalk.u8_in _ (by omega))
  have EI := hid (show IntKind.i64.wrap m8 = m8 from IntWalk.i64_in _ (by omega))
  have HX := hid (⟨hx0, hx1, hx2, hx3, hx4, hx5, hx6, hx7, hx8, hx9, hx14, hx15, hx16, hx17, hx18, hx19⟩ : (0 ≤ x0 ∧ x0 ≤ 255) ∧ (0 ≤ x1 ∧ x1 ≤ 255) ∧ (0 ≤ x2 ∧ x2 ≤ 255) ∧ (0 ≤ x3 ∧ x3 ≤ 255) ∧ (0 ≤ x4 ∧ x4 ≤ 255) ∧ (0 ≤ x5 ∧ x5 ≤ 255) ∧ (0 ≤ x6 ∧ x6 ≤ 255) ∧ (0 ≤ x7 ∧ x7 ≤ 255) ∧ (0 ≤ x8 ∧ x8 ≤ 255) ∧ (0 ≤ x9 ∧ x9 ≤ 255) ∧ (0 ≤ x14 ∧ x14 ≤ 255) ∧ (0 ≤ x15 ∧ x15 ≤ 255) ∧ (0 ≤ x16 ∧ x16 ≤ 255) ∧ (0 ≤ x17 ∧ x17 ≤ 255) ∧ (0 ≤ x18 ∧ x18 ≤ 255) ∧ (0 ≤ x19 ∧ x19 ≤ 255))
  have HYB := hid (⟨hy1, hy2, hy3, hy4, hy5, hy14, hy17⟩ : (-1 ≤ y1 ∧ y1 ≤ 4611686018427387904) ∧ (-1 ≤ y2 ∧ y2 ≤ 4611686018427387904) ∧ (-1 ≤ y3 ∧ y3 ≤ 4611686018427387904) ∧ (-1 ≤ y4 ∧ y4 ≤ 4611686018427387904) ∧ (-1 ≤ y5 ∧ y5 ≤ 4611686018427387904) ∧ (-1 ≤ y14 ∧ y14 ≤ 4611686018427387904) ∧ (-1 ≤ y17 ∧ y17 ≤ 4611686018427387904))
  have HSB := hid (⟨hs0, hs7, hs15, hs16, hs19⟩ : s0.size ≤ 100000 ∧ s7.size ≤ 100000 ∧ s15.size ≤ 100000 ∧ s16.size ≤ 100000 ∧ s19.size ≤ 100000)
  have HKB := hid hkk
  have HMB := hid hm8b
  have HJ := hid hj13
  have HKJ := hid hkj
  clear hx0 hx1 hx2 hx3 hx4 hx5 hx6 hx7 hx8 hx9 hx14 hx15 hx16 hx17 hx18 hx19 hy1 hy2 hy3 hy4 hy5 hy14 hy17 hs0 hs7 hs15 hs16 hs19 hkk hm8b hj hj13 hkj hm8 hr hc hcm
  go_enter Tryz.func5, Tryz.ntmps5
  go_wp2_with fail
  have hz1 : ∀ W, Below (w.heap.size + 2) ((w.alloc (.cells (hcells {} (.slice none 0 0)) 34)).alloc (.cells #[.int .u8 48, .int .u8 49, .int .u8 50, .int .u8 51, .int .u8 52, .int .u8 53, .int .u8 54, .int .u8 55, .int .u8 120, .int .u8 103, .int .u8 76, .int .u8 75, .int .u8 83, .int .u8 122] 5)) W → Below w.heap.size w W ∧ HB W w.heap.size {} (.slice none 0 0) ∧ W.cell? ⟨w.heap.size + 1, j, none⟩ = some (.int .u8 kk) := by
    intro W hW
    have e1 : (w.alloc (.cells (hcells {} (.slice none 0 0)) 34)).heap.size = w.heap.size + 1 := by simp
    refine ⟨(((Below.refl _ _).alloc (Nat.le_refl _) _).alloc (by simp) _).trans (hW.mono (by omega)), HB.below ((HB.new w {} (.slice none 0 0)).alloc _) hW (by omega), ?_⟩
    rw [hW.cell (p := ⟨w.heap.size + 1, j, none⟩) (by simp), ← e1, cell_of_row _ _ j _ _ _ (heap_alloc_new _ _)]
    exact HKJ.out
  have hsz : ((w.alloc (.cells (hcells {} (.slice none 0 0)) 34)).alloc (.cells #[.int .u8 48, .int .u8 49, .int .u8 50, .int .u8 51, .int .u8 52, .int .u8 53, .int .u8 54, .int .u8 55, .int .u8 120, .int .u8 103, .int .u8 76, .int .u8 75, .int .u8 83, .int .u8 122] 5)).heap.size = w.heap.size + 2 := by simp
  have HZ := hid hz1
  have HSZ := hid hsz
  clear hz1 hsz
  change Code.wp _ _ _ _ ((w.alloc (.cells (hcells {} (.slice none 0 0)) 34)).alloc _)
  generalize ((w.alloc (.cells (hcells {} (.slice none 0 0)) 34)).alloc (.cells #[.int .u8 48, .int .u8 49, .int .u8 50, .int .u8 51, .int .u8 52, .int .u8 53, .int .u8 54, .int .u8 55, .int .u8 120, .int .u8 103, .int .u8 76, .int .u8 75, .int .u8 83, .int .u8 122] 5)) = w1 at *
  have HLE := hid (fun (W : World) (hW : Below (w.heap.size + 2) w1 W) => (show w.heap.size + 2 ≤ W.heap.size from HSZ.out ▸ hW.size))
  have HS := hid (fun (W : World) (hW : Below (w.heap.size + 2) w1 W) => (HZ.out W hW).1)
  have HKc := hid (fun (W : World) (hW : Below (w.heap.size + 2) w1 W) => (HZ.out W hW).2.2)
  refine wp_region_held_drew (S := fun W => Below (w.heap.size + 2) w1 W) (by kernel_rfl) (below_drewN' (Below.refl _ _) 1) (fun hS => ?_)
  refine two_rows (N := 32) (fun g W => HB W g {} (.slice none 0 0) ∧ w.heap.size + 2 ≤ g) (fun k o => (if o.isSome then 33 else 34) - k) (fun k o => #[decide (0 < k), decide (10 < k), decide (11 < k), decide (1 < k), decide (12 < k), decide (13 < k), decide (2 < k), decide (14 < k), decide (15 < k), decide (3 < k), decide (16 < k), decide (17 < k), decide (4 < k), decide (18 < k), decide (19 < k), decide (5 < k), decide (20 < k), decide (21 < k), decide (6 < k), decide (7 < k), decide (22 < k), decide (23 < k), decide (24 < k), decide (25 < k), decide (8 < k), decide (26 < k), decide (27 < k), decide (9 < k), decide (28 < k), decide (29 < k), decide (30 < k), decide (31 < k), o.isSome, false]) (fun k o => { tmps := #[.slice A n c, undef, .pointer (some ⟨w.heap.size, 0, none⟩), .slice (some ⟨w.heap.size + 1, 0, none⟩) 14 14, pvo o, undef, .slice (some ⟨w.heap.size + 1, 0, none⟩) 14 14, (pick k 0 (.slice A n c)), (pick k 10 (.int .u8 x0)), (pick k 11 (.string s0)), (pick k 1 (.slice A n c)), (pick k 12 (.int .u8 x1)), (pick k 13 (.int .i64 y1)), (pick k 2 (.slice A n c)), (pick k 14 (.int .u8 x2)), (pick k 15 (.int .i64 y2)), (pick k 3 (.slice A n c)), (pick k 16 (.int .u8 x3)), (pick k 17 (.int .i64 y3)), (pick k 4 (.slice A n c)), (pick k 18 (.int .u8 x4)), (pick k 19 (.int .i64 y4)), (pick k 5 (.slice A n c)), (pick k 20 (.int .u8 x5)), (pick k 21 (.int .i64 y5)), (pick k 6 (.slice (some ⟨w.heap.size + 1, 0, none⟩) 14 14)), (pick k 7 (.slice A n c)), (pick k 22 (.int .u8 x6)), (pick k 23 (.int .u8 j)), (pick k 24 (.pointer (some ⟨w.heap.size + 1, j, none⟩))), (pick k 25 (.int .u8 kk)), (pick k 8 (.slice A n c)), (pick k 26 (.int .u8 x7)), (pick k 27 (.string s7)), (pick k 9 (.slice A n c)), (pick k 28 (.int .u8 x8)), (pick k 29 (.int .u8 m8)), (pick k 30 (.int .i64 m8)), (pick k 31 (.agg #[.string s0, .int .i64 y1, .int .i64 y2, .int .i64 y3, .int .i64 y4, .int .i64 y5, .int .u8 kk, .string s7, .int .i64 m8, .string ⟨#[]⟩, .string ⟨#[]⟩, .int .i64 0, .int .i64 0, .string ⟨#[]⟩, .slice none 0 0, .bool false, .int .i64 0])), undef, undef, undef, undef, undef, undef, undef, undef, undef, undef, undef, undef, undef, undef, undef, undef, undef, undef, undef, undef, undef, undef, undef, undef, undef, undef, undef, undef, undef, undef, undef, undef, undef, undef, undef, undef, undef, undef, undef, undef, undef, undef, undef, undef, undef, undef, undef, undef, undef, undef, undef, undef, undef, undef, undef, undef, undef, undef, undef, undef, undef, undef, undef, undef, undef, undef, undef, undef, undef, undef, undef, undef, undef, undef, undef, undef], defers := [] }) ?hend ?hnone ?hstep ?hR _ hS
  case hR => exact fun g w w' h hb => ⟨HB.below h.1 hb (HB.lt h.1), h.2⟩
  case hstep =>
    intro k hk
    have : k = 0 ∨ k = 1 ∨ k = 2 ∨ k = 3 ∨ k = 4 ∨ k = 5 ∨ k = 6 ∨ k = 7 ∨ k = 8 ∨ k = 9 ∨ k = 10 ∨ k = 11 ∨ k = 12 ∨ k = 13 ∨ k = 14 ∨ k = 15 ∨ k = 16 ∨ k = 17 ∨ k = 18 ∨ k = 19 ∨ k = 20 ∨ k = 21 ∨ k = 22 ∨ k = 23 ∨ k = 24 ∨ k = 25 ∨ k = 26 ∨ k = 27 ∨ k = 28 ∨ k = 29 ∨ k = 30 ∨ k = 31 := by omega
    rcases this with rfl | rfl | rfl | rfl | rfl | rfl | rfl | rfl | rfl | rfl | rfl | rfl | rfl | rfl | rfl | rfl | rfl | rfl | rfl | rfl | rfl | rfl | rfl | rfl | rfl | rfl | rfl | rfl | rfl | rfl | rfl | rfl
    · intro o w2 hS hR hnext hall
      cases o with
      | none =>
        show wpAnyH _ _ _ _ _ 34 #[false, false, false, false, false, false, false, false, false, false, false, false, false, false, false, false, false, false, false, false, false, false, false, false, false, false, false, false, false, false, false, false, false, false] { tmps := #[.slice A n c, undef, .pointer (some ⟨w.heap.size, 0, none⟩), .slice (some ⟨w.heap.size + 1, 0, none⟩) 14 14, undef, undef, .slice (some ⟨w.heap.size + 1, 0, none⟩) 14 14, undef, undef, undef, undef, undef, undef, undef, undef, undef, undef, undef, undef, undef, undef, undef, undef, undef, undef, undef, undef, undef, undef, undef, undef, undef, undef, undef, undef, undef, undef, undef, undef, undef, undef, undef, undef, undef, undef, undef, undef, undef, undef, undef, undef, undef, undef, undef, undef, undef, undef, undef, undef, undef, undef, undef, undef, undef, undef, undef, undef, undef, undef, undef, undef, undef, undef, undef, undef, undef, undef, undef, undef, undef, undef, undef, undef, undef, undef, undef, undef, undef, undef, undef, undef, undef, undef, undef, undef, undef, undef, undef, undef, undef, undef, undef, undef, undef, undef, undef, undef, undef, undef, undef, undef, undef, undef, undef, undef], defers := [] } _
        refine takeH (i := 0) (v := .slice A n c) 7 rfl rfl (by kernel_rfl) (by kernel_rfl) (by kernel_rfl) (fun _ _ _ h => h) (by rfl) ?hy0n hS ?rest0n
        case hy0n => (intro W hW; clear hW; go_simp; first | done | with_reducible rfl)
        case rest0n => (try simp only [Act.put, List.setIfInBounds_toArray, List.set_cons_zero, List.set_cons_succ]; exact hnext.out _ hS (Below.refl _ _))
      | some g =>
        show wpAnyH _ _ _ _ _ 33 #[false, false, false, false, false, false, false, false, false, false, false, false, false, false, false, false, false, false, false, false, false, false, false, false, false, false, false, false, false, false, false, false, true, false] { tmps := #[.slice A n c, undef, .pointer (some ⟨w.heap.size, 0, none⟩), .slice (some ⟨w.heap.size + 1, 0, none⟩) 14 14, .pointer (some ⟨g, 0, none⟩), undef, .slice (some ⟨w.heap.size + 1, 0, none⟩) 14 14, undef, undef, undef, undef, undef, undef, undef, undef, undef, undef, undef, undef, undef, undef, undef, undef, undef, undef, undef, undef, undef, undef, undef, undef, undef, undef, undef, undef, undef, undef, undef, undef, undef, undef, undef, undef, undef, undef, undef, undef, undef, undef, undef, undef, undef, undef, undef, undef, undef, undef, undef, undef, undef, undef, undef, undef, undef, undef, undef, undef, undef, undef, undef, undef, undef, undef, undef, undef, undef, undef, undef, undef, undef, undef, undef, undef, undef, undef, undef, undef, undef, undef, undef, undef, undef, undef, undef, undef, undef, undef, undef, undef, undef, undef, undef, undef, undef, undef, undef, undef, undef, undef, undef, undef, undef, undef, undef, undef], defers := [] } _
        refine takeH (i := 0) (v := .slice A n c) 7 rfl rfl (by kernel_rfl) (by kernel_rfl) (by kernel_rfl) (fun _ _ _ h => h) (by rfl) ?hy0s hS ?rest0s
        case hy0s => (intro W hW; clear hW; go_simp; first | done | with_reducible rfl)
        case rest0s => (try simp only [Act.put, List.setIfInBounds_toArray, List.set_cons_zero, List.set_cons_succ]; exact hnext.out _ hS (Below.refl _ _))
    · intro o w2 hS hR hnext hall
      cases o with
      | none =>
        show wpAnyH _ _ _ _ _ 33 #[true, false, false, false, false, false, false, false, false, false, false, false, false, false, false, false, false, false, false, false, false, false, false, false, false, false, false, false, false, false, false, false, false, false] { tmps := #[.slice A n c, undef, .pointer (some ⟨w.heap.size, 0, none⟩), .slice (some ⟨w.heap.size + 1, 0, none⟩) 14 14, undef, undef, .slice (some ⟨w.heap.size + 1, 0, none⟩) 14 14, (.slice A n c), undef, undef, undef, undef, undef, undef, undef, undef, undef, undef, undef, undef, undef, undef, undef, undef, undef, undef, undef, undef, undef, undef, undef, undef, undef, undef, undef, undef, undef, undef, undef, undef, undef, undef, undef, undef, undef, undef, undef, undef, undef, undef, undef, undef, undef, undef, undef, undef, undef, undef, undef, undef, undef, undef, undef, undef, undef, undef, undef, undef, undef, undef, undef, undef, undef, undef, undef, undef, undef, undef, undef, undef, undef, undef, undef, undef, undef, undef, undef, undef, undef, undef, undef, undef, undef, undef, undef, undef, undef, undef, undef, undef, undef, undef, undef, undef, undef, undef, undef, undef, undef, undef, undef, undef, undef, undef, undef], defers := [] } _
        refine takeH (i := 3) (v := .slice A n c) 10 rfl rfl (by kernel_rfl) (by kernel_rfl) (by kernel_rfl) (fun _ _ _ h => h) (by rfl) ?hy1n hS ?rest1n
        case hy1n => (intro W hW; clear hW; go_simp; first | done | with_reducible rfl)
        case rest1n => (try simp only [Act.put, List.setIfInBounds_toArray, List.set_cons_zero, List.set_cons_succ]; exact hnext.out _ hS (Below.refl _ _))
      | some g =>
        show wpAnyH _ _ _ _ _ 32 #[true, false, false, false, false, false, false, false, false, false, false, false, false, false, false, false, false, false, false, false, false, false, false, false, false, false, false, false, false, false, false, false, true, false] { tmps := #[.slice A n c, undef, .pointer (some ⟨w.heap.size, 0, none⟩), .slice (some ⟨w.heap.size + 1, 0, none⟩) 14 14, .pointer (some ⟨g, 0, none⟩), undef, .slice (some ⟨w.heap.size + 1, 0, none⟩) 14 14, (.slice A n c), undef, undef, undef, undef, undef, undef, undef, undef, undef, undef, undef, undef, undef, undef, undef, undef, undef, undef, undef, undef, undef, undef, undef, undef, undef, undef, undef, undef, undef, undef, undef, undef, undef, undef, undef, undef, undef, undef, undef, undef, undef, undef, undef, undef, undef, undef, undef, undef, undef, undef, undef, undef, undef, undef, undef, undef, undef, undef, undef, undef, undef, undef, undef, undef, undef, undef, undef, undef, undef, undef, undef, undef, undef, undef, undef, undef, undef, undef, undef, undef, undef, undef, undef, undef, undef, undef, undef, undef, undef, undef, undef, undef, undef, undef, undef, undef, undef, undef, undef, undef, undef, undef, undef, undef, undef, undef, undef], defers := [] } _
        refine takeH (i := 3) (v := .slice A n c) 10 rfl rfl (by kernel_rfl) (by kernel_rfl) (by kernel_rfl) (fun _ _ _ h => h) (by rfl) ?hy1s hS ?rest1s
        case hy1s => (intro W hW; clear hW; go_simp; first | done | with_reducible rfl)
        case rest1s => (try simp only [Act.put, List.setIfInBounds_toArray, List.set_cons_zero, List.set_cons_succ]; exact hnext.out _ hS (Below.refl _ _))
    · intro o w2 hS hR hnext hall
      cases o with
      | none =>
        show wpAnyH _ _ _ _ _ 32 #[true, false, false, true, false, false, false, false, false, false, false, false, false, false, false, false, false, false, false, false, false, false, false, false, false, false, false, false, false, false, false, false, false, false] { tmps := #[.slice A n c, undef, .pointer (some ⟨w.heap.size, 0, none⟩), .slice (some ⟨w.heap.size + 1, 0, none⟩) 14 14, undef, undef, .slice (some ⟨w.heap.size + 1, 0, none⟩) 14 14, (.slice A n c), undef, undef, (.slice A n c), undef, undef, undef, undef, undef, undef, undef, undef, undef, undef, undef, undef, undef, undef, undef, undef, undef, undef, undef, undef, undef, undef, undef, undef, undef, undef, undef, undef, undef, undef, undef, undef, undef, undef, undef, undef, undef, undef, undef, undef, undef, undef, undef, undef, undef, undef, undef, undef, undef, undef, undef, undef, undef, undef, undef, undef, undef, undef, undef, undef, undef, undef, undef, undef, undef, undef, undef, undef, undef, undef, undef, undef, undef, undef, undef, undef, undef, undef, undef, undef, undef, undef, undef, undef, undef, undef, undef, undef, undef, undef, undef, undef, undef, undef, undef, undef, undef, undef, undef, undef, undef, undef, undef, undef], defers := [] } _
        refine takeH (i := 6) (v := .slice A n c) 13 rfl rfl (by kernel_rfl) (by kernel_rfl) (by kernel_rfl) (fun _ _ _ h => h) (by rfl) ?hy2n hS ?rest2n
        case hy2n => (intro W hW; clear hW; go_simp; first | done | with_reducible rfl)
        case rest2n => (try simp only [Act.put, List.setIfInBounds_toArray, List.set_cons_zero, List.set_cons_succ]; exact hnext.out _ hS (Below.refl _ _))
      | some g =>
        show wpAnyH _ _ _ _ _ 31 #[true, false, false, true, false, false, false, false, false, false, false, false, false, false, false, false, false, false, false, false, false, false, false, false, false, false, false, false, false, false, false, false, true, false] { tmps := #[.slice A n c, undef, .pointer (some ⟨w.heap.size, 0, none⟩), .slice (some ⟨w.heap.size + 1, 0, none⟩) 14 14, .pointer (some ⟨g, 0, none⟩), undef, .slice (some ⟨w.heap.size + 1, 0, none⟩) 14 14, (.slice A n c), undef, undef, (.slice A n c), undef, undef, undef, undef, undef, undef, undef, undef, undef, undef, undef, undef, undef, undef, undef, undef, undef, undef, undef, undef, undef, undef, undef, undef, undef, undef, undef, undef, undef, undef, undef, undef, undef, undef, undef, undef, undef, undef, undef, undef, undef, undef, undef, undef, undef, undef, undef, undef, undef, undef, undef, undef, undef, undef, undef, undef, undef, undef, undef, undef, undef, undef, undef, undef, undef, undef, undef, undef, undef, undef, undef, undef, undef, undef, undef, undef, undef, undef, undef, undef, undef, undef, undef, undef, undef, undef, undef, undef, undef, undef, undef, undef, undef, undef, undef, undef, undef, undef, undef, undef, undef, undef, undef, undef], defers := [] } _
        refine takeH (i := 6) (v := .slice A n c) 13 rfl rfl (by kernel_rfl) (by kernel_rfl) (by kernel_rfl) (fun _ _ _ h => h) (by rfl) ?hy2s hS ?rest2s
        case hy2s => (intro W hW; clear hW; go_simp; first | done | with_reducible rfl)
        case rest2s => (try simp only [Act.put, List.setIfInBounds_toArray, List.set_cons_zero, List.set_cons_succ]; exact hnext.out _ hS (Below.refl _ _))
    · intro o w2 hS hR hnext hall
      cases o with
      | none =>
        show wpAnyH _ _ _ _ _ 31 #[true, false, false, true, false, false, true, false, false, false, false, false, false, false, false, false, false, false, false, false, false, false, false, false, false, false, false, false, false, false, false, false, false, false] { tmps := #[.slice A n c, undef, .pointer (some ⟨w.heap.size, 0, none⟩), .slice (some ⟨w.heap.size + 1, 0, none⟩) 14 14, undef, undef, .slice (some ⟨w.heap.size + 1, 0, none⟩) 14 14, (.slice A n c), undef, undef, (.slice A n c), undef, undef, (.slice A n c), undef, undef, undef, undef, undef, undef, undef, undef, undef, undef, undef, undef, undef, undef, undef, undef, undef, undef, undef, undef, undef, undef, undef, undef, undef, undef, undef, undef, undef, undef, undef, undef, undef, undef, undef, undef, undef, undef, undef, undef, undef, undef, undef, undef, undef, undef, undef, undef, undef, undef, undef, undef, undef, undef, undef, undef, undef, undef, undef, undef, undef, undef, undef, undef, undef, undef, undef, undef, undef, undef, undef, undef, undef, undef, undef, undef, undef, undef, undef, undef, undef, undef, undef, undef, undef, undef, undef, undef, undef, undef, undef, undef, undef, undef, undef, undef, undef, undef, undef, undef, undef], defers := [] } _
        refine takeH (i := 9) (v := .slice A n c) 16 rfl rfl (by kernel_rfl) (by kernel_rfl) (by kernel_rfl) (fun _ _ _ h => h) (by rfl) ?hy3n hS ?rest3n
        case hy3n => (intro W hW; clear hW; go_simp; first | done | with_reducible rfl)
        case rest3n => (try simp only [Act.put, List.setIfInBounds_toArray, List.set_cons_zero, List.set_cons_succ]; exact hnext.out _ hS (Below.refl _ _))
      | some g =>
        show wpAnyH _ _ _ _ _ 30 #[true, false, false, true, false, false, true, false, false, false, false, false, false, false, false, false, false, false, false, false, false, false, false, false, false, false, false, false, false, false, false, false, true, false] { tmps := #[.slice A n c, undef, .pointer (some ⟨w.heap.size, 0, none⟩), .slice (some ⟨w.heap.size + 1, 0, none⟩) 14 14, .pointer (some ⟨g, 0, none⟩), undef, .slice (some ⟨w.heap.size + 1, 0, none⟩) 14 14, (.slice A n c), undef, undef, (.slice A n c), undef, undef, (.slice A n c), undef, undef, undef, undef, undef, undef, undef, undef, undef, undef, undef, undef, undef, undef, undef, undef, undef, undef, undef, undef, undef, undef, undef, undef, undef, undef, undef, undef, undef, undef, undef, undef, undef, undef, undef, undef, undef, undef, undef, undef, undef, undef, undef, undef, undef, undef, undef, undef, undef, undef, undef, undef, undef, undef, undef, undef, undef, undef, undef, undef, undef, undef, undef, undef, undef, undef, undef, undef, undef, undef, undef, undef, undef, undef, undef, undef, undef, undef, undef, undef, undef, undef, undef, undef, undef, undef, undef, undef, undef, undef, undef, undef, undef, undef, undef, undef, undef, undef, undef, undef, undef], defers := [] } _
        refine takeH (i := 9) (v := .slice A n c) 16 rfl rfl (by kernel_rfl) (by kernel_rfl) (by kernel_rfl) (fun _ _ _ h => h) (by rfl) ?hy3s hS ?rest3s
        case hy3s => (intro W hW; clear hW; go_simp; first | done | with_reducible rfl)
        case rest3s => (try simp only [Act.put, List.setIfInBounds_toArray, List.set_cons_zero, List.set_cons_succ]; exact hnext.out _ hS (Below.refl _ _))
    · intro o w2 hS hR hnext hall
      cases o with
      | none =>
        show wpAnyH _ _ _ _ _ 30 #[true, false, false, true, false, false, true, false, false, true, false, false, false, false, false, false, false, false, false, false, false, false, false, false, false, false, false, false, false, false, false, false, false, false] { tmps := #[.slice A n c, undef, .pointer (some ⟨w.heap.size, 0, none⟩), .slice (some ⟨w.heap.size + 1, 0, none⟩) 14 14, undef, undef, .slice (some ⟨w.heap.size + 1, 0, none⟩) 14 14, (.slice A n c), undef, undef, (.slice A n c), undef, undef, (.slice A n c), undef, undef, (.slice A n c), undef, undef, undef, undef, undef, undef, undef, undef, undef, undef, undef, undef, undef, undef, undef, undef, undef, undef, undef, undef, undef, undef, undef, undef, undef, undef, undef, undef, undef, undef, undef, undef, undef, undef, undef, undef, undef, undef, undef, undef, undef, undef, undef, undef, undef, undef, undef, undef, undef, undef, undef, undef, undef, undef, undef, undef, undef, undef, undef, undef, undef, undef, undef, undef, undef, undef, undef, undef, undef, undef, undef, undef, undef, undef, undef, undef, undef, undef, undef, undef, undef, undef, undef, undef, undef, undef, undef, undef, undef, undef, undef, undef, undef, undef, undef, undef, undef, undef], defers := [] } _
        refine takeH (i := 12) (v := .slice A n c) 19 rfl rfl (by kernel_rfl) (by kernel_rfl) (by kernel_rfl) (fun _ _ _ h => h) (by rfl) ?hy4n hS ?rest4n
        case hy4n => (intro W hW; clear hW; go_simp; first | done | with_reducible rfl)
        case rest4n => (try simp only [Act.put, List.setIfInBounds_toArray, List.set_cons_zero, List.set_cons_succ]; exact hnext.out _ hS (Below.refl _ _))
      | some g =>
        show wpAnyH _ _ _ _ _ 29 #[true, false, false, true, false, false, true, false, false, true, false, false, false, false, false, false, false, false, false, false, false, false, false, false, false, false, false, false, false, false, false, false, true, false] { tmps := #[.slice A n c, undef, .pointer (some ⟨w.heap.size, 0, none⟩), .slice (some ⟨w.heap.size + 1, 0, none⟩) 14 14, .pointer (some ⟨g, 0, none⟩), undef, .slice (some ⟨w.heap.size + 1, 0, none⟩) 14 14, (.slice A n c), undef, undef, (.slice A n c), undef, undef, (.slice A n c), undef, undef, (.slice A n c), undef, undef, undef, undef, undef, undef, undef, undef, undef, undef, undef, undef, undef, undef, undef, undef, undef, undef, undef, undef, undef, undef, undef, undef, undef, undef, undef, undef, undef, undef, undef, undef, undef, undef, undef, undef, undef, undef, undef, undef, undef, undef, undef, undef, undef, undef, undef, undef, undef, undef, undef, undef, undef, undef, undef, undef, undef, undef, undef, undef, undef, undef, undef, undef, undef, undef, undef, undef, undef, undef, undef, undef, undef, undef, undef, undef, undef, undef, undef, undef, undef, undef, undef, undef, undef, undef, undef, undef, undef, undef, undef, undef, undef, undef, undef, undef, undef, undef], defers := [] } _
        refine takeH (i := 12) (v := .slice A n c) 19 rfl rfl (by kernel_rfl) (by kernel_rfl) (by kernel_rfl) (fun _ _ _ h => h) (by rfl) ?hy4s hS ?rest4s
        case hy4s => (intro W hW; clear hW; go_simp; first | done | with_reducible rfl)
        case rest4s => (try simp only [Act.put, List.setIfInBounds_toArray, List.set_cons_zero, List.set_cons_succ]; exact hnext.out _ hS (Below.refl _ _))
    · intro o w2 hS hR hnext hall
      cases o with
      | none =>
        show wpAnyH _ _ _ _ _ 29 #[true, false, false, true, false, false, true, false, false, true, false, false, true, false, false, false, false, false, false, false, false, false, false, false, false, false, false, false, false, false, false, false, false, false] { tmps := #[.slice A n c, undef, .pointer (some ⟨w.heap.size, 0, none⟩), .slice (some ⟨w.heap.size + 1, 0, none⟩) 14 14, undef, undef, .slice (some ⟨w.heap.size + 1, 0, none⟩) 14 14, (.slice A n c), undef, undef, (.slice A n c), undef, undef, (.slice A n c), undef, undef, (.slice A n c), undef, undef, (.slice A n c), undef, undef, undef, undef, undef, undef, undef, undef, undef, undef, undef, undef, undef, undef, undef, undef, undef, undef, undef, undef, undef, undef, undef, undef, undef, undef, undef, undef, undef, undef, undef, undef, undef, undef, undef, undef, undef, undef, undef, undef, undef, undef, undef, undef, undef, undef, undef, undef, undef, undef, undef, undef, undef, undef, undef, undef, undef, undef, undef, undef, undef, undef, undef, undef, undef, undef, undef, undef, undef, undef, undef, undef, undef, undef, undef, undef, undef, undef, undef, undef, undef, undef, undef, undef, undef, undef, undef, undef, undef, undef, undef, undef, undef, undef, undef], defers := [] } _
        refine takeH (i := 15) (v := .slice A n c) 22 rfl rfl (by kernel_rfl) (by kernel_rfl) (by kernel_rfl) (fun _ _ _ h => h) (by rfl) ?hy5n hS ?rest5n
        case hy5n => (intro W hW; clear hW; go_simp; first | done | with_reducible rfl)
        case rest5n => (try simp only [Act.put, List.setIfInBounds_toArray, List.set_cons_zero, List.set_cons_succ]; exact hnext.out _ hS (Below.refl _ _))
      | some g =>
        show wpAnyH _ _ _ _ _ 28 #[true, false, false, true, false, false, true, false, false, true, false, false, true, false, false, false, false, false, false, false, false, false, false, false, false, false, false, false, false, false, false, false, true, false] { tmps := #[.slice A n c, undef, .pointer (some ⟨w.heap.size, 0, none⟩), .slice (some ⟨w.heap.size + 1, 0, none⟩) 14 14, .pointer (some ⟨g, 0, none⟩), undef, .slice (some ⟨w.heap.size + 1, 0, none⟩) 14 14, (.slice A n c), undef, undef, (.slice A n c), undef, undef, (.slice A n c), undef, undef, (.slice A n c), undef, undef, (.slice A n c), undef, undef, undef, undef, undef, undef, undef, undef, undef, undef, undef, undef, undef, undef, undef, undef, undef, undef, undef, undef, undef, undef, undef, undef, undef, undef, undef, undef, undef, undef, undef, undef, undef, undef, undef, undef, undef, undef, undef, undef, undef, undef, undef, undef, undef, undef, undef, undef, undef, undef, undef, undef, undef, undef, undef, undef, undef, undef, undef, undef, undef, undef, undef, undef, undef, undef, undef, undef, undef, undef, undef, undef, undef, undef, undef, undef, undef, undef, undef, undef, undef, undef, undef, undef, undef, undef, undef, undef, undef, undef, undef, undef, undef, undef, undef], defers := [] } _
        refine takeH (i := 15) (v := .slice A n c) 22 rfl rfl (by kernel_rfl) (by kernel_rfl) (by kernel_rfl) (fun _ _ _ h => h) (by rfl) ?hy5s hS ?rest5s
        case hy5s => (intro W hW; clear hW; go_simp; first | done | with_reducible rfl)
        case rest5s => (try simp only [Act.put, List.setIfInBounds_toArray, List.set_cons_zero, List.set_cons_succ]; exact hnext.out _ hS (Below.refl _ _))
    · intro o w2 hS hR hnext hall
      cases o with
      | none =>
        show wpAnyH _ _ _ _ _ 28 #[true, false, false, true, false, false, true, false, false, true, false, false, true, false, false, true, false, false, false, false, false, false, false, false, false, false, false, false, false, false, false, false, false, false] { tmps := #[.slice A n c, undef, .pointer (some ⟨w.heap.size, 0, none⟩), .slice (some ⟨w.heap.size + 1, 0, none⟩) 14 14, undef, undef, .slice (some ⟨w.heap.size + 1, 0, none⟩) 14 14, (.slice A n c), undef, undef, (.slice A n c), undef, undef, (.slice A n c), undef, undef, (.slice A n c), undef, undef, (.slice A n c), undef, undef, (.slice A n c), undef, undef, undef, undef, undef, undef, undef, undef, undef, undef, undef, undef, undef, undef, undef, undef, undef, undef, undef, undef, undef, undef, undef, undef, undef, undef, undef, undef, undef, undef, undef, undef, undef, undef, undef, undef, undef, undef, undef, undef, undef, undef, undef, undef, undef, undef, undef, undef, undef, undef, undef, undef, undef, undef, undef, undef, undef, undef, undef, undef, undef, undef, undef, undef, undef, undef, undef, undef, undef, undef, undef, undef, undef, undef, undef, undef, undef, undef, undef, undef, undef, undef, undef, undef, undef, undef, undef, undef, undef, undef, undef, undef], defers := [] } _
        refine takeH (i := 18) (v := .slice (some ⟨w.heap.size + 1, 0, none⟩) 14 14) 25 rfl rfl (by kernel_rfl) (by kernel_rfl) (by kernel_rfl) (fun _ _ _ h => h) (by rfl) ?hy6n hS ?rest6n
        case hy6n => (intro W hW; clear hW; go_simp; first | done | with_reducible rfl)
        case rest6n => (try simp only [Act.put, List.setIfInBounds_toArray, List.set_cons_zero, List.set_cons_succ]; exact hnext.out _ hS (Below.refl _ _))
      | some g =>
        show wpAnyH _ _ _ _ _ 27 #[true, false, false, true, false, false, true, false, false, true, false, false, true, false, false, true, false, false, false, false, false, false, false, false, false, false, false, false, false, false, false, false, true, false] { tmps := #[.slice A n c, undef, .pointer (some ⟨w.heap.size, 0, none⟩), .slice (some ⟨w.heap.size + 1, 0, none⟩) 14 14, .pointer (some ⟨g, 0, none⟩), undef, .slice (some ⟨w.heap.size + 1, 0, none⟩) 14 14, (.slice A n c), undef, undef, (.slice A n c), undef, undef, (.slice A n c), undef, undef, (.slice A n c), undef, undef, (.slice A n c), undef, undef, (.slice A n c), undef, undef, undef, undef, undef, undef, undef, undef, undef, undef, undef, undef, undef, undef, undef, undef, undef, undef, undef, undef, undef, undef, undef, undef, undef, undef, undef, undef, undef, undef, undef, undef, undef, undef, undef, undef, undef, undef, undef, undef, undef, undef, undef, undef, undef, undef, undef, undef, undef, undef, undef, undef, undef, undef, undef, undef, undef, undef, undef, undef, undef, undef, undef, undef, undef, undef, undef, undef, undef, undef, undef, undef, undef, undef, undef, undef, undef, undef, undef, undef, undef, undef, undef, undef, undef, undef, undef, undef, undef, undef, undef, undef], defers := [] } _
        refine takeH (i := 18) (v := .slice (some ⟨w.heap.size + 1, 0, none⟩) 14 14) 25 rfl rfl (by kernel_rfl) (by kernel_rfl) (by kernel_rfl) (fun _ _ _ h => h) (by rfl) ?hy6s hS ?rest6s
        case hy6s => (intro W hW; clear hW; go_simp; first | done | with_reducible rfl)
        case rest6s => (try simp only [Act.put, List.setIfInBounds_toArray, List.set_cons_zero, List.set_cons_succ]; exact hnext.out _ hS (Below.refl _ _))
    · intro o w2 hS hR hnext hall
      cases o with
      | none =>
        show wpAnyH _ _ _ _ _ 27 #[true, false, false, true, false, false, true, false, false, true, false, false, true, false, false, true, false, false, true, false, false, false, false, false, false, false, false, false, false, false, false, false, false, false] { tmps := #[.slice A n c, undef, .pointer (some ⟨w.heap.size, 0, none⟩), .slice (some ⟨w.heap.size + 1, 0, none⟩) 14 14, undef, undef, .slice (some ⟨w.heap.size + 1, 0, none⟩) 14 14, (.slice A n c), undef, undef, (.slice A n c), undef, undef, (.slice A n c), undef, undef, (.slice A n c), undef, undef, (.slice A n c), undef, undef, (.slice A n c), undef, undef, (.slice (some ⟨w.heap.size + 1, 0, none⟩) 14 14), undef, undef, undef, undef, undef, undef, undef, undef, undef, undef, undef, undef, undef, undef, undef, undef, undef, undef, undef, undef, undef, undef, undef, undef, undef, undef, undef, undef, undef, undef, undef, undef, undef, undef, undef, undef, undef, undef, undef, undef, undef, undef, undef, undef, undef, undef, undef, undef, undef, undef, undef, undef, undef, undef, undef, undef, undef, undef, undef, undef, undef, undef, undef, undef, undef, undef, undef, undef, undef, undef, undef, undef, undef, undef, undef, undef, undef, undef, undef, undef, undef, undef, undef, undef, undef, undef, undef, undef, undef], defers := [] } _
        refine takeH (i := 19) (v := .slice A n c) 26 rfl rfl (by kernel_rfl) (by kernel_rfl) (by kernel_rfl) (fun _ _ _ h => h) (by rfl) ?hy7n hS ?rest7n
        case hy7n => (intro W hW; clear hW; go_simp; first | done | with_reducible rfl)
        case rest7n => (try simp only [Act.put, List.setIfInBounds_toArray, List.set_cons_zero, List.set_cons_succ]; exact hnext.out _ hS (Below.refl _ _))
      | some g =>
        show wpAnyH _ _ _ _ _ 26 #[true, false, false, true, false, false, true, false, false, true, false, false, true, false, false, true, false, false, true, false, false, false, false, false, false, false, false, false, false, false, false, false, true, false] { tmps := #[.slice A n c, undef, .pointer (some ⟨w.heap.size, 0, none⟩), .slice (some ⟨w.heap.size + 1, 0, none⟩) 14 14, .pointer (some ⟨g, 0, none⟩), undef, .slice (some ⟨w.heap.size + 1, 0, none⟩) 14 14, (.slice A n c), undef, undef, (.slice A n c), undef, undef, (.slice A n c), undef, undef, (.slice A n c), undef, undef, (.slice A n c), undef, undef, (.slice A n c), undef, undef, (.slice (some ⟨w.heap.size + 1, 0, none⟩) 14 14), undef, undef, undef, undef, undef, undef, undef, undef, undef, undef, undef, undef, undef, undef, undef, undef, undef, undef, undef, undef, undef, undef, undef, undef, undef, undef, undef, undef, undef, undef, undef, undef, undef, undef, undef, undef, undef, undef, undef, undef, undef, undef, undef, undef, undef, undef, undef, undef, undef, undef, undef, undef, undef, undef, undef, undef, undef, undef, undef, undef, undef, undef, undef, undef, undef, undef, undef, undef, undef, undef, undef, undef, undef, undef, undef, undef, undef, undef, undef, undef, undef, undef, undef, undef, undef, undef, undef, undef, undef], defers := [] } _
        refine takeH (i := 19) (v := .slice A n c) 26 rfl rfl (by kernel_rfl) (by kernel_rfl) (by kernel_rfl) (fun _ _ _ h => h) (by rfl) ?hy7s hS ?rest7s
        case hy7s => (intro W hW; clear hW; go_simp; first | done | with_reducible rfl)
        case rest7s => (try simp only [Act.put, List.setIfInBounds_toArray, List.set_cons_zero, List.set_cons_succ]; exact hnext.out _ hS (Below.refl _ _))
    · intro o w2 hS hR hnext hall
      cases o with
      | none =>
        show wpAnyH _ _ _ _ _ 26 #[true, false, false, true, false, false, true, false, false, true, false, false, true, false, false, true, false, false, true, true, false, false, false, false, false, false, false, false, false, false, false, false, false, false] { tmps := #[.slice A n c, undef, .pointer (some ⟨w.heap.size, 0, none⟩), .slice (some ⟨w.heap.size + 1, 0, none⟩) 14 14, undef, undef, .slice (some ⟨w.heap.size + 1, 0, none⟩) 14 14, (.slice A n c), undef, undef, (.slice A n c), undef, undef, (.slice A n c), undef, undef, (.slice A n c), undef, undef, (.slice A n c), undef, undef, (.slice A n c), undef, undef, (.slice (some ⟨w.heap.size + 1, 0, none⟩) 14 14), (.slice A n c), undef, undef, undef, undef, undef, undef, undef, undef, undef, undef, undef, undef, undef, undef, undef, undef, undef, undef, undef, undef, undef, undef, undef, undef, undef, undef, undef, undef, undef, undef, undef, undef, undef, undef, undef, undef, undef, undef, undef, undef, undef, undef, undef, undef, undef, undef, undef, undef, undef, undef, undef, undef, undef, undef, undef, undef, undef, undef, undef, undef, undef, undef, undef, undef, undef, undef, undef, undef, undef, undef, undef, undef, undef, undef, undef, undef, undef, undef, undef, undef, undef, undef, undef, undef, undef, undef, undef, undef], defers := [] } _
        refine takeH (i := 24) (v := .slice A n c) 31 rfl rfl (by kernel_rfl) (by kernel_rfl) (by kernel_rfl) (fun _ _ _ h => h) (by rfl) ?hy8n hS ?rest8n
        case hy8n => (intro W hW; clear hW; go_simp; first | done | with_reducible rfl)
        case rest8n => (try simp only [Act.put, List.setIfInBounds_toArray, List.set_cons_zero, List.set_cons_succ]; exact hnext.out _ hS (Below.refl _ _))
      | some g =>
        show wpAnyH _ _ _ _ _ 25 #[true, false, false, true, false, false, true, false, false, true, false, false, true, false, false, true, false, false, true, true, false, false, false, false, false, false, false, false, false, false, false, false, true, false] { tmps := #[.slice A n c, undef, .pointer (some ⟨w.heap.size, 0, none⟩), .slice (some ⟨w.heap.size + 1, 0, none⟩) 14 14, .pointer (some ⟨g, 0, none⟩), undef, .slice (some ⟨w.heap.size + 1, 0, none⟩) 14 14, (.slice A n c), undef, undef, (.slice A n c), undef, undef, (.slice A n c), undef, undef, (.slice A n c), undef, undef, (.slice A n c), undef, undef, (.slice A n c), undef, undef, (.slice (some ⟨w.heap.size + 1, 0, none⟩) 14 14), (.slice A n c), undef, undef, undef, undef, undef, undef, undef, undef, undef, undef, undef, undef, undef, undef, undef, undef, undef, undef, undef, undef, undef, undef, undef, undef, undef, undef, undef, undef, undef, undef, undef, undef, undef, undef, undef, undef, undef, undef, undef, undef, undef, undef, undef, undef, undef, undef, undef, undef, undef, undef, undef, undef, undef, undef, undef, undef, undef, undef, undef, undef, undef, undef, undef, undef, undef, undef, undef, undef, undef, undef, undef, undef, undef, undef, undef, undef, undef, undef, undef, undef, undef, undef, undef, undef, undef, undef, undef, undef], defers := [] } _
        refine takeH (i := 24) (v := .slice A n c) 31 rfl rfl (by kernel_rfl) (by kernel_rfl) (by kernel_rfl) (fun _ _ _ h => h) (by rfl) ?hy8s hS ?rest8s
        case hy8s => (intro W hW; clear hW; go_simp; first | done | with_reducible rfl)
        case rest8s => (try simp only [Act.put, List.setIfInBounds_toArray, List.set_cons_zero, List.set_cons_succ]; exact hnext.out _ hS (Below.refl _ _))
    · intro o w2 hS hR hnext hall
      cases o with
      | none =>
        show wpAnyH _ _ _ _ _ 25 #[true, false, false, true, false, false, true, false, false, true, false, false, true, false, false, true, false, false, true, true, false, false, false, false, true, false, false, false, false, false, false, false, false, false] { tmps := #[.slice A n c, undef, .pointer (some ⟨w.heap.size, 0, none⟩), .slice (some ⟨w.heap.size + 1, 0, none⟩) 14 14, undef, undef, .slice (some ⟨w.heap.size + 1, 0, none⟩) 14 14, (.slice A n c), undef, undef, (.slice A n c), undef, undef, (.slice A n c), undef, undef, (.slice A n c), undef, undef, (.slice A n c), undef, undef, (.slice A n c), undef, undef, (.slice (some ⟨w.heap.size + 1, 0, none⟩) 14 14), (.slice A n c), undef, undef, undef, undef, (.slice A n c), undef, undef, undef, undef, undef, undef, undef, undef, undef, undef, undef, undef, undef, undef, undef, undef, undef, undef, undef, undef, undef, undef, undef, undef, undef, undef, undef, undef, undef, undef, undef, undef, undef, undef, undef, undef, undef, undef, undef, undef, undef, undef, undef, undef, undef, undef, undef, undef, undef, undef, undef, undef, undef, undef, undef, undef, undef, undef, undef, undef, undef, undef, undef, undef, undef, undef, undef, undef, undef, undef, undef, undef, undef, undef, undef, undef, undef, undef, undef, undef, undef, undef, undef], defers := [] } _
        refine takeH (i := 27) (v := .slice A n c) 34 rfl rfl (by kernel_rfl) (by kernel_rfl) (by kernel_rfl) (fun _ _ _ h => h) (by rfl) ?hy9n hS ?rest9n
        case hy9n => (intro W hW; clear hW; go_simp; first | done | with_reducible rfl)
        case rest9n => (try simp only [Act.put, List.setIfInBounds_toArray, List.set_cons_zero, List.set_cons_succ]; exact hnext.out _ hS (Below.refl _ _))
      | some g =>
        show wpAnyH _ _ _ _ _ 24 #[true, false, false, true, false, false, true, false, false, true, false, false, true, false, false, true, false, false, true, true, false, false, false, false, true, false, false, false, false, false, false, false, true, false] { tmps := #[.slice A n c, undef, .pointer (some ⟨w.heap.size, 0, none⟩), .slice (some ⟨w.heap.size + 1, 0, none⟩) 14 14, .pointer (some ⟨g, 0, none⟩), undef, .slice (some ⟨w.heap.size + 1, 0, none⟩) 14 14, (.slice A n c), undef, undef, (.slice A n c), undef, undef, (.slice A n c), undef, undef, (.slice A n c), undef, undef, (.slice A n c), undef, undef, (.slice A n c), undef, undef, (.slice (some ⟨w.heap.size + 1, 0, none⟩) 14 14), (.slice A n c), undef, undef, undef, undef, (.slice A n c), undef, undef, undef, undef, undef, undef, undef, undef, undef, undef, undef, undef, undef, undef, undef, undef, undef, undef, undef, undef, undef, undef, undef, undef, undef, undef, undef, undef, undef, undef, undef, undef, undef, undef, undef, undef, undef, undef, undef, undef, undef, undef, undef, undef, undef, undef, undef, undef, undef, undef, undef, undef, undef, undef, undef, undef, undef, undef, undef, undef, undef, undef, undef, undef, undef, undef, undef, undef, undef, undef, undef, undef, undef, undef, undef, undef, undef, undef, undef, undef, undef, undef, undef], defers := [] } _
        refine takeH (i := 27) (v := .slice A n c) 34 rfl rfl (by kernel_rfl) (by kernel_rfl) (by kernel_rfl) (fun _ _ _ h => h) (by rfl) ?hy9s hS ?rest9s
        case hy9s => (intro W hW; clear hW; go_simp; first | done | with_reducible rfl)
        case rest9s => (try simp only [Act.put, List.setIfInBounds_toArray, List.set_cons_zero, List.set_cons_succ]; exact hnext.out _ hS (Below.refl _ _))
    · intro o w2 hS hR hnext hall
      cases o with
      | none =>
        show wpAnyH _ _ _ _ _ 24 #[true, false, false, true, false, false, true, false, false, true, false, false, true, false, false, true, false, false, true, true, false, false, false, false, true, false, false, true, false, false, false, false, false, false] { tmps := #[.slice A n c, undef, .pointer (some ⟨w.heap.size, 0, none⟩), .slice (some ⟨w.heap.size + 1, 0, none⟩) 14 14, undef, undef, .slice (some ⟨w.heap.size + 1, 0, none⟩) 14 14, (.slice A n c), undef, undef, (.slice A n c), undef, undef, (.slice A n c), undef, undef, (.slice A n c), undef, undef, (.slice A n c), undef, undef, (.slice A n c), undef, undef, (.slice (some ⟨w.heap.size + 1, 0, none⟩) 14 14), (.slice A n c), undef, undef, undef, undef, (.slice A n c), undef, undef, (.slice A n c), undef, undef, undef, undef, undef, undef, undef, undef, undef, undef, undef, undef, undef, undef, undef, undef, undef, undef, undef, undef, undef, undef, undef, undef, undef, undef, undef, undef, undef, undef, undef, undef, undef, undef, undef, undef, undef, undef, undef, undef, undef, undef, undef, undef, undef, undef, undef, undef, undef, undef, undef, undef, undef, undef, undef, undef, undef, undef, undef, undef, undef, undef, undef, undef, undef, undef, undef, undef, undef, undef, undef, undef, undef, undef, undef, undef, undef, undef, undef, undef], defers := [] } _
        refine twoH (i := 1) (j := 32) 8 4 rfl rfl rfl rfl (by kernel_rfl) (by rfl) (by rfl) (fun K hK => ?_) (fun K hK => ?_)
        · go_simp
          (with_reducible refine (G0.out _ (HS.out _ hS)).mono ?_)
          rintro e w4 ⟨rfl, rfl⟩
          exact hK.out _ _ hS (fun hS => by try simp only [Act.put, List.setIfInBounds_toArray, List.set_cons_zero, List.set_cons_succ]; exact hnext.out _ hS (Below.refl _ _))
        · go_simp
          exact hK.out _ _ (hS.alloc (HLE.out _ hS) _) (fun hS' => by try simp only [Act.put, List.setIfInBounds_toArray, List.set_cons_zero, List.set_cons_succ]; exact hall.out rfl _ _ hS' ⟨HB.new _ {} (.slice none 0 0), HLE.out _ hS⟩)
      | some g =>
        show wpAnyH _ _ _ _ _ 23 #[true, false, false, true, false, false, true, false, false, true, false, false, true, false, false, true, false, false, true, true, false, false, false, false, true, false, false, true, false, false, false, false, true, false] { tmps := #[.slice A n c, undef, .pointer (some ⟨w.heap.size, 0, none⟩), .slice (some ⟨w.heap.size + 1, 0, none⟩) 14 14, .pointer (some ⟨g, 0, none⟩), undef, .slice (some ⟨w.heap.size + 1, 0, none⟩) 14 14, (.slice A n c), undef, undef, (.slice A n c), undef, undef, (.slice A n c), undef, undef, (.slice A n c), undef, undef, (.slice A n c), undef, undef, (.slice A n c), undef, undef, (.slice (some ⟨w.heap.size + 1, 0, none⟩) 14 14), (.slice A n c), undef, undef, undef, undef, (.slice A n c), undef, undef, (.slice A n c), undef, undef, undef, undef, undef, undef, undef, undef, undef, undef, undef, undef, undef, undef, undef, undef, undef, undef, undef, undef, undef, undef, undef, undef, undef, undef, undef, undef, undef, undef, undef, undef, undef, undef, undef, undef, undef, undef, undef, undef, undef, undef, undef, undef, undef, undef, undef, undef, undef, undef, undef, undef, undef, undef, undef, undef, undef, undef, undef, undef, undef, undef, undef, undef, undef, undef, undef, undef, undef, undef, undef, undef, undef, undef, undef, undef, undef, undef, undef, undef], defers := [] } _
        refine loneH (i := 1) 8 rfl rfl (by kernel_rfl) (by rfl) (fun K hK => ?_)
        go_simp
        (with_reducible refine (G0.out _ (HS.out _ hS)).mono ?_)
        rintro e w4 ⟨rfl, rfl⟩
        exact hK.out _ _ hS (fun hS => by try simp only [Act.put, List.setIfInBounds_toArray, List.set_cons_zero, List.set_cons_succ]; exact hnext.out _ hS (Below.refl _ _))
    · intro o w2 hS hR hnext hall
      cases o with
      | none =>
        show wpAnyH _ _ _ _ _ 23 #[true, true, false, true, false, false, true, false, false, true, false, false, true, false, false, true, false, false, true, true, false, false, false, false, true, false, false, true, false, false, false, false, false, false] { tmps := #[.slice A n c, undef, .pointer (some ⟨w.heap.size, 0, none⟩), .slice (some ⟨w.heap.size + 1, 0, none⟩) 14 14, undef, undef, .slice (some ⟨w.heap.size + 1, 0, none⟩) 14 14, (.slice A n c), (.int .u8 x0), undef, (.slice A n c), undef, undef, (.slice A n c), undef, undef, (.slice A n c), undef, undef, (.slice A n c), undef, undef, (.slice A n c), undef, undef, (.slice (some ⟨w.heap.size + 1, 0, none⟩) 14 14), (.slice A n c), undef, undef, undef, undef, (.slice A n c), undef, undef, (.slice A n c), undef, undef, undef, undef, undef, undef, undef, undef, undef, undef, undef, undef, undef, undef, undef, undef, undef, undef, undef, undef, undef, undef, undef, undef, undef, undef, undef, undef, undef, undef, undef, undef, undef, undef, undef, undef, undef, undef, undef, undef, undef, undef, undef, undef, undef, undef, undef, undef, undef, undef, undef, undef, undef, undef, undef, undef, undef, undef, undef, undef, undef, undef, undef, undef, undef, undef, undef, undef, undef, undef, undef, undef, undef, undef, undef, undef, undef, undef, undef, undef], defers := [] } _
        refine twoH (i := 2) (j := 32) 9 4 rfl rfl rfl rfl (by kernel_rfl) (by rfl) (by rfl) (fun K hK => ?_) (fun K hK => ?_)
        · go_simp
          (with_reducible refine (N0.out _).mono ?_)
          rintro e w4 ⟨rfl, b4⟩
          exact hK.out _ _ (hS.trans (b4.mono (HLE.out _ hS))) (fun hS => by try simp only [Act.put, List.setIfInBounds_toArray, List.set_cons_zero, List.set_cons_succ]; exact hnext.out _ hS b4)
        · go_simp
          exact hK.out _ _ (hS.alloc (HLE.out _ hS) _) (fun hS' => by try simp only [Act.put, List.setIfInBounds_toArray, List.set_cons_zero, List.set_cons_succ]; exact hall.out rfl _ _ hS' ⟨HB.new _ {} (.slice none 0 0), HLE.out _ hS⟩)
      | some g =>
        show wpAnyH _ _ _ _ _ 22 #[true, true, false, true, false, false, true, false, false, true, false, false, true, false, false, true, false, false, true, true, false, false, false, false, true, false, false, true, false, false, false, false, true, false] { tmps := #[.slice A n c, undef, .pointer (some ⟨w.heap.size, 0, none⟩), .slice (some ⟨w.heap.size + 1, 0, none⟩) 14 14, .pointer (some ⟨g, 0, none⟩), undef, .slice (some ⟨w.heap.size + 1, 0, none⟩) 14 14, (.slice A n c), (.int .u8 x0), undef, (.slice A n c), undef, undef, (.slice A n c), undef, undef, (.slice A n c), undef, undef, (.slice A n c), undef, undef, (.slice A n c), undef, undef, (.slice (some ⟨w.heap.size + 1, 0, none⟩) 14 14), (.slice A n c), undef, undef, undef, undef, (.slice A n c), undef, undef, (.slice A n c), undef, undef, undef, undef, undef, undef, undef, undef, undef, undef, undef, undef, undef, undef, undef, undef, undef, undef, undef, undef, undef, undef, undef, undef, undef, undef, undef, undef, undef, undef, undef, undef, undef, undef, undef, undef, undef, undef, undef, undef, undef, undef, undef, undef, undef, undef, undef, undef, undef, undef, undef, undef, undef, undef, undef, undef, undef, undef, undef, undef, undef, undef, undef, undef, undef, undef, undef, undef, undef, undef, undef, undef, undef, undef, undef, undef, undef, undef, undef, undef], defers := [] } _
        refine loneH (i := 2) 9 rfl rfl (by kernel_rfl) (by rfl) (fun K hK => ?_)
        go_simp
        (with_reducible refine (N0.out _).mono ?_)
        rintro e w4 ⟨rfl, b4⟩
        exact hK.out _ _ (hS.trans (b4.mono (HLE.out _ hS))) (fun hS => by try simp only [Act.put, List.setIfInBounds_toArray, List.set_cons_zero, List.set_cons_succ]; exact hnext.out _ hS b4)
    · intro o w2 hS hR hnext hall
      cases o with
      | none =>
        show wpAnyH _ _ _ _ _ 22 #[true, true, true, true, false, false, true, false, false, true, false, false, true, false, false, true, false, false, true, true, false, false, false, false, true, false, false, true, false, false, false, false, false, false] { tmps := #[.slice A n c, undef, .pointer (some ⟨w.heap.size, 0, none⟩), .slice (some ⟨w.heap.size + 1, 0, none⟩) 14 14, undef, undef, .slice (some ⟨w.heap.size + 1, 0, none⟩) 14 14, (.slice A n c), (.int .u8 x0), (.string s0), (.slice A n c), undef, undef, (.slice A n c), undef, undef, (.slice A n c), undef, undef, (.slice A n c), undef, undef, (.slice A n c), undef, undef, (.slice (some ⟨w.heap.size + 1, 0, none⟩) 14 14), (.slice A n c), undef, undef, undef, undef, (.slice A n c), undef, undef, (.slice A n c), undef, undef, undef, undef, undef, undef, undef, undef, undef, undef, undef, undef, undef, undef, undef, undef, undef, undef, undef, undef, undef, undef, undef, undef, undef, undef, undef, undef, undef, undef, undef, undef, undef, undef, undef, undef, undef, undef, undef, undef, undef, undef, undef, undef, undef, undef, undef, undef, undef, undef, undef, undef, undef, undef, undef, undef, undef, undef, undef, undef, undef, undef, undef, undef, undef, undef, undef, undef, undef, undef, undef, undef, undef, undef, undef, undef, undef, undef, undef, undef], defers := [] } _
        refine twoH (i := 4) (j := 32) 11 4 rfl rfl rfl rfl (by kernel_rfl) (by rfl) (by rfl) (fun K hK => ?_) (fun K hK => ?_)
        · go_simp
          (with_reducible refine (G1.out _ (HS.out _ hS)).mono ?_)
          rintro e w4 ⟨rfl, rfl⟩
          exact hK.out _ _ hS (fun hS => by try simp only [Act.put, List.setIfInBounds_toArray, List.set_cons_zero, List.set_cons_succ]; exact hnext.out _ hS (Below.refl _ _))
        · go_simp
          exact hK.out _ _ (hS.alloc (HLE.out _ hS) _) (fun hS' => by try simp only [Act.put, List.setIfInBounds_toArray, List.set_cons_zero, List.set_cons_succ]; exact hall.out rfl _ _ hS' ⟨HB.new _ {} (.slice none 0 0), HLE.out _ hS⟩)
      | some g =>
        show wpAnyH _ _ _ _ _ 21 #[true, true, true, true, false, false, true, false, false, true, false, false, true, false, false, true, false, false, true, true, false, false, false, false, true, false, false, true, false, false, false, false, true, false] { tmps := #[.slice A n c, undef, .pointer (some ⟨w.heap.size, 0, none⟩), .slice (some ⟨w.heap.size + 1, 0, none⟩) 14 14, .pointer (some ⟨g, 0, none⟩), undef, .slice (some ⟨w.heap.size + 1, 0, none⟩) 14 14, (.slice A n c), (.int .u8 x0), (.string s0), (.slice A n c), undef, undef, (.slice A n c), undef, undef, (.slice A n c), undef, undef, (.slice A n c), undef, undef, (.slice A n c), undef, undef, (.slice (some ⟨w.heap.size + 1, 0, none⟩) 14 14), (.slice A n c), undef, undef, undef, undef, (.slice A n c), undef, undef, (.slice A n c), undef, undef, undef, undef, undef, undef, undef, undef, undef, undef, undef, undef, undef, undef, undef, undef, undef, undef, undef, undef, undef, undef, undef, undef, undef, undef, undef, undef, undef, undef, undef, undef, undef, undef, undef, undef, undef, undef, undef, undef, undef, undef, undef, undef, undef, undef, undef, undef, undef, undef, undef, undef, undef, undef, undef, undef, undef, undef, undef, undef, undef, undef, undef, undef, undef, undef, undef, undef, undef, undef, undef, undef, undef, undef, undef, undef, undef, undef, undef, undef], defers := [] } _
        refine loneH (i := 4) 11 rfl rfl (by kernel_rfl) (by rfl) (fun K hK => ?_)
        go_simp
        (with_reducible refine (G1.out _ (HS.out _ hS)).mono ?_)
        rintro e w4 ⟨rfl, rfl⟩
        exact hK.out _ _ hS (fun hS => by try simp only [Act.put, List.setIfInBounds_toArray, List.set_cons_zero, List.set_cons_succ]; exact hnext.out _ hS (Below.refl _ _))
    · intro o w2 hS hR hnext hall
      cases o with
      | none =>
        show wpAnyH _ _ _ _ _ 21 #[true, true, true, true, true, false, true, false, false, true, false, false, true, false, false, true, false, false, true, true, false, false, false, false, true, false, false, true, false, false, false, false, false, false] { tmps := #[.slice A n c, undef, .pointer (some ⟨w.heap.size, 0, none⟩), .slice (some ⟨w.heap.size + 1, 0, none⟩) 14 14, undef, undef, .slice (some ⟨w.heap.size + 1, 0, none⟩) 14 14, (.slice A n c), (.int .u8 x0), (.string s0), (.slice A n c), (.int .u8 x1), undef, (.slice A n c), undef, undef, (.slice A n c), undef, undef, (.slice A n c), undef, undef, (.slice A n c), undef, undef, (.slice (some ⟨w.heap.size + 1, 0, none⟩) 14 14), (.slice A n c), undef, undef, undef, undef, (.slice A n c), undef, undef, (.slice A n c), undef, undef, undef, undef, undef, undef, undef, undef, undef, undef, undef, undef, undef, undef, undef, undef, undef, undef, undef, undef, undef, undef, undef, undef, undef, undef, undef, undef, undef, undef, undef, undef, undef, undef, undef, undef, undef, undef, undef, undef, undef, undef, undef, undef, undef, undef, undef, undef, undef, undef, undef, undef, undef, undef, undef, undef, undef, undef, undef, undef, undef, undef, undef, undef, undef, undef, undef, undef, undef, undef, undef, undef, undef, undef, undef, undef, undef, undef, undef, undef], defers := [] } _
        refine twoH (i := 5) (j := 32) 12 4 rfl rfl rfl rfl (by kernel_rfl) (by rfl) (by rfl) (fun K hK => ?_) (fun K hK => ?_)
        · go_simp
          (with_reducible refine (Y1.out _).mono ?_)
          rintro e w4 ⟨rfl, b4⟩
          exact hK.out _ _ (hS.trans (b4.mono (HLE.out _ hS))) (fun hS => by try simp only [Act.put, List.setIfInBounds_toArray, List.set_cons_zero, List.set_cons_succ]; exact hnext.out _ hS b4)
        · go_simp
          exact hK.out _ _ (hS.alloc (HLE.out _ hS) _) (fun hS' => by try simp only [Act.put, List.setIfInBounds_toArray, List.set_cons_zero, List.set_cons_succ]; exact hall.out rfl _ _ hS' ⟨HB.new _ {} (.slice none 0 0), HLE.out _ hS⟩)
      | some g =>
        show wpAnyH _ _ _ _ _ 20 #[true, true, true, true, true, false, true, false, false, true, false, false, true, false, false, true, false, false, true, true, false, false, false, false, true, false, false, true, false, false, false, false, true, false] { tmps := #[.slice A n c, undef, .pointer (some ⟨w.heap.size, 0, none⟩), .slice (some ⟨w.heap.size + 1, 0, none⟩) 14 14, .pointer (some ⟨g, 0, none⟩), undef, .slice (some ⟨w.heap.size + 1, 0, none⟩) 14 14, (.slice A n c), (.int .u8 x0), (.string s0), (.slice A n c), (.int .u8 x1), undef, (.slice A n c), undef, undef, (.slice A n c), undef, undef, (.slice A n c), undef, undef, (.slice A n c), undef, undef, (.slice (some ⟨w.heap.size + 1, 0, none⟩) 14 14), (.slice A n c), undef, undef, undef, undef, (.slice A n c), undef, undef, (.slice A n c), undef, undef, undef, undef, undef, undef, undef, undef, undef, undef, undef, undef, undef, undef, undef, undef, undef, undef, undef, undef, undef, undef, undef, undef, undef, undef, undef, undef, undef, undef, undef, undef, undef, undef, undef, undef, undef, undef, undef, undef, undef, undef, undef, undef, undef, undef, undef, undef, undef, undef, undef, undef, undef, undef, undef, undef, undef, undef, undef, undef, undef, undef, undef, undef, undef, undef, undef, undef, undef, undef, undef, undef, undef, undef, undef, undef, undef, undef, undef, undef], defers := [] } _
        refine loneH (i := 5) 12 rfl rfl (by kernel_rfl) (by rfl) (fun K hK => ?_)
        go_simp
        (with_reducible refine (Y1.out _).mono ?_)
        rintro e w4 ⟨rfl, b4⟩
        exact hK.out _ _ (hS.trans (b4.mono (HLE.out _ hS))) (fun hS => by try simp only [Act.put, List.setIfInBounds_toArray, List.set_cons_zero, List.set_cons_succ]; exact hnext.out _ hS b4)
    · intro o w2 hS hR hnext hall
      cases o with
      | none =>
        show wpAnyH _ _ _ _ _ 20 #[true, true, true, true, true, true, true, false, false, true, false, false, true, false, false, true, false, false, true, true, false, false, false, false, true, false, false, true, false, false, false, false, false, false] { tmps := #[.slice A n c, undef, .pointer (some ⟨w.heap.size, 0, none⟩), .slice (some ⟨w.heap.size + 1, 0, none⟩) 14 14, undef, undef, .slice (some ⟨w.heap.size + 1, 0, none⟩) 14 14, (.slice A n c), (.int .u8 x0), (.string s0), (.slice A n c), (.int .u8 x1), (.int .i64 y1), (.slice A n c), undef, undef, (.slice A n c), undef, undef, (.slice A n c), undef, undef, (.slice A n c), undef, undef, (.slice (some ⟨w.heap.size + 1, 0, none⟩) 14 14), (.slice A n c), undef, undef, undef, undef, (.slice A n c), undef, undef, (.slice A n c), undef, undef, undef, undef, undef, undef, undef, undef, undef, undef, undef, undef, undef, undef, undef, undef, undef, undef, undef, undef, undef, undef, undef, undef, undef, undef, undef, undef, undef, undef, undef, undef, undef, undef, undef, undef, undef, undef, undef, undef, undef, undef, undef, undef, undef, undef, undef, undef, undef, undef, undef, undef, undef, undef, undef, undef, undef, undef, undef, undef, undef, undef, undef, undef, undef, undef, undef, undef, undef, undef, undef, undef, undef, undef, undef, undef, undef, undef, undef, undef], defers := [] } _
        refine twoH (i := 7) (j := 32) 14 4 rfl rfl rfl rfl (by kernel_rfl) (by rfl) (by rfl) (fun K hK => ?_) (fun K hK => ?_)
        · go_simp
          (with_reducible refine (G2.out _ (HS.out _ hS)).mono ?_)
          rintro e w4 ⟨rfl, rfl⟩
          exact hK.out _ _ hS (fun hS => by try simp only [Act.put, List.setIfInBounds_toArray, List.set_cons_zero, List.set_cons_succ]; exact hnext.out _ hS (Below.refl _ _))
        · go_simp
          exact hK.out _ _ (hS.alloc (HLE.out _ hS) _) (fun hS' => by try simp only [Act.put, List.setIfInBounds_toArray, List.set_cons_zero, List.set_cons_succ]; exact hall.out rfl _ _ hS' ⟨HB.new _ {} (.slice none 0 0), HLE.out _ hS⟩)
      | some g =>
        show wpAnyH _ _ _ _ _ 19 #[true, true, true, true, true, true, true, false, false, true, false, false, true, false, false, true, false, false, true, true, false, false, false, false, true, false, false, true, false, false, false, false, true, false] { tmps := #[.slice A n c, undef, .pointer (some ⟨w.heap.size, 0, none⟩), .slice (some ⟨w.heap.size + 1, 0, none⟩) 14 14, .pointer (some ⟨g, 0, none⟩), undef, .slice (some ⟨w.heap.size + 1, 0, none⟩) 14 14, (.slice A n c), (.int .u8 x0), (.string s0), (.slice A n c), (.int .u8 x1), (.int .i64 y1), (.slice A n c), undef, undef, (.slice A n c), undef, undef, (.slice A n c), undef, undef, (.slice A n c), undef, undef, (.slice (some ⟨w.heap.size + 1, 0, none⟩) 14 14), (.slice A n c), undef, undef, undef, undef, (.slice A n c), undef, undef, (.slice A n c), undef, undef, undef, undef, undef, undef, undef, undef, undef, undef, undef, undef, undef, undef, undef, undef, undef, undef, undef, undef, undef, undef, undef, undef, undef, undef, undef, undef, undef, undef, undef, undef, undef, undef, undef, undef, undef, undef, undef, undef, undef, undef, undef, undef, undef, undef, undef, undef, undef, undef, undef, undef, undef, undef, undef, undef, undef, undef, undef, undef, undef, undef, undef, undef, undef, undef, undef, undef, undef, undef, undef, undef, undef, undef, undef, undef, undef, undef, undef, undef], defers := [] } _
        refine loneH (i := 7) 14 rfl rfl (by kernel_rfl) (by rfl) (fun K hK => ?_)
        go_simp
        (with_reducible refine (G2.out _ (HS.out _ hS)).mono ?_)
        rintro e w4 ⟨rfl, rfl⟩
        exact hK.out _ _ hS (fun hS => by try simp only [Act.put, List.setIfInBounds_toArray, List.set_cons_zero, List.set_cons_succ]; exact hnext.out _ hS (Below.refl _ _))
    · intro o w2 hS hR hnext hall
      cases o with
      | none =>
        show wpAnyH _ _ _ _ _ 19 #[true, true, true, true, true, true, true, true, false, true, false, false, true, false, false, true, false, false, true, true, false, false, false, false, true, false, false, true, false, false, false, false, false, false] { tmps := #[.slice A n c, undef, .pointer (some ⟨w.heap.size, 0, none⟩), .slice (some ⟨w.heap.size + 1, 0, none⟩) 14 14, undef, undef, .slice (some ⟨w.heap.size + 1, 0, none⟩) 14 14, (.slice A n c), (.int .u8 x0), (.string s0), (.slice A n c), (.int .u8 x1), (.int .i64 y1), (.slice A n c), (.int .u8 x2), undef, (.slice A n c), undef, undef, (.slice A n c), undef, undef, (.slice A n c), undef, undef, (.slice (some ⟨w.heap.size + 1, 0, none⟩) 14 14), (.slice A n c), undef, undef, undef, undef, (.slice A n c), undef, undef, (.slice A n c), undef, undef, undef, undef, undef, undef, undef, undef, undef, undef, undef, undef, undef, undef, undef, undef, undef, undef, undef, undef, undef, undef, undef, undef, undef, undef, undef, undef, undef, undef, undef, undef, undef, undef, undef, undef, undef, undef, undef, undef, undef, undef, undef, undef, undef, undef, undef, undef, undef, undef, undef, undef, undef, undef, undef, undef, undef, undef, undef, undef, undef, undef, undef, undef, undef, undef, undef, undef, undef, undef, undef, undef, undef, undef, undef, undef, undef, undef, undef, undef], defers := [] } _
        refine twoH (i := 8) (j := 32) 15 4 rfl rfl rfl rfl (by kernel_rfl) (by rfl) (by rfl) (fun K hK => ?_) (fun K hK => ?_)
        · go_simp
          (with_reducible refine (Y2.out _).mono ?_)
          rintro e w4 ⟨rfl, b4⟩
          exact hK.out _ _ (hS.trans (b4.mono (HLE.out _ hS))) (fun hS => by try simp only [Act.put, List.setIfInBounds_toArray, List.set_cons_zero, List.set_cons_succ]; exact hnext.out _ hS b4)
        · go_simp
          exact hK.out _ _ (hS.alloc (HLE.out _ hS) _) (fun hS' => by try simp only [Act.put, List.setIfInBounds_toArray, List.set_cons_zero, List.set_cons_succ]; exact hall.out rfl _ _ hS' ⟨HB.new _ {} (.slice none 0 0), HLE.out _ hS⟩)
      | some g =>
        show wpAnyH _ _ _ _ _ 18 #[true, true, true, true, true, true, true, true, false, true, false, false, true, false, false, true, false, false, true, true, false, false, false, false, true, false, false, true, false, false, false, false, true, false] { tmps := #[.slice A n c, undef, .pointer (some ⟨w.heap.size, 0, none⟩), .slice (some ⟨w.heap.size + 1, 0, none⟩) 14 14, .pointer (some ⟨g, 0, none⟩), undef, .slice (some ⟨w.heap.size + 1, 0, none⟩) 14 14, (.slice A n c), (.int .u8 x0), (.string s0), (.slice A n c), (.int .u8 x1), (.int .i64 y1), (.slice A n c), (.int .u8 x2), undef, (.slice A n c), undef, undef, (.slice A n c), undef, undef, (.slice A n c), undef, undef, (.slice (some ⟨w.heap.size + 1, 0, none⟩) 14 14), (.slice A n c), undef, undef, undef, undef, (.slice A n c), undef, undef, (.slice A n c), undef, undef, undef, undef, undef, undef, undef, undef, undef, undef, undef, undef, undef, undef, undef, undef, undef, undef, undef, undef, undef, undef, undef, undef, undef, undef, undef, undef, undef, undef, undef, undef, undef, undef, undef, undef, undef, undef, undef, undef, undef, undef, undef, undef, undef, undef, undef, undef, undef, undef, undef, undef, undef, undef, undef, undef, undef, undef, undef, undef, undef, undef, undef, undef, undef, undef, undef, undef, undef, undef, undef, undef, undef, undef, undef, undef, undef, undef, undef, undef], defers := [] } _
        refine loneH (i := 8) 15 rfl rfl (by kernel_rfl) (by rfl) (fun K hK => ?_)
        go_simp
        (with_reducible refine (Y2.out _).mono ?_)
        rintro e w4 ⟨rfl, b4⟩
        exact hK.out _ _ (hS.trans (b4.mono (HLE.out _ hS))) (fun hS => by try simp only [Act.put, List.setIfInBounds_toArray, List.set_cons_zero, List.set_cons_succ]; exact hnext.out _ hS b4)
    · intro o w2 hS hR hnext hall
      cases o with
      | none =>
        show wpAnyH _ _ _ _ _ 18 #[true, true, true, true, true, true, true, true, true, true, false, false, true, false, false, true, false, false, true, true, false, false, false, false, true, false, false, true, false, false, false, false, false, false] { tmps := #[.slice A n c, undef, .pointer (some ⟨w.heap.size, 0, none⟩), .slice (some ⟨w.heap.size + 1, 0, none⟩) 14 14, undef, undef, .slice (some ⟨w.heap.size + 1, 0, none⟩) 14 14, (.slice A n c), (.int .u8 x0), (.string s0), (.slice A n c), (.int .u8 x1), (.int .i64 y1), (.slice A n c), (.int .u8 x2), (.int .i64 y2), (.slice A n c), undef, undef, (.slice A n c), undef, undef, (.slice A n c), undef, undef, (.slice (some ⟨w.heap.size + 1, 0, none⟩) 14 14), (.slice A n c), undef, undef, undef, undef, (.slice A n c), undef, undef, (.slice A n c), undef, undef, undef, undef, undef, undef, undef, undef, undef, undef, undef, undef, undef, undef, undef, undef, undef, undef, undef, undef, undef, undef, undef, undef, undef, undef, undef, undef, undef, undef, undef, undef, undef, undef, undef, undef, undef, undef, undef, undef, undef, undef, undef, undef, undef, undef, undef, undef, undef, undef, undef, undef, undef, undef, undef, undef, undef, undef, undef, undef, undef, undef, undef, undef, undef, undef, undef, undef, undef, undef, undef, undef, undef, undef, undef, undef, undef, undef, undef, undef], defers := [] } _
        refine twoH (i := 10) (j := 32) 17 4 rfl rfl rfl rfl (by kernel_rfl) (by rfl) (by rfl) (fun K hK => ?_) (fun K hK => ?_)
        · go_simp
          (with_reducible refine (G3.out _ (HS.out _ hS)).mono ?_)
          rintro e w4 ⟨rfl, rfl⟩
          exact hK.out _ _ hS (fun hS => by try simp only [Act.put, List.setIfInBounds_toArray, List.set_cons_zero, List.set_cons_succ]; exact hnext.out _ hS (Below.refl _ _))
        · go_simp
          exact hK.out _ _ (hS.alloc (HLE.out _ hS) _) (fun hS' => by try simp only [Act.put, List.setIfInBounds_toArray, List.set_cons_zero, List.set_cons_succ]; exact hall.out rfl _ _ hS' ⟨HB.new _ {} (.slice none 0 0), HLE.out _ hS⟩)
      | some g =>
        show wpAnyH _ _ _ _ _ 17 #[true, true, true, true, true, true, true, true, true, true, false, false, true, false, false, true, false, false, true, true, false, false, false, false, true, false, false, true, false, false, false, false, true, false] { tmps := #[.slice A n c, undef, .pointer (some ⟨w.heap.size, 0, none⟩), .slice (some ⟨w.heap.size + 1, 0, none⟩) 14 14, .pointer (some ⟨g, 0, none⟩), undef, .slice (some ⟨w.heap.size + 1, 0, none⟩) 14 14, (.slice A n c), (.int .u8 x0), (.string s0), (.slice A n c), (.int .u8 x1), (.int .i64 y1), (.slice A n c), (.int .u8 x2), (.int .i64 y2), (.slice A n c), undef, undef, (.slice A n c), undef, undef, (.slice A n c), undef, undef, (.slice (some ⟨w.heap.size + 1, 0, none⟩) 14 14), (.slice A n c), undef, undef, undef, undef, (.slice A n c), undef, undef, (.slice A n c), undef, undef, undef, undef, undef, undef, undef, undef, undef, undef, undef, undef, undef, undef, undef, undef, undef, undef, undef, undef, undef, undef, undef, undef, undef, undef, undef, undef, undef, undef, undef, undef, undef, undef, undef, undef, undef, undef, undef, undef, undef, undef, undef, undef, undef, undef, undef, undef, undef, undef, undef, undef, undef, undef, undef, undef, undef, undef, undef, undef, undef, undef, undef, undef, undef, undef, undef, undef, undef, undef, undef, undef, undef, undef, undef, undef, undef, undef, undef, undef], defers := [] } _
        refine loneH (i := 10) 17 rfl rfl (by kernel_rfl) (by rfl) (fun K hK => ?_)
        go_simp
        (with_reducible refine (G3.out _ (HS.out _ hS)).mono ?_)
        rintro e w4 ⟨rfl, rfl⟩
        exact hK.out _ _ hS (fun hS => by try simp only [Act.put, List.setIfInBounds_toArray, List.set_cons_zero, List.set_cons_succ]; exact hnext.out _ hS (Below.refl _ _))
    · intro o w2 hS hR hnext hall
      cases o with
      | none =>
        show wpAnyH _ _ _ _ _ 17 #[true, true, true, true, true, true, true, true, true, true, true, false, true, false, false, true, false, false, true, true, false, false, false, false, true, false, false, true, false, false, false, false, false, false] { tmps := #[.slice A n c, undef, .pointer (some ⟨w.heap.size, 0, none⟩), .slice (some ⟨w.heap.size + 1, 0, none⟩) 14 14, undef, undef, .slice (some ⟨w.heap.size + 1, 0, none⟩) 14 14, (.slice A n c), (.int .u8 x0), (.string s0), (.slice A n c), (.int .u8 x1), (.int .i64 y1), (.slice A n c), (.int .u8 x2), (.int .i64 y2), (.slice A n c), (.int .u8 x3), undef, (.slice A n c), undef, undef, (.slice A n c), undef, undef, (.slice (some ⟨w.heap.size + 1, 0, none⟩) 14 14), (.slice A n c), undef, undef, undef, undef, (.slice A n c), undef, undef, (.slice A n c), undef, undef, undef, undef, undef, undef, undef, undef, undef, undef, undef, undef, undef, undef, undef, undef, undef, undef, undef, undef, undef, undef, undef, undef, undef, undef, undef, undef, undef, undef, undef, undef, undef, undef, undef, undef, undef, undef, undef, undef, undef, undef, undef, undef, undef, undef, undef, undef, undef, undef, undef, undef, undef, undef, undef, undef, undef, undef, undef, undef, undef, undef, undef, undef, undef, undef, undef, undef, undef, undef, undef, undef, undef, undef, undef, undef, undef, undef, undef, undef], defers := [] } _
        refine twoH (i := 11) (j := 32) 18 4 rfl rfl rfl rfl (by kernel_rfl) (by rfl) (by rfl) (fun K hK => ?_) (fun K hK => ?_)
        · go_simp
          (with_reducible refine (Y3.out _).mono ?_)
          rintro e w4 ⟨rfl, b4⟩
          exact hK.out _ _ (hS.trans (b4.mono (HLE.out _ hS))) (fun hS => by try simp only [Act.put, List.setIfInBounds_toArray, List.set_cons_zero, List.set_cons_succ]; exact hnext.out _ hS b4)
        · go_simp
          exact hK.out _ _ (hS.alloc (HLE.out _ hS) _) (fun hS' => by try simp only [Act.put, List.setIfInBounds_toArray, List.set_cons_zero, List.set_cons_succ]; exact hall.out rfl _ _ hS' ⟨HB.new _ {} (.slice none 0 0), HLE.out _ hS⟩)
      | some g =>
        show wpAnyH _ _ _ _ _ 16 #[true, true, true, true, true, true, true, true, true, true, true, false, true, false, false, true, false, false, true, true, false, false, false, false, true, false, false, true, false, false, false, false, true, false] { tmps := #[.slice A n c, undef, .pointer (some ⟨w.heap.size, 0, none⟩), .slice (some ⟨w.heap.size + 1, 0, none⟩) 14 14, .pointer (some ⟨g, 0, none⟩), undef, .slice (some ⟨w.heap.size + 1, 0, none⟩) 14 14, (.slice A n c), (.int .u8 x0), (.string s0), (.slice A n c), (.int .u8 x1), (.int .i64 y1), (.slice A n c), (.int .u8 x2), (.int .i64 y2), (.slice A n c), (.int .u8 x3), undef, (.slice A n c), undef, undef, (.slice A n c), undef, undef, (.slice (some ⟨w.heap.size + 1, 0, none⟩) 14 14), (.slice A n c), undef, undef, undef, undef, (.slice A n c), undef, undef, (.slice A n c), undef, undef, undef, undef, undef, undef, undef, undef, undef, undef, undef, undef, undef, undef, undef, undef, undef, undef, undef, undef, undef, undef, undef, undef, undef, undef, undef, undef, undef, undef, undef, undef, undef, undef, undef, undef, undef, undef, undef, undef, undef, undef, undef, undef, undef, undef, undef, undef, undef, undef, undef, undef, undef, undef, undef, undef, undef, undef, undef, undef, undef, undef, undef, undef, undef, undef, undef, undef, undef, undef, undef, undef, undef, undef, undef, undef, undef, undef, undef, undef], defers := [] } _
        refine loneH (i := 11) 18 rfl rfl (by kernel_rfl) (by rfl) (fun K hK => ?_)
        go_simp
        (with_reducible refine (Y3.out _).mono ?_)
        rintro e w4 ⟨rfl, b4⟩
        exact hK.out _ _ (hS.trans (b4.mono (HLE.out _ hS))) (fun hS => by try simp only [Act.put, List.setIfInBounds_toArray, List.set_cons_zero, List.set_cons_succ]; exact hnext.out _ hS b4)
    · intro o w2 hS hR hnext hall
      cases o with
      | none =>
        show wpAnyH _ _ _ _ _ 16 #[true, true, true, true, true, true, true, true, true, true, true, true, true, false, false, true, false, false, true, true, false, false, false, false, true, false, false, true, false, false, false, false, false, false] { tmps := #[.slice A n c, undef, .pointer (some ⟨w.heap.size, 0, none⟩), .slice (some ⟨w.heap.size + 1, 0, none⟩) 14 14, undef, undef, .slice (some ⟨w.heap.size + 1, 0, none⟩) 14 14, (.slice A n c), (.int .u8 x0), (.string s0), (.slice A n c), (.int .u8 x1), (.int .i64 y1), (.slice A n c), (.int .u8 x2), (.int .i64 y2), (.slice A n c), (.int .u8 x3), (.int .i64 y3), (.slice A n c), undef, undef, (.slice A n c), undef, undef, (.slice (some ⟨w.heap.size + 1, 0, none⟩) 14 14), (.slice A n c), undef, undef, undef, undef, (.slice A n c), undef, undef, (.slice A n c), undef, undef, undef, undef, undef, undef, undef, undef, undef, undef, undef, undef, undef, undef, undef, undef, undef, undef, undef, undef, undef, undef, undef, undef, undef, undef, undef, undef, undef, undef, undef, undef, undef, undef, undef, undef, undef, undef, undef, undef, undef, undef, undef, undef, undef, undef, undef, undef, undef, undef, undef, undef, undef, undef, undef, undef, undef, undef, undef, undef, undef, undef, undef, undef, undef, undef, undef, undef, undef, undef, undef, undef, undef, undef, undef, undef, undef, undef, undef, undef], defers := [] } _
        refine twoH (i := 13) (j := 32) 20 4 rfl rfl rfl rfl (by kernel_rfl) (by rfl) (by rfl) (fun K hK => ?_) (fun K hK => ?_)
        · go_simp
          (with_reducible refine (G4.out _ (HS.out _ hS)).mono ?_)
          rintro e w4 ⟨rfl, rfl⟩
          exact hK.out _ _ hS (fun hS => by try simp only [Act.put, List.setIfInBounds_toArray, List.set_cons_zero, List.set_cons_succ]; exact hnext.out _ hS (Below.refl _ _))
        · go_simp
          exact hK.out _ _ (hS.alloc (HLE.out _ hS) _) (fun hS' => by try simp only [Act.put, List.setIfInBounds_toArray, List.set_cons_zero, List.set_cons_succ]; exact hall.out rfl _ _ hS' ⟨HB.new _ {} (.slice none 0 0), HLE.out _ hS⟩)
      | some g =>
        show wpAnyH _ _ _ _ _ 15 #[true, true, true, true, true, true, true, true, true, true, true, true, true, false, false, true, false, false, true, true, false, false, false, false, true, false, false, true, false, false, false, false, true, false] { tmps := #[.slice A n c, undef, .pointer (some ⟨w.heap.size, 0, none⟩), .slice (some ⟨w.heap.size + 1, 0, none⟩) 14 14, .pointer (some ⟨g, 0, none⟩), undef, .slice (some ⟨w.heap.size + 1, 0, none⟩) 14 14, (.slice A n c), (.int .u8 x0), (.string s0), (.slice A n c), (.int .u8 x1), (.int .i64 y1), (.slice A n c), (.int .u8 x2), (.int .i64 y2), (.slice A n c), (.int .u8 x3), (.int .i64 y3), (.slice A n c), undef, undef, (.slice A n c), undef, undef, (.slice (some ⟨w.heap.size + 1, 0, none⟩) 14 14), (.slice A n c), undef, undef, undef, undef, (.slice A n c), undef, undef, (.slice A n c), undef, undef, undef, undef, undef, undef, undef, undef, undef, undef, undef, undef, undef, undef, undef, undef, undef, undef, undef, undef, undef, undef, undef, undef, undef, undef, undef, undef, undef, undef, undef, undef, undef, undef, undef, undef, undef, undef, undef, undef, undef, undef, undef, undef, undef, undef, undef, undef, undef, undef, undef, undef, undef, undef, undef, undef, undef, undef, undef, undef, undef, undef, undef, undef, undef, undef, undef, undef, undef, undef, undef, undef, undef, undef, undef, undef, undef, undef, undef, undef], defers := [] } _
        refine loneH (i := 13) 20 rfl rfl (by kernel_rfl) (by rfl) (fun K hK => ?_)
        go_simp
        (with_reducible refine (G4.out _ (HS.out _ hS)).mono ?_)
        rintro e w4 ⟨rfl, rfl⟩
        exact hK.out _ _ hS (fun hS => by try simp only [Act.put, List.setIfInBounds_toArray, List.set_cons_zero, List.set_cons_succ]; exact hnext.out _ hS (Below.refl _ _))
    · intro o w2 hS hR hnext hall
      cases o with
      | none =>
        show wpAnyH _ _ _ _ _ 15 #[true, true, true, true, true, true, true, true, true, true, true, true, true, true, false, true, false, false, true, true, false, false, false, false, true, false, false, true, false, false, false, false, false, false] { tmps := #[.slice A n c, undef, .pointer (some ⟨w.heap.size, 0, none⟩), .slice (some ⟨w.heap.size + 1, 0, none⟩) 14 14, undef, undef, .slice (some ⟨w.heap.size + 1, 0, none⟩) 14 14, (.slice A n c), (.int .u8 x0), (.string s0), (.slice A n c), (.int .u8 x1), (.int .i64 y1), (.slice A n c), (.int .u8 x2), (.int .i64 y2), (.slice A n c), (.int .u8 x3), (.int .i64 y3), (.slice A n c), (.int .u8 x4), undef, (.slice A n c), undef, undef, (.slice (some ⟨w.heap.size + 1, 0, none⟩) 14 14), (.slice A n c), undef, undef, undef, undef, (.slice A n c), undef, undef, (.slice A n c), undef, undef, undef, undef, undef, undef, undef, undef, undef, undef, undef, undef, undef, undef, undef, undef, undef, undef, undef, undef, undef, undef, undef, undef, undef, undef, undef, undef, undef, undef, undef, undef, undef, undef, undef, undef, undef, undef, undef, undef, undef, undef, undef, undef, undef, undef, undef, undef, undef, undef, undef, undef, undef, undef, undef, undef, undef, undef, undef, undef, undef, undef, undef, undef, undef, undef, undef, undef, undef, undef, undef, undef, undef, undef, undef, undef, undef, undef, undef, undef], defers := [] } _
        refine twoH (i := 14) (j := 32) 21 4 rfl rfl rfl rfl (by kernel_rfl) (by rfl) (by rfl) (fun K hK => ?_) (fun K hK => ?_)
        · go_simp
          (with_reducible refine (Y4.out _).mono ?_)
          rintro e w4 ⟨rfl, b4⟩
          exact hK.out _ _ (hS.trans (b4.mono (HLE.out _ hS))) (fun hS => by try simp only [Act.put, List.setIfInBounds_toArray, List.set_cons_zero, List.set_cons_succ]; exact hnext.out _ hS b4)
        · go_simp
          exact hK.out _ _ (hS.alloc (HLE.out _ hS) _) (fun hS' => by try simp only [Act.put, List.setIfInBounds_toArray, List.set_cons_zero, List.set_cons_succ]; exact hall.out rfl _ _ hS' ⟨HB.new _ {} (.slice none 0 0), HLE.out _ hS⟩)
      | some g =>
        show wpAnyH _ _ _ _ _ 14 #[true, true, true, true, true, true, true, true, true, true, true, true, true, true, false, true, false, false, true, true, false, false, false, false, true, false, false, true, false, false, false, false, true, false] { tmps := #[.slice A n c, undef, .pointer (some ⟨w.heap.size, 0, none⟩), .slice (some ⟨w.heap.size + 1, 0, none⟩) 14 14, .pointer (some ⟨g, 0, none⟩), undef, .slice (some ⟨w.heap.size + 1, 0, none⟩) 14 14, (.slice A n c), (.int .u8 x0), (.string s0), (.slice A n c), (.int .u8 x1), (.int .i64 y1), (.slice A n c), (.int .u8 x2), (.int .i64 y2), (.slice A n c), (.int .u8 x3), (.int .i64 y3), (.slice A n c), (.int .u8 x4), undef, (.slice A n c), undef, undef, (.slice (some ⟨w.heap.size + 1, 0, none⟩) 14 14), (.slice A n c), undef, undef, undef, undef, (.slice A n c), undef, undef, (.slice A n c), undef, undef, undef, undef, undef, undef, undef, undef, undef, undef, undef, undef, undef, undef, undef, undef, undef, undef, undef, undef, undef, undef, undef, undef, undef, undef, undef, undef, undef, undef, undef, undef, undef, undef, undef, undef, undef, undef, undef, undef, undef, undef, undef, undef, undef, undef, undef, undef, undef, undef, undef, undef, undef, undef, undef, undef, undef, undef, undef, undef, undef, undef, undef, undef, undef, undef, undef, undef, undef, undef, undef, undef, undef, undef, undef, undef, undef, undef, undef, undef], defers := [] } _
        refine loneH (i := 14) 21 rfl rfl (by kernel_rfl) (by rfl) (fun K hK => ?_)
        go_simp
        (with_reducible refine (Y4.out _).mono ?_)
        rintro e w4 ⟨rfl, b4⟩
        exact hK.out _ _ (hS.trans (b4.mono (HLE.out _ hS))) (fun hS => by try simp only [Act.put, List.setIfInBounds_toArray, List.set_cons_zero, List.set_cons_succ]; exact hnext.out _ hS b4)
    · intro o w2 hS hR hnext hall
      cases o with
      | none =>
        show wpAnyH _ _ _ _ _ 14 #[true, true, true, true, true, true, true, true, true, true, true, true, true, true, true, true, false, false, true, true, false, false, false, false, true, false, false, true, false, false, false, false, false, false] { tmps := #[.slice A n c, undef, .pointer (some ⟨w.heap.size, 0, none⟩), .slice (some ⟨w.heap.size + 1, 0, none⟩) 14 14, undef, undef, .slice (some ⟨w.heap.size + 1, 0, none⟩) 14 14, (.slice A n c), (.int .u8 x0), (.string s0), (.slice A n c), (.int .u8 x1), (.int .i64 y1), (.slice A n c), (.int .u8 x2), (.int .i64 y2), (.slice A n c), (.int .u8 x3), (.int .i64 y3), (.slice A n c), (.int .u8 x4), (.int .i64 y4), (.slice A n c), undef, undef, (.slice (some ⟨w.heap.size + 1, 0, none⟩) 14 14), (.slice A n c), undef, undef, undef, undef, (.slice A n c), undef, undef, (.slice A n c), undef, undef, undef, undef, undef, undef, undef, undef, undef, undef, undef, undef, undef, undef, undef, undef, undef, undef, undef, undef, undef, undef, undef, undef, undef, undef, undef, undef, undef, undef, undef, undef, undef, undef, undef, undef, undef, undef, undef, undef, undef, undef, undef, undef, undef, undef, undef, undef, undef, undef, undef, undef, undef, undef, undef, undef, undef, undef, undef, undef, undef, undef, undef, undef, undef, undef, undef, undef, undef, undef, undef, undef, undef, undef, undef, undef, undef, undef, undef, undef], defers := [] } _
        refine twoH (i := 16) (j := 32) 23 4 rfl rfl rfl rfl (by kernel_rfl) (by rfl) (by rfl) (fun K hK => ?_) (fun K hK => ?_)
        · go_simp
          (with_reducible refine (G5.out _ (HS.out _ hS)).mono ?_)
          rintro e w4 ⟨rfl, rfl⟩
          exact hK.out _ _ hS (fun hS => by try simp only [Act.put, List.setIfInBounds_toArray, List.set_cons_zero, List.set_cons_succ]; exact hnext.out _ hS (Below.refl _ _))
        · go_simp
          exact hK.out _ _ (hS.alloc (HLE.out _ hS) _) (fun hS' => by try simp only [Act.put, List.setIfInBounds_toArray, List.set_cons_zero, List.set_cons_succ]; exact hall.out rfl _ _ hS' ⟨HB.new _ {} (.slice none 0 0), HLE.out _ hS⟩)
      | some g =>
        show wpAnyH _ _ _ _ _ 13 #[true, true, true, true, true, true, true, true, true, true, true, true, true, true, true, true, false, false, true, true, false, false, false, false, true, false, false, true, false, false, false, false, true, false] { tmps := #[.slice A n c, undef, .pointer (some ⟨w.heap.size, 0, none⟩), .slice (some ⟨w.heap.size + 1, 0, none⟩) 14 14, .pointer (some ⟨g, 0, none⟩), undef, .slice (some ⟨w.heap.size + 1, 0, none⟩) 14 14, (.slice A n c), (.int .u8 x0), (.string s0), (.slice A n c), (.int .u8 x1), (.int .i64 y1), (.slice A n c), (.int .u8 x2), (.int .i64 y2), (.slice A n c), (.int .u8 x3), (.int .i64 y3), (.slice A n c), (.int .u8 x4), (.int .i64 y4), (.slice A n c), undef, undef, (.slice (some ⟨w.heap.size + 1, 0, none⟩) 14 14), (.slice A n c), undef, undef, undef, undef, (.slice A n c), undef, undef, (.slice A n c), undef, undef, undef, undef, undef, undef, undef, undef, undef, undef, undef, undef, undef, undef, undef, undef, undef, undef, undef, undef, undef, undef, undef, undef, undef, undef, undef, undef, undef, undef, undef, undef, undef, undef, undef, undef, undef, undef, undef, undef, undef, undef, undef, undef, undef, undef, undef, undef, undef, undef, undef, undef, undef, undef, undef, undef, undef, undef, undef, undef, undef, undef, undef, undef, undef, undef, undef, undef, undef, undef, undef, undef, undef, undef, undef, undef, undef, undef, undef, undef], defers := [] } _
        refine loneH (i := 16) 23 rfl rfl (by kernel_rfl) (by rfl) (fun K hK => ?_)
        go_simp
        (with_reducible refine (G5.out _ (HS.out _ hS)).mono ?_)
        rintro e w4 ⟨rfl, rfl⟩
        exact hK.out _ _ hS (fun hS => by try simp only [Act.put, List.setIfInBounds_toArray, List.set_cons_zero, List.set_cons_succ]; exact hnext.out _ hS (Below.refl _ _))
    · intro o w2 hS hR hnext hall
      cases o with
      | none =>
        show wpAnyH _ _ _ _ _ 13 #[true, true, true, true, true, true, true, true, true, true, true, true, true, true, true, true, true, false, true, true, false, false, false, false, true, false, false, true, false, false, false, false, false, false] { tmps := #[.slice A n c, undef, .pointer (some ⟨w.heap.size, 0, none⟩), .slice (some ⟨w.heap.size + 1, 0, none⟩) 14 14, undef, undef, .slice (some ⟨w.heap.size + 1, 0, none⟩) 14 14, (.slice A n c), (.int .u8 x0), (.string s0), (.slice A n c), (.int .u8 x1), (.int .i64 y1), (.slice A n c), (.int .u8 x2), (.int .i64 y2), (.slice A n c), (.int .u8 x3), (.int .i64 y3), (.slice A n c), (.int .u8 x4), (.int .i64 y4), (.slice A n c), (.int .u8 x5), undef, (.slice (some ⟨w.heap.size + 1, 0, none⟩) 14 14), (.slice A n c), undef, undef, undef, undef, (.slice A n c), undef, undef, (.slice A n c), undef, undef, undef, undef, undef, undef, undef, undef, undef, undef, undef, undef, undef, undef, undef, undef, undef, undef, undef, undef, undef, undef, undef, undef, undef, undef, undef, undef, undef, undef, undef, undef, undef, undef, undef, undef, undef, undef, undef, undef, undef, undef, undef, undef, undef, undef, undef, undef, undef, undef, undef, undef, undef, undef, undef, undef, undef, undef, undef, undef, undef, undef, undef, undef, undef, undef, undef, undef, undef, undef, undef, undef, undef, undef, undef, undef, undef, undef, undef, undef], defers := [] } _
        refine twoH (i := 17) (j := 32) 24 4 rfl rfl rfl rfl (by kernel_rfl) (by rfl) (by rfl) (fun K hK => ?_) (fun K hK => ?_)
        · go_simp
          (with_reducible refine (Y5.out _).mono ?_)
          rintro e w4 ⟨rfl, b4⟩
          exact hK.out _ _ (hS.trans (b4.mono (HLE.out _ hS))) (fun hS => by try simp only [Act.put, List.setIfInBounds_toArray, List.set_cons_zero, List.set_cons_succ]; exact hnext.out _ hS b4)
        · go_simp
          exact hK.out _ _ (hS.alloc (HLE.out _ hS) _) (fun hS' => by try simp only [Act.put, List.setIfInBounds_toArray, List.set_cons_zero, List.set_cons_succ]; exact hall.out rfl _ _ hS' ⟨HB.new _ {} (.slice none 0 0), HLE.out _ hS⟩)
      | some g =>
        show wpAnyH _ _ _ _ _ 12 #[true, true, true, true, true, true, true, true, true, true, true, true, true, true, true, true, true, false, true, true, false, false, false, false, true, false, false, true, false, false, false, false, true, false] { tmps := #[.slice A n c, undef, .pointer (some ⟨w.heap.size, 0, none⟩), .slice (some ⟨w.heap.size + 1, 0, none⟩) 14 14, .pointer (some ⟨g, 0, none⟩), undef, .slice (some ⟨w.heap.size + 1, 0, none⟩) 14 14, (.slice A n c), (.int .u8 x0), (.string s0), (.slice A n c), (.int .u8 x1), (.int .i64 y1), (.slice A n c), (.int .u8 x2), (.int .i64 y2), (.slice A n c), (.int .u8 x3), (.int .i64 y3), (.slice A n c), (.int .u8 x4), (.int .i64 y4), (.slice A n c), (.int .u8 x5), undef, (.slice (some ⟨w.heap.size + 1, 0, none⟩) 14 14), (.slice A n c), undef, undef, undef, undef, (.slice A n c), undef, undef, (.slice A n c), undef, undef, undef, undef, undef, undef, undef, undef, undef, undef, undef, undef, undef, undef, undef, undef, undef, undef, undef, undef, undef, undef, undef, undef, undef, undef, undef, undef, undef, undef, undef, undef, undef, undef, undef, undef, undef, undef, undef, undef, undef, undef, undef, undef, undef, undef, undef, undef, undef, undef, undef, undef, undef, undef, undef, undef, undef, undef, undef, undef, undef, undef, undef, undef, undef, undef, undef, undef, undef, undef, undef, undef, undef, undef, undef, undef, undef, undef, undef, undef], defers := [] } _
        refine loneH (i := 17) 24 rfl rfl (by kernel_rfl) (by rfl) (fun K hK => ?_)
        go_simp
        (with_reducible refine (Y5.out _).mono ?_)
        rintro e w4 ⟨rfl, b4⟩
        exact hK.out _ _ (hS.trans (b4.mono (HLE.out _ hS))) (fun hS => by try simp only [Act.put, List.setIfInBounds_toArray, List.set_cons_zero, List.set_cons_succ]; exact hnext.out _ hS b4)
    · intro o w2 hS hR hnext hall
      cases o with
      | none =>
        show wpAnyH _ _ _ _ _ 12 #[true, true, true, true, true, true, true, true, true, true, true, true, true, true, true, true, true, true, true, true, false, false, false, false, true, false, false, true, false, false, false, false, false, false] { tmps := #[.slice A n c, undef, .pointer (some ⟨w.heap.size, 0, none⟩), .slice (some ⟨w.heap.size + 1, 0, none⟩) 14 14, undef, undef, .slice (some ⟨w.heap.size + 1, 0, none⟩) 14 14, (.slice A n c), (.int .u8 x0), (.string s0), (.slice A n c), (.int .u8 x1), (.int .i64 y1), (.slice A n c), (.int .u8 x2), (.int .i64 y2), (.slice A n c), (.int .u8 x3), (.int .i64 y3), (.slice A n c), (.int .u8 x4), (.int .i64 y4), (.slice A n c), (.int .u8 x5), (.int .i64 y5), (.slice (some ⟨w.heap.size + 1, 0, none⟩) 14 14), (.slice A n c), undef, undef, undef, undef, (.slice A n c), undef, undef, (.slice A n c), undef, undef, undef, undef, undef, undef, undef, undef, undef, undef, undef, undef, undef, undef, undef, undef, undef, undef, undef, undef, undef, undef, undef, undef, undef, undef, undef, undef, undef, undef, undef, undef, undef, undef, undef, undef, undef, undef, undef, undef, undef, undef, undef, undef, undef, undef, undef, undef, undef, undef, undef, undef, undef, undef, undef, undef, undef, undef, undef, undef, undef, undef, undef, undef, undef, undef, undef, undef, undef, undef, undef, undef, undef, undef, undef, undef, undef, undef, undef, undef], defers := [] } _
        refine twoH (i := 20) (j := 32) 27 4 rfl rfl rfl rfl (by kernel_rfl) (by rfl) (by rfl) (fun K hK => ?_) (fun K hK => ?_)
        · go_simp
          (with_reducible refine (G6.out _ (HS.out _ hS)).mono ?_)
          rintro e w4 ⟨rfl, rfl⟩
          exact hK.out _ _ hS (fun hS => by try simp only [Act.put, List.setIfInBounds_toArray, List.set_cons_zero, List.set_cons_succ]; exact hnext.out _ hS (Below.refl _ _))
        · go_simp
          exact hK.out _ _ (hS.alloc (HLE.out _ hS) _) (fun hS' => by try simp only [Act.put, List.setIfInBounds_toArray, List.set_cons_zero, List.set_cons_succ]; exact hall.out rfl _ _ hS' ⟨HB.new _ {} (.slice none 0 0), HLE.out _ hS⟩)
      | some g =>
        show wpAnyH _ _ _ _ _ 11 #[true, true, true, true, true, true, true, true, true, true, true, true, true, true, true, true, true, true, true, true, false, false, false, false, true, false, false, true, false, false, false, false, true, false] { tmps := #[.slice A n c, undef, .pointer (some ⟨w.heap.size, 0, none⟩), .slice (some ⟨w.heap.size + 1, 0, none⟩) 14 14, .pointer (some ⟨g, 0, none⟩), undef, .slice (some ⟨w.heap.size + 1, 0, none⟩) 14 14, (.slice A n c), (.int .u8 x0), (.string s0), (.slice A n c), (.int .u8 x1), (.int .i64 y1), (.slice A n c), (.int .u8 x2), (.int .i64 y2), (.slice A n c), (.int .u8 x3), (.int .i64 y3), (.slice A n c), (.int .u8 x4), (.int .i64 y4), (.slice A n c), (.int .u8 x5), (.int .i64 y5), (.slice (some ⟨w.heap.size + 1, 0, none⟩) 14 14), (.slice A n c), undef, undef, undef, undef, (.slice A n c), undef, undef, (.slice A n c), undef, undef, undef, undef, undef, undef, undef, undef, undef, undef, undef, undef, undef, undef, undef, undef, undef, undef, undef, undef, undef, undef, undef, undef, undef, undef, undef, undef, undef, undef, undef, undef, undef, undef, undef, undef, undef, undef, undef, undef, undef, undef, undef, undef, undef, undef, undef, undef, undef, undef, undef, undef, undef, undef, undef, undef, undef, undef, undef, undef, undef, undef, undef, undef, undef, undef, undef, undef, undef, undef, undef, undef, undef, undef, undef, undef, undef, undef, undef, undef], defers := [] } _
        refine loneH (i := 20) 27 rfl rfl (by kernel_rfl) (by rfl) (fun K hK => ?_)
        go_simp
        (with_reducible refine (G6.out _ (HS.out _ hS)).mono ?_)
        rintro e w4 ⟨rfl, rfl⟩
        exact hK.out _ _ hS (fun hS => by try simp only [Act.put, List.setIfInBounds_toArray, List.set_cons_zero, List.set_cons_succ]; exact hnext.out _ hS (Below.refl _ _))
    · intro o w2 hS hR hnext hall
      cases o with
      | none =>
        show wpAnyH _ _ _ _ _ 11 #[true, true, true, true, true, true, true, true, true, true, true, true, true, true, true, true, true, true, true, true, true, false, false, false, true, false, false, true, false, false, false, false, false, false] { tmps := #[.slice A n c, undef, .pointer (some ⟨w.heap.size, 0, none⟩), .slice (some ⟨w.heap.size + 1, 0, none⟩) 14 14, undef, undef, .slice (some ⟨w.heap.size + 1, 0, none⟩) 14 14, (.slice A n c), (.int .u8 x0), (.string s0), (.slice A n c), (.int .u8 x1), (.int .i64 y1), (.slice A n c), (.int .u8 x2), (.int .i64 y2), (.slice A n c), (.int .u8 x3), (.int .i64 y3), (.slice A n c), (.int .u8 x4), (.int .i64 y4), (.slice A n c), (.int .u8 x5), (.int .i64 y5), (.slice (some ⟨w.heap.size + 1, 0, none⟩) 14 14), (.slice A n c), (.int .u8 x6), undef, undef, undef, (.slice A n c), undef, undef, (.slice A n c), undef, undef, undef, undef, undef, undef, undef, undef, undef, undef, undef, undef, undef, undef, undef, undef, undef, undef, undef, undef, undef, undef, undef, undef, undef, undef, undef, undef, undef, undef, undef, undef, undef, undef, undef, undef, undef, undef, undef, undef, undef, undef, undef, undef, undef, undef, undef, undef, undef, undef, undef, undef, undef, undef, undef, undef, undef, undef, undef, undef, undef, undef, undef, undef, undef, undef, undef, undef, undef, undef, undef, undef, undef, undef, undef, undef, undef, undef, undef, undef], defers := [] } _
        refine takeH (i := 21) (v := .int .u8 j) 28 rfl rfl (by kernel_rfl) (by kernel_rfl) (by kernel_rfl) (fun _ _ _ h => h) (by rfl) ?hy23n hS ?rest23n
        case hy23n => (intro W hW; have f0 := E13.out; have f1 := EW.out; clear hW; go_simp; first | done | with_reducible rfl)
        case rest23n => (try simp only [Act.put, List.setIfInBounds_toArray, List.set_cons_zero, List.set_cons_succ]; exact hnext.out _ hS (Below.refl _ _))
      | some g =>
        show wpAnyH _ _ _ _ _ 10 #[true, true, true, true, true, true, true, true, true, true, true, true, true, true, true, true, true, true, true, true, true, false, false, false, true, false, false, true, false, false, false, false, true, false] { tmps := #[.slice A n c, undef, .pointer (some ⟨w.heap.size, 0, none⟩), .slice (some ⟨w.heap.size + 1, 0, none⟩) 14 14, .pointer (some ⟨g, 0, none⟩), undef, .slice (some ⟨w.heap.size + 1, 0, none⟩) 14 14, (.slice A n c), (.int .u8 x0), (.string s0), (.slice A n c), (.int .u8 x1), (.int .i64 y1), (.slice A n c), (.int .u8 x2), (.int .i64 y2), (.slice A n c), (.int .u8 x3), (.int .i64 y3), (.slice A n c), (.int .u8 x4), (.int .i64 y4), (.slice A n c), (.int .u8 x5), (.int .i64 y5), (.slice (some ⟨w.heap.size + 1, 0, none⟩) 14 14), (.slice A n c), (.int .u8 x6), undef, undef, undef, (.slice A n c), undef, undef, (.slice A n c), undef, undef, undef, undef, undef, undef, undef, undef, undef, undef, undef, undef, undef, undef, undef, undef, undef, undef, undef, undef, undef, undef, undef, undef, undef, undef, undef, undef, undef, undef, undef, undef, undef, undef, undef, undef, undef, undef, undef, undef, undef, undef, undef, undef, undef, undef, undef, undef, undef, undef, undef, undef, undef, undef, undef, undef, undef, undef, undef, undef, undef, undef, undef, undef, undef, undef, undef, undef, undef, undef, undef, undef, undef, undef, undef, undef, undef, undef, undef, undef], defers := [] } _
        refine takeH (i := 21) (v := .int .u8 j) 28 rfl rfl (by kernel_rfl) (by kernel_rfl) (by kernel_rfl) (fun _ _ _ h => h) (by rfl) ?hy23s hS ?rest23s
        case hy23s => (intro W hW; have f0 := E13.out; have f1 := EW.out; clear hW; go_simp; first | done | with_reducible rfl)
        case rest23s => (try simp only [Act.put, List.setIfInBounds_toArray, List.set_cons_zero, List.set_cons_succ]; exact hnext.out _ hS (Below.refl _ _))
    · intro o w2 hS hR hnext hall
      cases o with
      | none =>
        show wpAnyH _ _ _ _ _ 10 #[true, true, true, true, true, true, true, true, true, true, true, true, true, true, true, true, true, true, true, true, true, true, false, false, true, false, false, true, false, false, false, false, false, false] { tmps := #[.slice A n c, undef, .pointer (some ⟨w.heap.size, 0, none⟩), .slice (some ⟨w.heap.size + 1, 0, none⟩) 14 14, undef, undef, .slice (some ⟨w.heap.size + 1, 0, none⟩) 14 14, (.slice A n c), (.int .u8 x0), (.string s0), (.slice A n c), (.int .u8 x1), (.int .i64 y1), (.slice A n c), (.int .u8 x2), (.int .i64 y2), (.slice A n c), (.int .u8 x3), (.int .i64 y3), (.slice A n c), (.int .u8 x4), (.int .i64 y4), (.slice A n c), (.int .u8 x5), (.int .i64 y5), (.slice (some ⟨w.heap.size + 1, 0, none⟩) 14 14), (.slice A n c), (.int .u8 x6), (.int .u8 j), undef, undef, (.slice A n c), undef, undef, (.slice A n c), undef, undef, undef, undef, undef, undef, undef, undef, undef, undef, undef, undef, undef, undef, undef, undef, undef, undef, undef, undef, undef, undef, undef, undef, undef, undef, undef, undef, undef, undef, undef, undef, undef, undef, undef, undef, undef, undef, undef, undef, undef, undef, undef, undef, undef, undef, undef, undef, undef, undef, undef, undef, undef, undef, undef, undef, undef, undef, undef, undef, undef, undef, undef, undef, undef, undef, undef, undef, undef, undef, undef, undef, undef, undef, undef, undef, undef, undef, undef, undef], defers := [] } _
        refine takeH (i := 22) (v := .pointer (some ⟨w.heap.size + 1, j, none⟩)) 29 rfl rfl (by kernel_rfl) (by kernel_rfl) (by kernel_rfl) (fun _ _ _ h => h) (by rfl) ?hy24n hS ?rest24n
        case hy24n => (intro W hW; have f0 : (j : Int) < 14 := (by have := HJ.out; omega); clear hW; go_simp; first | done | with_reducible rfl)
        case rest24n => (try simp only [Act.put, List.setIfInBounds_toArray, List.set_cons_zero, List.set_cons_succ]; exact hnext.out _ hS (Below.refl _ _))
      | some g =>
        show wpAnyH _ _ _ _ _ 9 #[true, true, true, true, true, true, true, true, true, true, true, true, true, true, true, true, true, true, true, true, true, true, false, false, true, false, false, true, false, false, false, false, true, false] { tmps := #[.slice A n c, undef, .pointer (some ⟨w.heap.size, 0, none⟩), .slice (some ⟨w.heap.size + 1, 0, none⟩) 14 14, .pointer (some ⟨g, 0, none⟩), undef, .slice (some ⟨w.heap.size + 1, 0, none⟩) 14 14, (.slice A n c), (.int .u8 x0), (.string s0), (.slice A n c), (.int .u8 x1), (.int .i64 y1), (.slice A n c), (.int .u8 x2), (.int .i64 y2), (.slice A n c), (.int .u8 x3), (.int .i64 y3), (.slice A n c), (.int .u8 x4), (.int .i64 y4), (.slice A n c), (.int .u8 x5), (.int .i64 y5), (.slice (some ⟨w.heap.size + 1, 0, none⟩) 14 14), (.slice A n c), (.int .u8 x6), (.int .u8 j), undef, undef, (.slice A n c), undef, undef, (.slice A n c), undef, undef, undef, undef, undef, undef, undef, undef, undef, undef, undef, undef, undef, undef, undef, undef, undef, undef, undef, undef, undef, undef, undef, undef, undef, undef, undef, undef, undef, undef, undef, undef, undef, undef, undef, undef, undef, undef, undef, undef, undef, undef, undef, undef, undef, undef, undef, undef, undef, undef, undef, undef, undef, undef, undef, undef, undef, undef, undef, undef, undef, undef, undef, undef, undef, undef, undef, undef, undef, undef, undef, undef, undef, undef, undef, undef, undef, undef, undef, undef], defers := [] } _
        refine takeH (i := 22) (v := .pointer (some ⟨w.heap.size + 1, j, none⟩)) 29 rfl rfl (by kernel_rfl) (by kernel_rfl) (by kernel_rfl) (fun _ _ _ h => h) (by rfl) ?hy24s hS ?rest24s
        case hy24s => (intro W hW; have f0 : (j : Int) < 14 := (by have := HJ.out; omega); clear hW; go_simp; first | done | with_reducible rfl)
        case rest24s => (try simp only [Act.put, List.setIfInBounds_toArray, List.set_cons_zero, List.set_cons_succ]; exact hnext.out _ hS (Below.refl _ _))
    · intro o w2 hS hR hnext hall
      cases o with
      | none =>
        show wpAnyH _ _ _ _ _ 9 #[true, true, true, true, true, true, true, true, true, true, true, true, true, true, true, true, true, true, true, true, true, true, true, false, true, false, false, true, false, false, false, false, false, false] { tmps := #[.slice A n c, undef, .pointer (some ⟨w.heap.size, 0, none⟩), .slice (some ⟨w.heap.size + 1, 0, none⟩) 14 14, undef, undef, .slice (some ⟨w.heap.size + 1, 0, none⟩) 14 14, (.slice A n c), (.int .u8 x0), (.string s0), (.slice A n c), (.int .u8 x1), (.int .i64 y1), (.slice A n c), (.int .u8 x2), (.int .i64 y2), (.slice A n c), (.int .u8 x3), (.int .i64 y3), (.slice A n c), (.int .u8 x4), (.int .i64 y4), (.slice A n c), (.int .u8 x5), (.int .i64 y5), (.slice (some ⟨w.heap.size + 1, 0, none⟩) 14 14), (.slice A n c), (.int .u8 x6), (.int .u8 j), (.pointer (some ⟨w.heap.size + 1, j, none⟩)), undef, (.slice A n c), undef, undef, (.slice A n c), undef, undef, undef, undef, undef, undef, undef, undef, undef, undef, undef, undef, undef, undef, undef, undef, undef, undef, undef, undef, undef, undef, undef, undef, undef, undef, undef, undef, undef, undef, undef, undef, undef, undef, undef, undef, undef, undef, undef, undef, undef, undef, undef, undef, undef, undef, undef, undef, undef, undef, undef, undef, undef, undef, undef, undef, undef, undef, undef, undef, undef, undef, undef, undef, undef, undef, undef, undef, undef, undef, undef, undef, undef, undef, undef, undef, undef, undef, undef, undef], defers := [] } _
        refine takeH (i := 23) (v := .int .u8 kk) 30 rfl rfl (by kernel_rfl) (by kernel_rfl) (by kernel_rfl) (fun _ _ _ h => h) (by rfl) ?hy25n hS ?rest25n
        case hy25n => (intro W hW; have f0 := HKc.out W hW; clear hW; go_simp; first | done | with_reducible rfl)
        case rest25n => (try simp only [Act.put, List.setIfInBounds_toArray, List.set_cons_zero, List.set_cons_succ]; exact hnext.out _ hS (Below.refl _ _))
      | some g =>
        show wpAnyH _ _ _ _ _ 8 #[true, true, true, true, true, true, true, true, true, true, true, true, true, true, true, true, true, true, true, true, true, true, true, false, true, false, false, true, false, false, false, false, true, false] { tmps := #[.slice A n c, undef, .pointer (some ⟨w.heap.size, 0, none⟩), .slice (some ⟨w.heap.size + 1, 0, none⟩) 14 14, .pointer (some ⟨g, 0, none⟩), undef, .slice (some ⟨w.heap.size + 1, 0, none⟩) 14 14, (.slice A n c), (.int .u8 x0), (.string s0), (.slice A n c), (.int .u8 x1), (.int .i64 y1), (.slice A n c), (.int .u8 x2), (.int .i64 y2), (.slice A n c), (.int .u8 x3), (.int .i64 y3), (.slice A n c), (.int .u8 x4), (.int .i64 y4), (.slice A n c), (.int .u8 x5), (.int .i64 y5), (.slice (some ⟨w.heap.size + 1, 0, none⟩) 14 14), (.slice A n c), (.int .u8 x6), (.int .u8 j), (.pointer (some ⟨w.heap.size + 1, j, none⟩)), undef, (.slice A n c), undef, undef, (.slice A n c), undef, undef, undef, undef, undef, undef, undef, undef, undef, undef, undef, undef, undef, undef, undef, undef, undef, undef, undef, undef, undef, undef, undef, undef, undef, undef, undef, undef, undef, undef, undef, undef, undef, undef, undef, undef, undef, undef, undef, undef, undef, undef, undef, undef, undef, undef, undef, undef, undef, undef, undef, undef, undef, undef, undef, undef, undef, undef, undef, undef, undef, undef, undef, undef, undef, undef, undef, undef, undef, undef, undef, undef, undef, undef, undef, undef, undef, undef, undef, undef], defers := [] } _
        refine takeH (i := 23) (v := .int .u8 kk) 30 rfl rfl (by kernel_rfl) (by kernel_rfl) (by kernel_rfl) (fun _ _ _ h => h) (by rfl) ?hy25s hS ?rest25s
        case hy25s => (intro W hW; have f0 := HKc.out W hW; clear hW; go_simp; first | done | with_reducible rfl)
        case rest25s => (try simp only [Act.put, List.setIfInBounds_toArray, List.set_cons_zero, List.set_cons_succ]; exact hnext.out _ hS (Below.refl _ _))
    · intro o w2 hS hR hnext hall
      cases o with
      | none =>
        show wpAnyH _ _ _ _ _ 8 #[true, true, true, true, true, true, true, true, true, true, true, true, true, true, true, true, true, true, true, true, true, true, true, true, true, false, false, true, false, false, false, false, false, false] { tmps := #[.slice A n c, undef, .pointer (some ⟨w.heap.size, 0, none⟩), .slice (some ⟨w.heap.size + 1, 0, none⟩) 14 14, undef, undef, .slice (some ⟨w.heap.size + 1, 0, none⟩) 14 14, (.slice A n c), (.int .u8 x0), (.string s0), (.slice A n c), (.int .u8 x1), (.int .i64 y1), (.slice A n c), (.int .u8 x2), (.int .i64 y2), (.slice A n c), (.int .u8 x3), (.int .i64 y3), (.slice A n c), (.int .u8 x4), (.int .i64 y4), (.slice A n c), (.int .u8 x5), (.int .i64 y5), (.slice (some ⟨w.heap.size + 1, 0, none⟩) 14 14), (.slice A n c), (.int .u8 x6), (.int .u8 j), (.pointer (some ⟨w.heap.size + 1, j, none⟩)), (.int .u8 kk), (.slice A n c), undef, undef, (.slice A n c), undef, undef, undef, undef, undef, undef, undef, undef, undef, undef, undef, undef, undef, undef, undef, undef, undef, undef, undef, undef, undef, undef, undef, undef, undef, undef, undef, undef, undef, undef, undef, undef, undef, undef, undef, undef, undef, undef, undef, undef, undef, undef, undef, undef, undef, undef, undef, undef, undef, undef, undef, undef, undef, undef, undef, undef, undef, undef, undef, undef, undef, undef, undef, undef, undef, undef, undef, undef, undef, undef, undef, undef, undef, undef, undef, undef, undef, undef, undef, undef], defers := [] } _
        refine twoH (i := 25) (j := 32) 32 4 rfl rfl rfl rfl (by kernel_rfl) (by rfl) (by rfl) (fun K hK => ?_) (fun K hK => ?_)
        · go_simp
          (with_reducible refine (G7.out _ (HS.out _ hS)).mono ?_)
          rintro e w4 ⟨rfl, rfl⟩
          exact hK.out _ _ hS (fun hS => by try simp only [Act.put, List.setIfInBounds_toArray, List.set_cons_zero, List.set_cons_succ]; exact hnext.out _ hS (Below.refl _ _))
        · go_simp
          exact hK.out _ _ (hS.alloc (HLE.out _ hS) _) (fun hS' => by try simp only [Act.put, List.setIfInBounds_toArray, List.set_cons_zero, List.set_cons_succ]; exact hall.out rfl _ _ hS' ⟨HB.new _ {} (.slice none 0 0), HLE.out _ hS⟩)
      | some g =>
        show wpAnyH _ _ _ _ _ 7 #[true, true, true, true, true, true, true, true, true, true, true, true, true, true, true, true, true, true, true, true, true, true, true, true, true, false, false, true, false, false, false, false, true, false] { tmps := #[.slice A n c, undef, .pointer (some ⟨w.heap.size, 0, none⟩), .slice (some ⟨w.heap.size + 1, 0, none⟩) 14 14, .pointer (some ⟨g, 0, none⟩), undef, .slice (some ⟨w.heap.size + 1, 0, none⟩) 14 14, (.slice A n c), (.int .u8 x0), (.string s0), (.slice A n c), (.int .u8 x1), (.int .i64 y1), (.slice A n c), (.int .u8 x2), (.int .i64 y2), (.slice A n c), (.int .u8 x3), (.int .i64 y3), (.slice A n c), (.int .u8 x4), (.int .i64 y4), (.slice A n c), (.int .u8 x5), (.int .i64 y5), (.slice (some ⟨w.heap.size + 1, 0, none⟩) 14 14), (.slice A n c), (.int .u8 x6), (.int .u8 j), (.pointer (some ⟨w.heap.size + 1, j, none⟩)), (.int .u8 kk), (.slice A n c), undef, undef, (.slice A n c), undef, undef, undef, undef, undef, undef, undef, undef, undef, undef, undef, undef, undef, undef, undef, undef, undef, undef, undef, undef, undef, undef, undef, undef, undef, undef, undef, undef, undef, undef, undef, undef, undef, undef, undef, undef, undef, undef, undef, undef, undef, undef, undef, undef, undef, undef, undef, undef, undef, undef, undef, undef, undef, undef, undef, undef, undef, undef, undef, undef, undef, undef, undef, undef, undef, undef, undef, undef, undef, undef, undef, undef, undef, undef, undef, undef, undef, undef, undef, undef], defers := [] } _
        refine loneH (i := 25) 32 rfl rfl (by kernel_rfl) (by rfl) (fun K hK => ?_)
        go_simp
        (with_reducible refine (G7.out _ (HS.out _ hS)).mono ?_)
        rintro e w4 ⟨rfl, rfl⟩
        exact hK.out _ _ hS (fun hS => by try simp only [Act.put, List.setIfInBounds_toArray, List.set_cons_zero, List.set_cons_succ]; exact hnext.out _ hS (Below.refl _ _))
    · intro o w2 hS hR hnext hall
      cases o with
      | none =>
        show wpAnyH _ _ _ _ _ 7 #[true, true, true, true, true, true, true, true, true, true, true, true, true, true, true, true, true, true, true, true, true, true, true, true, true, true, false, true, false, false, false, false, false, false] { tmps := #[.slice A n c, undef, .pointer (some ⟨w.heap.size, 0, none⟩), .slice (some ⟨w.heap.size + 1, 0, none⟩) 14 14, undef, undef, .slice (some ⟨w.heap.size + 1, 0, none⟩) 14 14, (.slice A n c), (.int .u8 x0), (.string s0), (.slice A n c), (.int .u8 x1), (.int .i64 y1), (.slice A n c), (.int .u8 x2), (.int .i64 y2), (.slice A n c), (.int .u8 x3), (.int .i64 y3), (.slice A n c), (.int .u8 x4), (.int .i64 y4), (.slice A n c), (.int .u8 x5), (.int .i64 y5), (.slice (some ⟨w.heap.size + 1, 0, none⟩) 14 14), (.slice A n c), (.int .u8 x6), (.int .u8 j), (.pointer (some ⟨w.heap.size + 1, j, none⟩)), (.int .u8 kk), (.slice A n c), (.int .u8 x7), undef, (.slice A n c), undef, undef, undef, undef, undef, undef, undef, undef, undef, undef, undef, undef, undef, undef, undef, undef, undef, undef, undef, undef, undef, undef, undef, undef, undef, undef, undef, undef, undef, undef, undef, undef, undef, undef, undef, undef, undef, undef, undef, undef, undef, undef, undef, undef, undef, undef, undef, undef, undef, undef, undef, undef, undef, undef, undef, undef, undef, undef, undef, undef, undef, undef, undef, undef, undef, undef, undef, undef, undef, undef, undef, undef, undef, undef, undef, undef, undef, undef, undef, undef], defers := [] } _
        refine twoH (i := 26) (j := 32) 33 4 rfl rfl rfl rfl (by kernel_rfl) (by rfl) (by rfl) (fun K hK => ?_) (fun K hK => ?_)
        · go_simp
          (with_reducible refine (N7.out _).mono ?_)
          rintro e w4 ⟨rfl, b4⟩
          exact hK.out _ _ (hS.trans (b4.mono (HLE.out _ hS))) (fun hS => by try simp only [Act.put, List.setIfInBounds_toArray, List.set_cons_zero, List.set_cons_succ]; exact hnext.out _ hS b4)
        · go_simp
          exact hK.out _ _ (hS.alloc (HLE.out _ hS) _) (fun hS' => by try simp only [Act.put, List.setIfInBounds_toArray, List.set_cons_zero, List.set_cons_succ]; exact hall.out rfl _ _ hS' ⟨HB.new _ {} (.slice none 0 0), HLE.out _ hS⟩)
      | some g =>
        show wpAnyH _ _ _ _ _ 6 #[true, true, true, true, true, true, true, true, true, true, true, true, true, true, true, true, true, true, true, true, true, true, true, true, true, true, false, true, false, false, false, false, true, false] { tmps := #[.slice A n c, undef, .pointer (some ⟨w.heap.size, 0, none⟩), .slice (some ⟨w.heap.size + 1, 0, none⟩) 14 14, .pointer (some ⟨g, 0, none⟩), undef, .slice (some ⟨w.heap.size + 1, 0, none⟩) 14 14, (.slice A n c), (.int .u8 x0), (.string s0), (.slice A n c), (.int .u8 x1), (.int .i64 y1), (.slice A n c), (.int .u8 x2), (.int .i64 y2), (.slice A n c), (.int .u8 x3), (.int .i64 y3), (.slice A n c), (.int .u8 x4), (.int .i64 y4), (.slice A n c), (.int .u8 x5), (.int .i64 y5), (.slice (some ⟨w.heap.size + 1, 0, none⟩) 14 14), (.slice A n c), (.int .u8 x6), (.int .u8 j), (.pointer (some ⟨w.heap.size + 1, j, none⟩)), (.int .u8 kk), (.slice A n c), (.int .u8 x7), undef, (.slice A n c), undef, undef, undef, undef, undef, undef, undef, undef, undef, undef, undef, undef, undef, undef, undef, undef, undef, undef, undef, undef, undef, undef, undef, undef, undef, undef, undef, undef, undef, undef, undef, undef, undef, undef, undef, undef, undef, undef, undef, undef, undef, undef, undef, undef, undef, undef, undef, undef, undef, undef, undef, undef, undef, undef, undef, undef, undef, undef, undef, undef, undef, undef, undef, undef, undef, undef, undef, undef, undef, undef, undef, undef, undef, undef, undef, undef, undef, undef, undef, undef], defers := [] } _
        refine loneH (i := 26) 33 rfl rfl (by kernel_rfl) (by rfl) (fun K hK => ?_)
        go_simp
        (with_reducible refine (N7.out _).mono ?_)
        rintro e w4 ⟨rfl, b4⟩
        exact hK.out _ _ (hS.trans (b4.mono (HLE.out _ hS))) (fun hS => by try simp only [Act.put, List.setIfInBounds_toArray, List.set_cons_zero, List.set_cons_succ]; exact hnext.out _ hS b4)
    · intro o w2 hS hR hnext hall
      cases o with
      | none =>
        show wpAnyH _ _ _ _ _ 6 #[true, true, true, true, true, true, true, true, true, true, true, true, true, true, true, true, true, true, true, true, true, true, true, true, true, true, true, true, false, false, false, false, false, false] { tmps := #[.slice A n c, undef, .pointer (some ⟨w.heap.size, 0, none⟩), .slice (some ⟨w.heap.size + 1, 0, none⟩) 14 14, undef, undef, .slice (some ⟨w.heap.size + 1, 0, none⟩) 14 14, (.slice A n c), (.int .u8 x0), (.string s0), (.slice A n c), (.int .u8 x1), (.int .i64 y1), (.slice A n c), (.int .u8 x2), (.int .i64 y2), (.slice A n c), (.int .u8 x3), (.int .i64 y3), (.slice A n c), (.int .u8 x4), (.int .i64 y4), (.slice A n c), (.int .u8 x5), (.int .i64 y5), (.slice (some ⟨w.heap.size + 1, 0, none⟩) 14 14), (.slice A n c), (.int .u8 x6), (.int .u8 j), (.pointer (some ⟨w.heap.size + 1, j, none⟩)), (.int .u8 kk), (.slice A n c), (.int .u8 x7), (.string s7), (.slice A n c), undef, undef, undef, undef, undef, undef, undef, undef, undef, undef, undef, undef, undef, undef, undef, undef, undef, undef, undef, undef, undef, undef, undef, undef, undef, undef, undef, undef, undef, undef, undef, undef, undef, undef, undef, undef, undef, undef, undef, undef, undef, undef, undef, undef, undef, undef, undef, undef, undef, undef, undef, undef, undef, undef, undef, undef, undef, undef, undef, undef, undef, undef, undef, undef, undef, undef, undef, undef, undef, undef, undef, undef, undef, undef, undef, undef, undef, undef, undef, undef], defers := [] } _
        refine twoH (i := 28) (j := 32) 35 4 rfl rfl rfl rfl (by kernel_rfl) (by rfl) (by rfl) (fun K hK => ?_) (fun K hK => ?_)
        · go_simp
          (with_reducible refine (G8.out _ (HS.out _ hS)).mono ?_)
          rintro e w4 ⟨rfl, rfl⟩
          exact hK.out _ _ hS (fun hS => by try simp only [Act.put, List.setIfInBounds_toArray, List.set_cons_zero, List.set_cons_succ]; exact hnext.out _ hS (Below.refl _ _))
        · go_simp
          exact hK.out _ _ (hS.alloc (HLE.out _ hS) _) (fun hS' => by try simp only [Act.put, List.setIfInBounds_toArray, List.set_cons_zero, List.set_cons_succ]; exact hall.out rfl _ _ hS' ⟨HB.new _ {} (.slice none 0 0), HLE.out _ hS⟩)
      | some g =>
        show wpAnyH _ _ _ _ _ 5 #[true, true, true, true, true, true, true, true, true, true, true, true, true, true, true, true, true, true, true, true, true, true, true, true, true, true, true, true, false, false, false, false, true, false] { tmps := #[.slice A n c, undef, .pointer (some ⟨w.heap.size, 0, none⟩), .slice (some ⟨w.heap.size + 1, 0, none⟩) 14 14, .pointer (some ⟨g, 0, none⟩), undef, .slice (some ⟨w.heap.size + 1, 0, none⟩) 14 14, (.slice A n c), (.int .u8 x0), (.string s0), (.slice A n c), (.int .u8 x1), (.int .i64 y1), (.slice A n c), (.int .u8 x2), (.int .i64 y2), (.slice A n c), (.int .u8 x3), (.int .i64 y3), (.slice A n c), (.int .u8 x4), (.int .i64 y4), (.slice A n c), (.int .u8 x5), (.int .i64 y5), (.slice (some ⟨w.heap.size + 1, 0, none⟩) 14 14), (.slice A n c), (.int .u8 x6), (.int .u8 j), (.pointer (some ⟨w.heap.size + 1, j, none⟩)), (.int .u8 kk), (.slice A n c), (.int .u8 x7), (.string s7), (.slice A n c), undef, undef, undef, undef, undef, undef, undef, undef, undef, undef, undef, undef, undef, undef, undef, undef, undef, undef, undef, undef, undef, undef, undef, undef, undef, undef, undef, undef, undef, undef, undef, undef, undef, undef, undef, undef, undef, undef, undef, undef, undef, undef, undef, undef, undef, undef, undef, undef, undef, undef, undef, undef, undef, undef, undef, undef, undef, undef, undef, undef, undef, undef, undef, undef, undef, undef, undef, undef, undef, undef, undef, undef, undef, undef, undef, undef, undef, undef, undef, undef], defers := [] } _
        refine loneH (i := 28) 35 rfl rfl (by kernel_rfl) (by rfl) (fun K hK => ?_)
        go_simp
        (with_reducible refine (G8.out _ (HS.out _ hS)).mono ?_)
        rintro e w4 ⟨rfl, rfl⟩
        exact hK.out _ _ hS (fun hS => by try simp only [Act.put, List.setIfInBounds_toArray, List.set_cons_zero, List.set_cons_succ]; exact hnext.out _ hS (Below.refl _ _))
    · intro o w2 hS hR hnext hall
      cases o with
      | none =>
        show wpAnyH _ _ _ _ _ 5 #[true, true, true, true, true, true, true, true, true, true, true, true, true, true, true, true, true, true, true, true, true, true, true, true, true, true, true, true, true, false, false, false, false, false] { tmps := #[.slice A n c, undef, .pointer (some ⟨w.heap.size, 0, none⟩), .slice (some ⟨w.heap.size + 1, 0, none⟩) 14 14, undef, undef, .slice (some ⟨w.heap.size + 1, 0, none⟩) 14 14, (.slice A n c), (.int .u8 x0), (.string s0), (.slice A n c), (.int .u8 x1), (.int .i64 y1), (.slice A n c), (.int .u8 x2), (.int .i64 y2), (.slice A n c), (.int .u8 x3), (.int .i64 y3), (.slice A n c), (.int .u8 x4), (.int .i64 y4), (.slice A n c), (.int .u8 x5), (.int .i64 y5), (.slice (some ⟨w.heap.size + 1, 0, none⟩) 14 14), (.slice A n c), (.int .u8 x6), (.int .u8 j), (.pointer (some ⟨w.heap.size + 1, j, none⟩)), (.int .u8 kk), (.slice A n c), (.int .u8 x7), (.string s7), (.slice A n c), (.int .u8 x8), undef, undef, undef, undef, undef, undef, undef, undef, undef, undef, undef, undef, undef, undef, undef, undef, undef, undef, undef, undef, undef, undef, undef, undef, undef, undef, undef, undef, undef, undef, undef, undef, undef, undef, undef, undef, undef, undef, undef, undef, undef, undef, undef, undef, undef, undef, undef, undef, undef, undef, undef, undef, undef, undef, undef, undef, undef, undef, undef, undef, undef, undef, undef, undef, undef, undef, undef, undef, undef, undef, undef, undef, undef, undef, undef, undef, undef, undef, undef], defers := [] } _
        refine takeH (i := 29) (v := .int .u8 m8) 36 rfl rfl (by kernel_rfl) (by kernel_rfl) (by kernel_rfl) (fun _ _ _ h => h) (by rfl) ?hy29n hS ?rest29n
        case hy29n => (intro W hW; have f0 := E3.out; have f1 := EM.out; clear hW; go_simp; first | done | with_reducible rfl)
        case rest29n => (try simp only [Act.put, List.setIfInBounds_toArray, List.set_cons_zero, List.set_cons_succ]; exact hnext.out _ hS (Below.refl _ _))
      | some g =>
        show wpAnyH _ _ _ _ _ 4 #[true, true, true, true, true, true, true, true, true, true, true, true, true, true, true, true, true, true, true, true, true, true, true, true, true, true, true, true, true, false, false, false, true, false] { tmps := #[.slice A n c, undef, .pointer (some ⟨w.heap.size, 0, none⟩), .slice (some ⟨w.heap.size + 1, 0, none⟩) 14 14, .pointer (some ⟨g, 0, none⟩), undef, .slice (some ⟨w.heap.size + 1, 0, none⟩) 14 14, (.slice A n c), (.int .u8 x0), (.string s0), (.slice A n c), (.int .u8 x1), (.int .i64 y1), (.slice A n c), (.int .u8 x2), (.int .i64 y2), (.slice A n c), (.int .u8 x3), (.int .i64 y3), (.slice A n c), (.int .u8 x4), (.int .i64 y4), (.slice A n c), (.int .u8 x5), (.int .i64 y5), (.slice (some ⟨w.heap.size + 1, 0, none⟩) 14 14), (.slice A n c), (.int .u8 x6), (.int .u8 j), (.pointer (some ⟨w.heap.size + 1, j, none⟩)), (.int .u8 kk), (.slice A n c), (.int .u8 x7), (.string s7), (.slice A n c), (.int .u8 x8), undef, undef, undef, undef, undef, undef, undef, undef, undef, undef, undef, undef, undef, undef, undef, undef, undef, undef, undef, undef, undef, undef, undef, undef, undef, undef, undef, undef, undef, undef, undef, undef, undef, undef, undef, undef, undef, undef, undef, undef, undef, undef, undef, undef, undef, undef, undef, undef, undef, undef, undef, undef, undef, undef, undef, undef, undef, undef, undef, undef, undef, undef, undef, undef, undef, undef, undef, undef, undef, undef, undef, undef, undef, undef, undef, undef, undef, undef, undef], defers := [] } _
        refine takeH (i := 29) (v := .int .u8 m8) 36 rfl rfl (by kernel_rfl) (by kernel_rfl) (by kernel_rfl) (fun _ _ _ h => h) (by rfl) ?hy29s hS ?rest29s
        case hy29s => (intro W hW; have f0 := E3.out; have f1 := EM.out; clear hW; go_simp; first | done | with_reducible rfl)
        case rest29s => (try simp only [Act.put, List.setIfInBounds_toArray, List.set_cons_zero, List.set_cons_succ]; exact hnext.out _ hS (Below.refl _ _))
    · intro o w2 hS hR hnext hall
      cases o with
      | none =>
        show wpAnyH _ _ _ _ _ 4 #[true, true, true, true, true, true, true, true, true, true, true, true, true, true, true, true, true, true, true, true, true, true, true, true, true, true, true, true, true, true, false, false, false, false] { tmps := #[.slice A n c, undef, .pointer (some ⟨w.heap.size, 0, none⟩), .slice (some ⟨w.heap.size + 1, 0, none⟩) 14 14, undef, undef, .slice (some ⟨w.heap.size + 1, 0, none⟩) 14 14, (.slice A n c), (.int .u8 x0), (.string s0), (.slice A n c), (.int .u8 x1), (.int .i64 y1), (.slice A n c), (.int .u8 x2), (.int .i64 y2), (.slice A n c), (.int .u8 x3), (.int .i64 y3), (.slice A n c), (.int .u8 x4), (.int .i64 y4), (.slice A n c), (.int .u8 x5), (.int .i64 y5), (.slice (some ⟨w.heap.size + 1, 0, none⟩) 14 14), (.slice A n c), (.int .u8 x6), (.int .u8 j), (.pointer (some ⟨w.heap.size + 1, j, none⟩)), (.int .u8 kk), (.slice A n c), (.int .u8 x7), (.string s7), (.slice A n c), (.int .u8 x8), (.int .u8 m8), undef, undef, undef, undef, undef, undef, undef, undef, undef, undef, undef, undef, undef, undef, undef, undef, undef, undef, undef, undef, undef, undef, undef, undef, undef, undef, undef, undef, undef, undef, undef, undef, undef, undef, undef, undef, undef, undef, undef, undef, undef, undef, undef, undef, undef, undef, undef, undef, undef, undef, undef, undef, undef, undef, undef, undef, undef, undef, undef, undef, undef, undef, undef, undef, undef, undef, undef, undef, undef, undef, undef, undef, undef, undef, undef, undef, undef, undef], defers := [] } _
        refine takeH (i := 30) (v := .int .i64 m8) 37 rfl rfl (by kernel_rfl) (by kernel_rfl) (by kernel_rfl) (fun _ _ _ h => h) (by rfl) ?hy30n hS ?rest30n
        case hy30n => (intro W hW; have f0 := EI.out; clear hW; go_simp; first | done | with_reducible rfl)
        case rest30n => (try simp only [Act.put, List.setIfInBounds_toArray, List.set_cons_zero, List.set_cons_succ]; exact hnext.out _ hS (Below.refl _ _))
      | some g =>
        show wpAnyH _ _ _ _ _ 3 #[true, true, true, true, true, true, true, true, true, true, true, true, true, true, true, true, true, true, true, true, true, true, true, true, true, true, true, true, true, true, false, false, true, false] { tmps := #[.slice A n c, undef, .pointer (some ⟨w.heap.size, 0, none⟩), .slice (some ⟨w.heap.size + 1, 0, none⟩) 14 14, .pointer (some ⟨g, 0, none⟩), undef, .slice (some ⟨w.heap.size + 1, 0, none⟩) 14 14, (.slice A n c), (.int .u8 x0), (.string s0), (.slice A n c), (.int .u8 x1), (.int .i64 y1), (.slice A n c), (.int .u8 x2), (.int .i64 y2), (.slice A n c), (.int .u8 x3), (.int .i64 y3), (.slice A n c), (.int .u8 x4), (.int .i64 y4), (.slice A n c), (.int .u8 x5), (.int .i64 y5), (.slice (some ⟨w.heap.size + 1, 0, none⟩) 14 14), (.slice A n c), (.int .u8 x6), (.int .u8 j), (.pointer (some ⟨w.heap.size + 1, j, none⟩)), (.int .u8 kk), (.slice A n c), (.int .u8 x7), (.string s7), (.slice A n c), (.int .u8 x8), (.int .u8 m8), undef, undef, undef, undef, undef, undef, undef, undef, undef, undef, undef, undef, undef, undef, undef, undef, undef, undef, undef, undef, undef, undef, undef, undef, undef, undef, undef, undef, undef, undef, undef, undef, undef, undef, undef, undef, undef, undef, undef, undef, undef, undef, undef, undef, undef, undef, undef, undef, undef, undef, undef, undef, undef, undef, undef, undef, undef, undef, undef, undef, undef, undef, undef, undef, undef, undef, undef, undef, undef, undef, undef, undef, undef, undef, undef, undef, undef, undef], defers := [] } _
        refine takeH (i := 30) (v := .int .i64 m8) 37 rfl rfl (by kernel_rfl) (by kernel_rfl) (by kernel_rfl) (fun _ _ _ h => h) (by rfl) ?hy30s hS ?rest30s
        case hy30s => (intro W hW; have f0 := EI.out; clear hW; go_simp; first | done | with_reducible rfl)
        case rest30s => (try simp only [Act.put, List.setIfInBounds_toArray, List.set_cons_zero, List.set_cons_succ]; exact hnext.out _ hS (Below.refl _ _))
    · intro o w2 hS hR hnext hall
      cases o with
      | none =>
        show wpAnyH _ _ _ _ _ 3 #[true, true, true, true, true, true, true, true, true, true, true, true, true, true, true, true, true, true, true, true, true, true, true, true, true, true, true, true, true, true, true, false, false, false] { tmps := #[.slice A n c, undef, .pointer (some ⟨w.heap.size, 0, none⟩), .slice (some ⟨w.heap.size + 1, 0, none⟩) 14 14, undef, undef, .slice (some ⟨w.heap.size + 1, 0, none⟩) 14 14, (.slice A n c), (.int .u8 x0), (.string s0), (.slice A n c), (.int .u8 x1), (.int .i64 y1), (.slice A n c), (.int .u8 x2), (.int .i64 y2), (.slice A n c), (.int .u8 x3), (.int .i64 y3), (.slice A n c), (.int .u8 x4), (.int .i64 y4), (.slice A n c), (.int .u8 x5), (.int .i64 y5), (.slice (some ⟨w.heap.size + 1, 0, none⟩) 14 14), (.slice A n c), (.int .u8 x6), (.int .u8 j), (.pointer (some ⟨w.heap.size + 1, j, none⟩)), (.int .u8 kk), (.slice A n c), (.int .u8 x7), (.string s7), (.slice A n c), (.int .u8 x8), (.int .u8 m8), (.int .i64 m8), undef, undef, undef, undef, undef, undef, undef, undef, undef, undef, undef, undef, undef, undef, undef, undef, undef, undef, undef, undef, undef, undef, undef, undef, undef, undef, undef, undef, undef, undef, undef, undef, undef, undef, undef, undef, undef, undef, undef, undef, undef, undef, undef, undef, undef, undef, undef, undef, undef, undef, undef, undef, undef, undef, undef, undef, undef, undef, undef, undef, undef, undef, undef, undef, undef, undef, undef, undef, undef, undef, undef, undef, undef, undef, undef, undef, undef], defers := [] } _
        refine takeH (i := 31) (v := .agg #[.string s0, .int .i64 y1, .int .i64 y2, .int .i64 y3, .int .i64 y4, .int .i64 y5, .int .u8 kk, .string s7, .int .i64 m8, .string ⟨#[]⟩, .string ⟨#[]⟩, .int .i64 0, .int .i64 0, .string ⟨#[]⟩, .slice none 0 0, .bool false, .int .i64 0]) 38 rfl rfl (by kernel_rfl) (by kernel_rfl) (by kernel_rfl) (fun _ _ _ h => h) (by rfl) ?hy31n hS ?rest31n
        case hy31n => (intro W hW; clear hW; go_simp; first | done | with_reducible rfl)
        case rest31n => (try simp only [Act.put, List.setIfInBounds_toArray, List.set_cons_zero, List.set_cons_succ]; exact hnext.out _ hS (Below.refl _ _))
      | some g =>
        show wpAnyH _ _ _ _ _ 2 #[true, true, true, true, true, true, true, true, true, true, true, true, true, true, true, true, true, true, true, true, true, true, true, true, true, true, true, true, true, true, true, false, true, false] { tmps := #[.slice A n c, undef, .pointer (some ⟨w.heap.size, 0, none⟩), .slice (some ⟨w.heap.size + 1, 0, none⟩) 14 14, .pointer (some ⟨g, 0, none⟩), undef, .slice (some ⟨w.heap.size + 1, 0, none⟩) 14 14, (.slice A n c), (.int .u8 x0), (.string s0), (.slice A n c), (.int .u8 x1), (.int .i64 y1), (.slice A n c), (.int .u8 x2), (.int .i64 y2), (.slice A n c), (.int .u8 x3), (.int .i64 y3), (.slice A n c), (.int .u8 x4), (.int .i64 y4), (.slice A n c), (.int .u8 x5), (.int .i64 y5), (.slice (some ⟨w.heap.size + 1, 0, none⟩) 14 14), (.slice A n c), (.int .u8 x6), (.int .u8 j), (.pointer (some ⟨w.heap.size + 1, j, none⟩)), (.int .u8 kk), (.slice A n c), (.int .u8 x7), (.string s7), (.slice A n c), (.int .u8 x8), (.int .u8 m8), (.int .i64 m8), undef, undef, undef, undef, undef, undef, undef, undef, undef, undef, undef, undef, undef, undef, undef, undef, undef, undef, undef, undef, undef, undef, undef, undef, undef, undef, undef, undef, undef, undef, undef, undef, undef, undef, undef, undef, undef, undef, undef, undef, undef, undef, undef, undef, undef, undef, undef, undef, undef, undef, undef, undef, undef, undef, undef, undef, undef, undef, undef, undef, undef, undef, undef, undef, undef, undef, undef, undef, undef, undef, undef, undef, undef, undef, undef, undef, undef], defers := [] } _
        refine takeH (i := 31) (v := .agg #[.string s0, .int .i64 y1, .int .i64 y2, .int .i64 y3, .int .i64 y4, .int .i64 y5, .int .u8 kk, .string s7, .int .i64 m8, .string ⟨#[]⟩, .string ⟨#[]⟩, .int .i64 0, .int .i64 0, .string ⟨#[]⟩, .slice none 0 0, .bool false, .int .i64 0]) 38 rfl rfl (by kernel_rfl) (by kernel_rfl) (by kernel_rfl) (fun _ _ _ h => h) (by rfl) ?hy31s hS ?rest31s
        case hy31s => (intro W hW; clear hW; go_simp; first | done | with_reducible rfl)
        case rest31s => (try simp only [Act.put, List.setIfInBounds_toArray, List.set_cons_zero, List.set_cons_succ]; exact hnext.out _ hS (Below.refl _ _))
  case hnone =>
    intro w2 hS hall
    show wpAnyH _ _ _ _ _ 2 #[true, true, true, true, true, true, true, true, true, true, true, true, true, true, true, true, true, true, true, true, true, true, true, true, true, true, true, true, true, true, true, true, false, false] { tmps := #[.slice A n c, undef, .pointer (some ⟨w.heap.size, 0, none⟩), .slice (some ⟨w.heap.size + 1, 0, none⟩) 14 14, undef, undef, .slice (some ⟨w.heap.size + 1, 0, none⟩) 14 14, (.slice A n c), (.int .u8 x0), (.string s0), (.slice A n c), (.int .u8 x1), (.int .i64 y1), (.slice A n c), (.int .u8 x2), (.int .i64 y2), (.slice A n c), (.int .u8 x3), (.int .i64 y3), (.slice A n c), (.int .u8 x4), (.int .i64 y4), (.slice A n c), (.int .u8 x5), (.int .i64 y5), (.slice (some ⟨w.heap.size + 1, 0, none⟩) 14 14), (.slice A n c), (.int .u8 x6), (.int .u8 j), (.pointer (some ⟨w.heap.size + 1, j, none⟩)), (.int .u8 kk), (.slice A n c), (.int .u8 x7), (.string s7), (.slice A n c), (.int .u8 x8), (.int .u8 m8), (.int .i64 m8), (.agg #[.string s0, .int .i64 y1, .int .i64 y2, .int .i64 y3, .int .i64 y4, .int .i64 y5, .int .u8 kk, .string s7, .int .i64 m8, .string ⟨#[]⟩, .string ⟨#[]⟩, .int .i64 0, .int .i64 0, .string ⟨#[]⟩, .slice none 0 0, .bool false, .int .i64 0]), undef, undef, undef, undef, undef, undef, undef, undef, undef, undef, undef, undef, undef, undef, undef, undef, undef, undef, undef, undef, undef, undef, undef, undef, undef, undef, undef, undef, undef, undef, undef, undef, undef, undef, undef, undef, undef, undef, undef, undef, undef, undef, undef, undef, undef, undef, undef, undef, undef, undef, undef, undef, undef, undef, undef, undef, undef, undef, undef, undef, undef, undef, undef, undef, undef, undef, undef, undef, undef, undef, undef, undef, undef, undef, undef, undef], defers := [] } _
    refine loneH (i := 32) 4 rfl rfl (by kernel_rfl) (by rfl) (fun K hK => ?_)
    go_simp
    exact hK.out _ _ (hS.alloc (HLE.out _ hS) _) (fun hS' => by try simp only [Act.put, List.setIfInBounds_toArray, List.set_cons_zero, List.set_cons_succ]; exact hall _ _ hS' ⟨HB.new _ {} (.slice none 0 0), HLE.out _ hS⟩)
  case hend =>
    intro g w2 hS hR
    obtain ⟨hbx, hgw⟩ := hR
    have hst2 := store_row w2 g _ 34 (hcells { name := s0, mode := y1, uid := y2, gid := y3, size := y4, mtime := y5, kind := kk, link := s7, way := m8 } (.slice none 0 0)).toList hbx rfl (by intro v hv; simp [hcells] at hv; rcases hv with rfl | rfl | rfl | rfl | rfl | rfl | rfl | rfl | rfl | rfl | rfl | rfl | rfl | rfl | rfl | rfl | rfl <;> rfl)
    show wpAnyH _ _ _ _ _ 1 #[true, true, true, true, true, true, true, true, true, true, true, true, true, true, true, true, true, true, true, true, true, true, true, true, true, true, true, true, true, true, true, true, true, false] { tmps := #[.slice A n c, undef, .pointer (some ⟨w.heap.size, 0, none⟩), .slice (some ⟨w.heap.size + 1, 0, none⟩) 14 14, .pointer (some ⟨g, 0, none⟩), undef, .slice (some ⟨w.heap.size + 1, 0, none⟩) 14 14, (.slice A n c), (.int .u8 x0), (.string s0), (.slice A n c), (.int .u8 x1), (.int .i64 y1), (.slice A n c), (.int .u8 x2), (.int .i64 y2), (.slice A n c), (.int .u8 x3), (.int .i64 y3), (.slice A n c), (.int .u8 x4), (.int .i64 y4), (.slice A n c), (.int .u8 x5), (.int .i64 y5), (.slice (some ⟨w.heap.size + 1, 0, none⟩) 14 14), (.slice A n c), (.int .u8 x6), (.int .u8 j), (.pointer (some ⟨w.heap.size + 1, j, none⟩)), (.int .u8 kk), (.slice A n c), (.int .u8 x7), (.string s7), (.slice A n c), (.int .u8 x8), (.int .u8 m8), (.int .i64 m8), (.agg (hcells { name := s0, mode := y1, uid := y2, gid := y3, size := y4, mtime := y5, kind := kk, link := s7, way := m8 } (.slice none 0 0))), undef, undef, undef, undef, undef, undef, undef, undef, undef, undef, undef, undef, undef, undef, undef, undef, undef, undef, undef, undef, undef, undef, undef, undef, undef, undef, undef, undef, undef, undef, undef, undef, undef, undef, undef, undef, undef, undef, undef, undef, undef, undef, undef, undef, undef, undef, undef, undef, undef, undef, undef, undef, undef, undef, undef, undef, undef, undef, undef, undef, undef, undef, undef, undef, undef, undef, undef, undef, undef, undef, undef, undef, undef, undef, undef, undef], defers := [] } _
    refine loneN (i := 33) rfl rfl (by kernel_rfl) (by rfl) (fun K hK => ?_)
    go_simp
    have B3 : Below (w.heap.size + 2) w1 (w2.setRow g (hcells { name := s0, mode := y1, uid := y2, gid := y3, size := y4, mtime := y5, kind := kk, link := s7, way := m8 } (.slice none 0 0))) := below_setRow hS hgw _
    have D3 : HD w (w2.setRow g (hcells { name := s0, mode := y1, uid := y2, gid := y3, size := y4, mtime := y5, kind := kk, link := s7, way := m8 } (.slice none 0 0))) g { name := s0, mode := y1, uid := y2, gid := y3, size := y4, mtime := y5, kind := kk, link := s7, way := m8 } (.slice none 0 0) :=
      ⟨setRow_heap _ _ _ _ _ _ hbx, (setRow_other _ _ _ _ (by omega)).trans (HZ.out _ hS).2.1, by omega, PartsIs.nil _ _, Nat.zero_le _, HMB.out, (by intro p hp; cases hp), HKB.out,
        (by have := HYB.out; have := HX.out; dsimp only; omega), ⟨HSB.out.1, HSB.out.2.1, Nat.zero_le _, Nat.zero_le _, Nat.zero_le _⟩, HS.out _ B3⟩
    refine hK.out _ _ B3 (fun hS3 => ?_)
    clear hK K
    refine wpAnyH_done (by kernel_rfl) ?_ _
    have HD3 := hid D3
    clear D3 B3 hS3 hbx hst2 hS
    try simp only [Act.put, List.setIfInBounds_toArray, List.set_cons_zero, List.set_cons_succ]
    generalize (w2.setRow g _) = w3 at *
    obtain ⟨h0, hh0⟩ : ∃ h : M.Hdr, ({ name := s0, mode := y1, uid := y2, gid := y3, size := y4, mtime := y5, kind := kk, link := s7, way := m8 } : M.Hdr) = h := ⟨_, rfl⟩
    have hp0 : h0.parts = [] := by rw [← hh0]
    rw [hh0] at HD3 ⊢
    have HP0 := hid hp0
    clear hh0 hp0 hgw
    go_wp2_with fail
    go_upto_if 41 with ((with_reducible refine (G6.out _ HD3.out.below).mono ?_); rintro e w9 ⟨rfl, rfl⟩)
    go_cut [42] from 42 to 42 (fun _ wc => ∃ h, Hid (HD w wc g h (.slice none 0 0)) ∧ Hid (h.parts = []))
    case first =>
      have f6 := HB.frozen HD3.out.box 6
      have k6 := HD3.out.cell (i := 6) (v := .int .u8 h0.kind) rfl
      by_cases hk6 : 250 < x6
      · go_wp2_with fail
        go_meet
        case rel => exact ⟨_, hid (HD3.out.set (h' := { h0 with kind := 122 }) 6 _ rfl rfl HD3.out.way ⟨show (0 : Int) ≤ 122 by decide, show (122 : Int) ≤ 255 by decide⟩ HD3.out.ints HD3.out.texts), HP0⟩
      · go_wp2_with fail
        go_meet
        case rel => exact ⟨h0, HD3, HP0⟩
    case rest =>
      obtain ⟨h1, HD4, HP4⟩ := hcut
      clear HD3 HP0
      have k6 := HD4.out.cell (i := 6) (v := .int .u8 h1.kind) rfl
      obtain ⟨b83, hb83⟩ : ∃ b, (h1.kind == 83) = b := ⟨_, rfl⟩
      go_upto_if 45 with fail
      clear hb83
      go_cut [5, 45] from 46 to 76 (fun _ _ wc => ∃ h pv, Hid (HD w wc g h pv))
      case first =>
        cases b83
        case true =>
          have k8 := HD4.out.cell (i := 8) (v := .int .i64 h1.way) rfl
          have f8 := HB.frozen HD4.out.box 8
          go_wp2_with fail
          have HD5 := hid (HD4.out.set (h' := { h1 with way := 2 }) 8 (.int .i64 2) rfl rfl ⟨show (0 : Int) ≤ 2 by decide, show (2 : Int) ≤ 2 by decide⟩ HD4.out.kind HD4.out.ints HD4.out.texts)
          have HP5 := hid (show ({ h1 with way := 2 } : M.Hdr).parts = [] from HP4.out)
          generalize ({ h1 with way := 2 } : M.Hdr) = h5 at *
          clear k6 k8 f8
          go_loopw [5] (fun i wr => ∃ (k : Nat) (h2 : M.Hdr) (A1 : Option Addr) (n1 c1 : Nat), i = .int .i64 k ∧ k ≤ 4 ∧ Hid (HD w wr g h2 (.slice A1 n1 c1)) ∧ Hid (OwnP wr (g + 1) (.slice A1 n1 c1) h2.parts) ∧ Hid (h2.parts.length = k)) (fun i _ => 5 - (RowKit.intOf i).toNat)
          case atStart => exact ⟨0, h5, none, 0, 0, rfl, by decide, HD5, hid (by rw [HP5.out]; exact OwnP.nil _ _), hid (by rw [HP5.out]; rfl)⟩
          case round =>
            obtain ⟨k, h2, A1, n1, c1, rfl, hk, HDr, HOr, HLn⟩ := hrel
            clear HD5 HD4 HP5 HP4
            have e5 := E5.out
            have ew5 := EW5.out
            have ei5 := EI5.out
            go_wp2_with fail
            (with_reducible refine (G9.out _ HDr.out.below).mono ?_)
            rintro e w9 ⟨rfl, rfl⟩
            by_cases hkm : k < m9
            · go_wp2_with fail
              obtain ⟨xg, hxg, Gx0⟩ := GI.out (10 + k) (by omega)
              obtain ⟨yg, hyg, Yg0⟩ := HY.out xg hxg
              have Gx := hid (fun (W : World) (hW : Below w.heap.size w W) => (show ((10 + k : Nat) : Int) = 10 + (k : Int) by omega) ▸ Gx0 W hW)
              have Yg := hid Yg0
              have EK5 := hid (show IntKind.i64.wrap (512 * (k : Int)) = 512 * (k : Int) from IntWalk.i64_in _ (by omega))
              have EK1 := hid (show IntKind.i64.wrap (10 + (k : Int)) = 10 + (k : Int) from IntWalk.i64_in _ (by omega))
              have EY := hid (show IntKind.i64.wrap (1 + yg) = 1 + yg from IntWalk.i64_in _ (by omega))
              have HPQ := hid (show (-9223372036854775808 ≤ (512 * (k : Int)) ∧ (512 * (k : Int)) ≤ 9223372036854775807) ∧ (-9223372036854775808 ≤ 1 + yg ∧ 1 + yg ≤ 9223372036854775807) by omega)
              clear Gx0 Yg0 hxg hyg e5 ew5 ei5
              refine wp_region_held_drew (S := fun W => Below g wr W) (by kernel_rfl) (below_drw (Below.refl _ _)) (fun hS => ?_)
              have HOc := hid (OwnP.later HOr.out (below_drw (Below.refl _ _)))
              have HDc := hid (HDr.out.later (below_drw (Below.refl _ _)))
              clear HOr HDr
              refine takeH (i := 0) (v := .pointer (some ⟨g, 14, none⟩)) 55 rfl rfl (by kernel_rfl) (by kernel_rfl) (by kernel_rfl) (fun _ _ _ h => h) (by rfl) ?hz0z hS ?rz0z
              case hz0z => (intro W hW; clear hW; go_simp; first | done | with_reducible rfl)
              try simp only [Act.put, List.setIfInBounds_toArray, List.set_cons_zero, List.set_cons_succ]
              refine takeH (i := 2) (v := .int .i64 (k : Int)) 57 rfl rfl (by kernel_rfl) (by kernel_rfl) (by kernel_rfl) (fun _ _ _ h => h) (by rfl) ?hz2z hS ?rz2z
              case hz2z => (intro W hW; clear hW; go_simp; first | done | with_reducible rfl)
              try simp only [Act.put, List.setIfInBounds_toArray, List.set_cons_zero, List.set_cons_succ]
              refine takeH (i := 3) (v := .int .i64 (512 * (k : Int))) 58 rfl rfl (by kernel_rfl) (by kernel_rfl) (by kernel_rfl) (fun _ _ _ h => h) (by rfl) ?hz3z hS ?rz3z
              case hz3z => (intro W hW; have f0 := EK5.out; clear hW; go_simp; first | done | with_reducible rfl)
              try simp only [Act.put, List.setIfInBounds_toArray, List.set_cons_zero, List.set_cons_succ]
              refine takeH (i := 4) (v := .slice A n c) 59 rfl rfl (by kernel_rfl) (by kernel_rfl) (by kernel_rfl) (fun _ _ _ h => h) (by rfl) ?hz4z hS ?rz4z
              case hz4z => (intro W hW; clear hW; go_simp; first | done | with_reducible rfl)
              try simp only [Act.put, List.setIfInBounds_toArray, List.set_cons_zero, List.set_cons_succ]
              refine takeH (i := 5) (v := .int .i64 (k : Int)) 60 rfl rfl (by kernel_rfl) (by kernel_rfl) (by kernel_rfl) (fun _ _ _ h => h) (by rfl) ?hz5z hS ?rz5z
              case hz5z => (intro W hW; clear hW; go_simp; first | done | with_reducible rfl)
              try simp only [Act.put, List.setIfInBounds_toArray, List.set_cons_zero, List.set_cons_succ]
              refine takeH (i := 6) (v := .int .i64 (10 + (k : Int))) 61 rfl rfl (by kernel_rfl) (by kernel_rfl) (by kernel_rfl) (fun _ _ _ h => h) (by rfl) ?hz6z hS ?rz6z
              case hz6z => (intro W hW; have f0 := EK1.out; clear hW; go_simp; first | done | with_reducible rfl)
              try simp only [Act.put, List.setIfInBounds_toArray, List.set_cons_zero, List.set_cons_succ]
              refine twoH (i := 1) (j := 7) 56 62 rfl rfl rfl rfl (by kernel_rfl) (by rfl) (by rfl) (fun K hK => ?_) (fun K hK => ?_)
              · skip
                have k14 := HDc.out.cell (i := 14) (v := .slice A1 n1 c1) rfl
                go_simp
                refine hK.out _ _ hS (fun hS => ?_)
                clear hK K k14
                try simp only [Act.put, List.setIfInBounds_toArray, List.set_cons_zero, List.set_cons_succ]
                refine loneH (i := 7) 62 rfl rfl (by kernel_rfl) (by rfl) (fun K hK => ?_)
                go_simp
                (with_reducible refine (Gx.out _ HDc.out.below).mono ?_)
                rintro e w9 ⟨rfl, rfl⟩
                refine hK.out _ _ hS (fun hS => ?_)
                clear hK K
                try simp only [Act.put, List.setIfInBounds_toArray, List.set_cons_zero, List.set_cons_succ]
                refine loneH (i := 8) 63 rfl rfl (by kernel_rfl) (by rfl) (fun K hK => ?_)
                go_simp
                (with_reducible refine (Yg.out _).mono ?_)
                rintro e w4 ⟨rfl, b4⟩
                have HOc := hid (OwnP.later HOc.out b4)
                have B4 := hS.trans (b4.mono (Nat.le_of_lt (HB.lt HDc.out.box)))
                have HDc := hid (HDc.out.later b4)
                clear b4
                refine hK.out _ _ B4 (fun hS => ?_)
                clear hK K B4
                try simp only [Act.put, List.setIfInBounds_toArray, List.set_cons_zero, List.set_cons_succ]
                refine takeH (i := 9) (v := .int .i64 (1 + yg)) 64 rfl rfl (by kernel_rfl) (by kernel_rfl) (by kernel_rfl) (fun _ _ _ h => h) (by rfl) ?hz9m1 hS ?rz9m1
                case hz9m1 => (intro W hW; have f0 := EY.out; clear hW; go_simp; first | done | with_reducible rfl)
                try simp only [Act.put, List.setIfInBounds_toArray, List.set_cons_zero, List.set_cons_succ]
                refine takeH (i := 10) (v := .agg #[.int .i64 (512 * (k : Int)), .int .i64 (1 + yg)]) 65 rfl rfl (by kernel_rfl) (by kernel_rfl) (by kernel_rfl) (fun _ _ _ h => h) (by rfl) ?hz10m1 hS ?rz10m1
                case hz10m1 => (intro W hW; clear hW; go_simp; first | done | with_reducible rfl)
                try simp only [Act.put, List.setIfInBounds_toArray, List.set_cons_zero, List.set_cons_succ]
                refine loneH (i := 11) 66 rfl rfl (by kernel_rfl) (by rfl) (fun K hK => ?_)
                go_simp
                have HBk := hid (heap_alloc_new w4 (.cells #[.int .i64 (512 * (k : Int)), .int .i64 (1 + yg)] 66))
                have bA : Below w4.heap.size w4 (w4.alloc (.cells #[.int .i64 (512 * (k : Int)), .int .i64 (1 + yg)] 66)) := (Below.refl _ _).alloc (Nat.le_refl _) _
                have B4 := hS.trans (bA.mono (Nat.le_of_lt (HB.lt HDc.out.box)))
                have HOc := hid (OwnP.later HOc.out bA)
                have HDc := hid (HDc.out.later bA)
                refine hK.out _ _ B4 (fun hS => ?_)
                clear hK K B4 bA
                try simp only [Act.put, List.setIfInBounds_toArray, List.set_cons_zero, List.set_cons_succ]
                refine loneH (i := 12) 67 rfl rfl (by kernel_rfl) (by rfl) (fun K hK => ?_)
                refine wp_appP (.tmp 56) (.tmp 66) rfl (g + 1) (.slice A1 n1 c1) h2.parts _ _ rfl HOc.out (HB.lt HDc.out.box) _ rfl HBk.out (by have := HLn.out; omega) ?_
                intro v' w5 ho5 hb5
                obtain ⟨A5, c5, hv5, _, _⟩ := ho5.out.parts
                generalize (h2.parts ++ [_]).length = n5 at hv5
                subst hv5
                have HN := hid (HDc.out.next ho5.out hb5.out (by have := HLn.out; omega) HPQ.out.1 HPQ.out.2)
                have k14 : w5.cell? ⟨g, 14, none⟩ = some (.slice A1 n1 c1) := (hb5.out.cell (p := ⟨g, 14, none⟩) (Nat.lt_succ_self _)).trans (HDc.out.cell (i := 14) rfl)
                have f14 : w5.frozen? ⟨g, 14, none⟩ = false := HB.frozen (HB.below HDc.out.box hb5.out (Nat.lt_succ_self _)) 14
                have B5 := hS.trans (hb5.out.mono (Nat.le_succ _))
                clear ho5 hb5 HBk HOc HDc
                refine hK.out _ _ B5 (fun hS => ?_)
                clear hK K B5
                try simp only [Act.put, List.setIfInBounds_toArray, List.set_cons_zero, List.set_cons_succ]
                refine takeH (i := 13) (v := .pointer (some ⟨g, 14, none⟩)) 68 rfl rfl (by kernel_rfl) (by kernel_rfl) (by kernel_rfl) (fun _ _ _ h => h) (by rfl) ?hz13f2 hS ?rz13f2
                case hz13f2 => (intro W hW; clear hW; go_simp; first | done | with_reducible rfl)
                try simp only [Act.put, List.setIfInBounds_toArray, List.set_cons_zero, List.set_cons_succ]
                refine loneN (i := 14) rfl rfl (by kernel_rfl) (by rfl) (fun K hK => ?_)
                go_simp
                refine hK.out _ _ (hS.setCell (p := ⟨g, 14, none⟩) (Nat.le_refl _) _) (fun hS => ?_)
                clear hK K hS
                refine wpAnyH_done (by kernel_rfl) ?_ _
                try simp only [Act.put, List.setIfInBounds_toArray, List.set_cons_zero, List.set_cons_succ]
                go_wp2_with fail
                go_roundw
                case rel => exact ⟨k + 1, _, A5, n5, c5, (show Value.int .i64 _ = Value.int .i64 ((k + 1 : Nat) : Int) by go_num), by have := HM9.out; omega, hid HN.out.1, hid HN.out.2, hid (by show (h2.parts ++ [_]).length = k + 1; rw [List.length_append, HLn.out]; rfl)⟩
                case measure => simp [RowKit.intOf]; omega
              · skip
                go_simp
                (with_reducible refine (Gx.out _ HDc.out.below).mono ?_)
                rintro e w9 ⟨rfl, rfl⟩
                refine hK.out _ _ hS (fun hS => ?_)
                clear hK K
                try simp only [Act.put, List.setIfInBounds_toArray, List.set_cons_zero, List.set_cons_succ]
                refine twoH (i := 1) (j := 8) 56 63 rfl rfl rfl rfl (by kernel_rfl) (by rfl) (by rfl) (fun K hK => ?_) (fun K hK => ?_)
                · skip
                  have k14 := HDc.out.cell (i := 14) (v := .slice A1 n1 c1) rfl
                  go_simp
                  refine hK.out _ _ hS (fun hS => ?_)
                  clear hK K k14
                  try simp only [Act.put, List.setIfInBounds_toArray, List.set_cons_zero, List.set_cons_succ]
                  refine loneH (i := 8) 63 rfl rfl (by kernel_rfl) (by rfl) (fun K hK => ?_)
                  go_simp
                  (with_reducible refine (Yg.out _).mono ?_)
                  rintro e w4 ⟨rfl, b4⟩
                  have HOc := hid (OwnP.later HOc.out b4)
                  have B4 := hS.trans (b4.mono (Nat.le_of_lt (HB.lt HDc.out.box)))
                  have HDc := hid (HDc.out.later b4)
                  clear b4
                  refine hK.out _ _ B4 (fun hS => ?_)
                  clear hK K B4
                  try simp only [Act.put, List.setIfInBounds_toArray, List.set_cons_zero, List.set_cons_succ]
                  refine takeH (i := 9) (v := .int .i64 (1 + yg)) 64 rfl rfl (by kernel_rfl) (by kernel_rfl) (by kernel_rfl) (fun _ _ _ h => h) (by rfl) ?hz9m3 hS ?rz9m3
                  case hz9m3 => (intro W hW; have f0 := EY.out; clear hW; go_simp; first | done | with_reducible rfl)
                  try simp only [Act.put, List.setIfInBounds_toArray, List.set_cons_zero, List.set_cons_succ]
                  refine takeH (i := 10) (v := .agg #[.int .i64 (512 * (k : Int)), .int .i64 (1 + yg)]) 65 rfl rfl (by kernel_rfl) (by kernel_rfl) (by kernel_rfl) (fun _ _ _ h => h) (by rfl) ?hz10m3 hS ?rz10m3
                  case hz10m3 => (intro W hW; clear hW; go_simp; first | done | with_reducible rfl)
                  try simp only [Act.put, List.setIfInBounds_toArray, List.set_cons_zero, List.set_cons_succ]
                  refine loneH (i := 11) 66 rfl rfl (by kernel_rfl) (by rfl) (fun K hK => ?_)
                  go_simp
                  have HBk := hid (heap_alloc_new w4 (.cells #[.int .i64 (512 * (k : Int)), .int .i64 (1 + yg)] 66))
                  have bA : Below w4.heap.size w4 (w4.alloc (.cells #[.int .i64 (512 * (k : Int)), .int .i64 (1 + yg)] 66)) := (Below.refl _ _).alloc (Nat.le_refl _) _
                  have B4 := hS.trans (bA.mono (Nat.le_of_lt (HB.lt HDc.out.box)))
                  have HOc := hid (OwnP.later HOc.out bA)
                  have HDc := hid (HDc.out.later bA)
                  refine hK.out _ _ B4 (fun hS => ?_)
                  clear hK K B4 bA
                  try simp only [Act.put, List.setIfInBounds_toArray, List.set_cons_zero, List.set_cons_succ]
                  refine loneH (i := 12) 67 rfl rfl (by kernel_rfl) (by rfl) (fun K hK => ?_)
                  refine wp_appP (.tmp 56) (.tmp 66) rfl (g + 1) (.slice A1 n1 c1) h2.parts _ _ rfl HOc.out (HB.lt HDc.out.box) _ rfl HBk.out (by have := HLn.out; omega) ?_
                  intro v' w5 ho5 hb5
                  obtain ⟨A5, c5, hv5, _, _⟩ := ho5.out.parts
                  generalize (h2.parts ++ [_]).length = n5 at hv5
                  subst hv5
                  have HN := hid (HDc.out.next ho5.out hb5.out (by have := HLn.out; omega) HPQ.out.1 HPQ.out.2)
                  have k14 : w5.cell? ⟨g, 14, none⟩ = some (.slice A1 n1 c1) := (hb5.out.cell (p := ⟨g, 14, none⟩) (Nat.lt_succ_self _)).trans (HDc.out.cell (i := 14) rfl)
                  have f14 : w5.frozen? ⟨g, 14, none⟩ = false := HB.frozen (HB.below HDc.out.box hb5.out (Nat.lt_succ_self _)) 14
                  have B5 := hS.trans (hb5.out.mono (Nat.le_succ _))
                  clear ho5 hb5 HBk HOc HDc
                  refine hK.out _ _ B5 (fun hS => ?_)
                  clear hK K B5
                  try simp only [Act.put, List.setIfInBounds_toArray, List.set_cons_zero, List.set_cons_succ]
                  refine takeH (i := 13) (v := .pointer (some ⟨g, 14, none⟩)) 68 rfl rfl (by kernel_rfl) (by kernel_rfl) (by kernel_rfl) (fun _ _ _ h => h) (by rfl) ?hz13f4 hS ?rz13f4
                  case hz13f4 => (intro W hW; clear hW; go_simp; first | done | with_reducible rfl)
                  try simp only [Act.put, List.setIfInBounds_toArray, List.set_cons_zero, List.set_cons_succ]
                  refine loneN (i := 14) rfl rfl (by kernel_rfl) (by rfl) (fun K hK => ?_)
                  go_simp
                  refine hK.out _ _ (hS.setCell (p := ⟨g, 14, none⟩) (Nat.le_refl _) _) (fun hS => ?_)
                  clear hK K hS
                  refine wpAnyH_done (by kernel_rfl) ?_ _
                  try simp only [Act.put, List.setIfInBounds_toArray, List.set_cons_zero, List.set_cons_succ]
                  go_wp2_with fail
                  go_roundw
                  case rel => exact ⟨k + 1, _, A5, n5, c5, (show Value.int .i64 _ = Value.int .i64 ((k + 1 : Nat) : Int) by go_num), by have := HM9.out; omega, hid HN.out.1, hid HN.out.2, hid (by show (h2.parts ++ [_]).length = k + 1; rw [List.length_append, HLn.out]; rfl)⟩
                  case measure => simp [RowKit.intOf]; omega
                · skip
                  go_simp
                  (with_reducible refine (Yg.out _).mono ?_)
                  rintro e w4 ⟨rfl, b4⟩
                  have HOc := hid (OwnP.later HOc.out b4)
                  have B4 := hS.trans (b4.mono (Nat.le_of_lt (HB.lt HDc.out.box)))
                  have HDc := hid (HDc.out.later b4)
                  clear b4
                  refine hK.out _ _ B4 (fun hS => ?_)
                  clear hK K B4
                  try simp only [Act.put, List.setIfInBounds_toArray, List.set_cons_zero, List.set_cons_succ]
                  refine takeH (i := 9) (v := .int .i64 (1 + yg)) 64 rfl rfl (by kernel_rfl) (by kernel_rfl) (by kernel_rfl) (fun _ _ _ h => h) (by rfl) ?hz9m5 hS ?rz9m5
                  case hz9m5 => (intro W hW; have f0 := EY.out; clear hW; go_simp; first | done | with_reducible rfl)
                  try simp only [Act.put, List.setIfInBounds_toArray, List.set_cons_zero, List.set_cons_succ]
                  refine takeH (i := 10) (v := .agg #[.int .i64 (512 * (k : Int)), .int .i64 (1 + yg)]) 65 rfl rfl (by kernel_rfl) (by kernel_rfl) (by kernel_rfl) (fun _ _ _ h => h) (by rfl) ?hz10m5 hS ?rz10m5
                  case hz10m5 => (intro W hW; clear hW; go_simp; first | done | with_reducible rfl)
                  try simp only [Act.put, List.setIfInBounds_toArray, List.set_cons_zero, List.set_cons_succ]
                  refine twoH (i := 1) (j := 11) 56 66 rfl rfl rfl rfl (by kernel_rfl) (by rfl) (by rfl) (fun K hK => ?_) (fun K hK => ?_)
                  · skip
                    have k14 := HDc.out.cell (i := 14) (v := .slice A1 n1 c1) rfl
                    go_simp
                    refine hK.out _ _ hS (fun hS => ?_)
                    clear hK K k14
                    try simp only [Act.put, List.setIfInBounds_toArray, List.set_cons_zero, List.set_cons_succ]
                    refine loneH (i := 11) 66 rfl rfl (by kernel_rfl) (by rfl) (fun K hK => ?_)
                    go_simp
                    have HBk := hid (heap_alloc_new w4 (.cells #[.int .i64 (512 * (k : Int)), .int .i64 (1 + yg)] 66))
                    have bA : Below w4.heap.size w4 (w4.alloc (.cells #[.int .i64 (512 * (k : Int)), .int .i64 (1 + yg)] 66)) := (Below.refl _ _).alloc (Nat.le_refl _) _
                    have B4 := hS.trans (bA.mono (Nat.le_of_lt (HB.lt HDc.out.box)))
                    have HOc := hid (OwnP.later HOc.out bA)
                    have HDc := hid (HDc.out.later bA)
                    refine hK.out _ _ B4 (fun hS => ?_)
                    clear hK K B4 bA
                    try simp only [Act.put, List.setIfInBounds_toArray, List.set_cons_zero, List.set_cons_succ]
                    refine loneH (i := 12) 67 rfl rfl (by kernel_rfl) (by rfl) (fun K hK => ?_)
                    refine wp_appP (.tmp 56) (.tmp 66) rfl (g + 1) (.slice A1 n1 c1) h2.parts _ _ rfl HOc.out (HB.lt HDc.out.box) _ rfl HBk.out (by have := HLn.out; omega) ?_
                    intro v' w5 ho5 hb5
                    obtain ⟨A5, c5, hv5, _, _⟩ := ho5.out.parts
                    generalize (h2.parts ++ [_]).length = n5 at hv5
                    subst hv5
                    have HN := hid (HDc.out.next ho5.out hb5.out (by have := HLn.out; omega) HPQ.out.1 HPQ.out.2)
                    have k14 : w5.cell? ⟨g, 14, none⟩ = some (.slice A1 n1 c1) := (hb5.out.cell (p := ⟨g, 14, none⟩) (Nat.lt_succ_self _)).trans (HDc.out.cell (i := 14) rfl)
                    have f14 : w5.frozen? ⟨g, 14, none⟩ = false := HB.frozen (HB.below HDc.out.box hb5.out (Nat.lt_succ_self _)) 14
                    have B5 := hS.trans (hb5.out.mono (Nat.le_succ _))
                    clear ho5 hb5 HBk HOc HDc
                    refine hK.out _ _ B5 (fun hS => ?_)
                    clear hK K B5
                    try simp only [Act.put, List.setIfInBounds_toArray, List.set_cons_zero, List.set_cons_succ]
                    refine takeH (i := 13) (v := .pointer (some ⟨g, 14, none⟩)) 68 rfl rfl (by kernel_rfl) (by kernel_rfl) (by kernel_rfl) (fun _ _ _ h => h) (by rfl) ?hz13f6 hS ?rz13f6
                    case hz13f6 => (intro W hW; clear hW; go_simp; first | done | with_reducible rfl)
                    try simp only [Act.put, List.setIfInBounds_toArray, List.set_cons_zero, List.set_cons_succ]
                    refine loneN (i := 14) rfl rfl (by kernel_rfl) (by rfl) (fun K hK => ?_)
                    go_simp
                    refine hK.out _ _ (hS.setCell (p := ⟨g, 14, none⟩) (Nat.le_refl _) _) (fun hS => ?_)
                    clear hK K hS
                    refine wpAnyH_done (by kernel_rfl) ?_ _
                    try simp only [Act.put, List.setIfInBounds_toArray, List.set_cons_zero, List.set_cons_succ]
                    go_wp2_with fail
                    go_roundw
                    case rel => exact ⟨k + 1, _, A5, n5, c5, (show Value.int .i64 _ = Value.int .i64 ((k + 1 : Nat) : Int) by go_num), by have := HM9.out; omega, hid HN.out.1, hid HN.out.2, hid (by show (h2.parts ++ [_]).length = k + 1; rw [List.length_append, HLn.out]; rfl)⟩
                    case measure => simp [RowKit.intOf]; omega
                  · skip
                    go_simp
                    have HBk := hid (heap_alloc_new w4 (.cells #[.int .i64 (512 * (k : Int)), .int .i64 (1 + yg)] 66))
                    have bA : Below w4.heap.size w4 (w4.alloc (.cells #[.int .i64 (512 * (k : Int)), .int .i64 (1 + yg)] 66)) := (Below.refl _ _).alloc (Nat.le_refl _) _
                    have B4 := hS.trans (bA.mono (Nat.le_of_lt (HB.lt HDc.out.box)))
                    have HOc := hid (OwnP.later HOc.out bA)
                    have HDc := hid (HDc.out.later bA)
                    refine hK.out _ _ B4 (fun hS => ?_)
                    clear hK K B4 bA
                    try simp only [Act.put, List.setIfInBounds_toArray, List.set_cons_zero, List.set_cons_succ]
                    refine loneH (i := 1) 56 rfl rfl (by kernel_rfl) (by rfl) (fun K hK => ?_)
                    have k14 := HDc.out.cell (i := 14) (v := .slice A1 n1 c1) rfl
                    go_simp
                    refine hK.out _ _ hS (fun hS => ?_)
                    clear hK K k14
                    try simp only [Act.put, List.setIfInBounds_toArray, List.set_cons_zero, List.set_cons_succ]
                    refine loneH (i := 12) 67 rfl rfl (by kernel_rfl) (by rfl) (fun K hK => ?_)
                    refine wp_appP (.tmp 56) (.tmp 66) rfl (g + 1) (.slice A1 n1 c1) h2.parts _ _ rfl HOc.out (HB.lt HDc.out.box) _ rfl HBk.out (by have := HLn.out; omega) ?_
                    intro v' w5 ho5 hb5
                    obtain ⟨A5, c5, hv5, _, _⟩ := ho5.out.parts
                    generalize (h2.parts ++ [_]).length = n5 at hv5
                    subst hv5
                    have HN := hid (HDc.out.next ho5.out hb5.out (by have := HLn.out; omega) HPQ.out.1 HPQ.out.2)
                    have k14 : w5.cell? ⟨g, 14, none⟩ = some (.slice A1 n1 c1) := (hb5.out.cell (p := ⟨g, 14, none⟩) (Nat.lt_succ_self _)).trans (HDc.out.cell (i := 14) rfl)
                    have f14 : w5.frozen? ⟨g, 14, none⟩ = false := HB.frozen (HB.below HDc.out.box hb5.out (Nat.lt_succ_self _)) 14
                    have B5 := hS.trans (hb5.out.mono (Nat.le_succ _))
                    clear ho5 hb5 HBk HOc HDc
                    refine hK.out _ _ B5 (fun hS => ?_)
                    clear hK K B5
                    try simp only [Act.put, List.setIfInBounds_toArray, List.set_cons_zero, List.set_cons_succ]
                    refine takeH (i := 13) (v := .pointer (some ⟨g, 14, none⟩)) 68 rfl rfl (by kernel_rfl) (by kernel_rfl) (by kernel_rfl) (fun _ _ _ h => h) (by rfl) ?hz13f7 hS ?rz13f7
                    case hz13f7 => (intro W hW; clear hW; go_simp; first | done | with_reducible rfl)
                    try simp only [Act.put, List.setIfInBounds_toArray, List.set_cons_zero, List.set_cons_succ]
                    refine loneN (i := 14) rfl rfl (by kernel_rfl) (by rfl) (fun K hK => ?_)
                    go_simp
                    refine hK.out _ _ (hS.setCell (p := ⟨g, 14, none⟩) (Nat.le_refl _) _) (fun hS => ?_)
                    clear hK K hS
                    refine wpAnyH_done (by kernel_rfl) ?_ _
                    try simp only [Act.put, List.setIfInBounds_toArray, List.set_cons_zero, List.set_cons_succ]
                    go_wp2_with fail
                    go_roundw
                    case rel => exact ⟨k + 1, _, A5, n5, c5, (show Value.int .i64 _ = Value.int .i64 ((k + 1 : Nat) : Int) by go_num), by have := HM9.out; omega, hid HN.out.1, hid HN.out.2, hid (by show (h2.parts ++ [_]).length = k + 1; rw [List.length_append, HLn.out]; rfl)⟩
                    case measure => simp [RowKit.intOf]; omega
            · go_wp2_with fail
              (with_reducible refine (G9.out _ HDr.out.below).mono ?_)
              rintro e w9 ⟨rfl, rfl⟩
              have k15 := HDr.out.cell (i := 15) (v := .bool h2.more) rfl
              have f15 := HB.frozen HDr.out.box 15
              go_wp2_with fail
              have HD7 := hid (HDr.out.set (h' := { h2 with more := decide (128 < x9) }) 15 (.bool (decide (128 < x9))) rfl rfl HDr.out.way HDr.out.kind HDr.out.ints HDr.out.texts)
              generalize ({ h2 with more := decide (128 < x9) } : M.Hdr) = h7 at *
              generalize wr.setCell _ _ = w7 at *
              clear k15 f15 HDr HOr HLn
              (with_reducible refine (G14.out _ HD7.out.below).mono ?_)
              rintro e w9 ⟨rfl, rfl⟩
              go_wp2_with fail
              (with_reducible refine (Y14.out _).mono ?_)
              rintro e w8 ⟨rfl, b8⟩
              have HD8 := hid (HD7.out.later b8)
              have k16 := HD8.out.cell (i := 16) (v := .int .i64 h7.real) rfl
              have f16 := HB.frozen HD8.out.box 16
              clear b8 HD7
              go_wp2_with fail
              go_meet
              case rel => exact ⟨_, _, hid (HD8.out.set (h' := { h7 with real := y14 }) 16 (.int .i64 y14) rfl rfl HD8.out.way HD8.out.kind (by have := HD8.out.ints; have := HYB.out; dsimp only; omega) HD8.out.texts)⟩
        case false =>
          go_wp2_with fail
          go_meet
          case rel => exact ⟨h1, _, HD4⟩
      case rest =>
        obtain ⟨h6, pv6, HD6⟩ := hcut
        clear HD4 HP4 k6
        have k8 := HD6.out.cell (i := 8) (v := .int .i64 h6.way) rfl
        go_upto_region 13 with fail
        go_cut [84] from 77 to 84 (fun s84 wx => ∃ b : Bool, s84 = .bool b ∧ Hid (HD w wx g h6 pv6))
        case first =>
          by_cases hw0 : 0 < h6.way
          · go_wp2_with fail
            go_meet
            case rel => exact ⟨true, rfl, HD6⟩
          · go_wp2_with ((with_reducible refine (G8.out _ HD6.out.below).mono ?_); rintro e w9 ⟨rfl, rfl⟩)
            go_meet
            case rel => exact ⟨decide (240 < x8), rfl, HD6⟩
        case rest =>
          obtain ⟨b13, rfl, HDa⟩ := hcut
          clear HD6 k8
          go_upto_if 84 with fail
          go_cut [85] from 85 to 101 (fun _ wx => ∃ h, Hid (HD w wx g h pv6))
          case first =>
            cases b13
            case true =>
              go_wp2_with fail
              (with_reducible refine (G15.out _ HDa.out.below).mono ?_)
              rintro e w9 ⟨rfl, rfl⟩
              go_wp2_with fail
              (with_reducible refine (N15.out _).mono ?_)
              rintro e w70 ⟨rfl, b7⟩
              have HDb7 := hid (HDa.out.later b7)
              have kk9 := HDb7.out.cell (i := 9) (v := .string h6.user) rfl
              have ff9 := HB.frozen HDb7.out.box 9
              clear b7 HDa
              go_wp2_with fail
              have HDc7 := hid (HDb7.out.set (h' := { h6 with user := s15 }) 9 (.string s15) rfl rfl HDb7.out.way HDb7.out.kind HDb7.out.ints ⟨HDb7.out.texts.1, HDb7.out.texts.2.1, HSB.out.2.2.1, HDb7.out.texts.2.2.2.1, HDb7.out.texts.2.2.2.2⟩)
              generalize ({ h6 with user := s15 } : M.Hdr) = h70 at *
              generalize w70.setCell _ _ = w71 at *
              clear kk9 ff9 HDb7
              (with_reducible refine (G16.out _ HDc7.out.below).mono ?_)
              rintro e w9 ⟨rfl, rfl⟩
              go_wp2_with fail
              (with_reducible refine (N16.out _).mono ?_)
              rintro e w80 ⟨rfl, b8⟩
              have HDb8 := hid (HDc7.out.later b8)
              have kk10 := HDb8.out.cell (i := 10) (v := .string h70.group) rfl
              have ff10 := HB.frozen HDb8.out.box 10
              clear b8 HDc7
              go_wp2_with fail
              have HDc8 := hid (HDb8.out.set (h' := { h70 with group := s16 }) 10 (.string s16) rfl rfl HDb8.out.way HDb8.out.kind HDb8.out.ints ⟨HDb8.out.texts.1, HDb8.out.texts.2.1, HDb8.out.texts.2.2.1, HSB.out.2.2.2.1, HDb8.out.texts.2.2.2.2⟩)
              generalize ({ h70 with group := s16 } : M.Hdr) = h80 at *
              generalize w80.setCell _ _ = w81 at *
              clear kk10 ff10 HDb8
              (with_reducible refine (G17.out _ HDc8.out.below).mono ?_)
              rintro e w9 ⟨rfl, rfl⟩
              go_wp2_with fail
              (with_reducible refine (Y17.out _).mono ?_)
              rintro e w90 ⟨rfl, b9⟩
              have HDb9 := hid (HDc8.out.later b9)
              have kk11 := HDb9.out.cell (i := 11) (v := .int .i64 h80.major) rfl
              have ff11 := HB.frozen HDb9.out.box 11
              have e17 := E17.out
              have ew17 := EW17.out
              clear b9 HDc8
              go_wp2_with fail
              have HDc9 := hid (HDb9.out.set (h' := { h80 with major := t17 }) 11 (.int .i64 t17) rfl rfl HDb9.out.way HDb9.out.kind (by have := HDb9.out.ints; have := BT17.out; dsimp only; omega) HDb9.out.texts)
              generalize ({ h80 with major := t17 } : M.Hdr) = h90 at *
              generalize w90.setCell _ _ = w91 at *
              clear kk11 ff11 HDb9 e17 ew17
              (with_reducible refine (G18.out _ HDc9.out.below).mono ?_)
              rintro e w9 ⟨rfl, rfl⟩
              have kk12 := HDc9.out.cell (i := 12) (v := .int .i64 h90.minor) rfl
              have ff12 := HB.frozen HDc9.out.box 12
              have ew18 := EW18.out
              go_wp2_with fail
              go_meet
              case rel => exact ⟨_, hid (HDc9.out.set (h' := { h90 with minor := x18 }) 12 (.int .i64 x18) rfl rfl HDc9.out.way HDc9.out.kind (by have := HDc9.out.ints; have := HX.out; dsimp only; omega) HDc9.out.texts)⟩
            case false =>
              go_wp2_with fail
              go_meet
              case rel => exact ⟨h6, HDa⟩
          case rest =>
            obtain ⟨hx, HDd⟩ := hcut
            clear HDa
            have k8 := HDd.out.cell (i := 8) (v := .int .i64 hx.way) rfl
            go_upto_region 18 with fail
            go_cut [109] from 102 to 109 (fun s109 wx => ∃ b : Bool, s109 = .bool b ∧ Hid (HD w wx g hx pv6))
            case first =>
              by_cases hw1 : hx.way = 1
              · have hwb : (hx.way == 1) = true := by simp [hw1]
                clear hw1
                go_wp2_with fail
                go_meet
                case rel => exact ⟨true, rfl, HDd⟩
              · have hwb : (hx.way == 1) = false := by simp [hw1]
                clear hw1
                go_wp2_with ((with_reducible refine (G8.out _ HDd.out.below).mono ?_); rintro e w9 ⟨rfl, rfl⟩)
                go_meet
                case rel => exact ⟨decide (250 < x8), rfl, HDd⟩
            case rest =>
              obtain ⟨b18, rfl, HDe⟩ := hcut
              clear HDd k8
              go_upto_if 109 with fail
              go_cut [110] from 110 to 113 (fun _ wx => ∃ h, Hid (HD w wx g h pv6))
              case first =>
                cases b18
                case true =>
                  go_wp2_with fail
                  (with_reducible refine (G19.out _ HDe.out.below).mono ?_)
                  rintro e w9 ⟨rfl, rfl⟩
                  go_wp2_with fail
                  (with_reducible refine (N19.out _).mono ?_)
                  rintro e w60 ⟨rfl, b6⟩
                  have HDb6 := hid (HDe.out.later b6)
                  have kk13 := HDb6.out.cell (i := 13) (v := .string hx.pre) rfl
                  have ff13 := HB.frozen HDb6.out.box 13
                  clear b6 HDe
                  go_wp2_with fail
                  have HDc6 := hid (HDb6.out.set (h' := { hx with pre := s19 }) 13 (.string s19) rfl rfl HDb6.out.way HDb6.out.kind HDb6.out.ints ⟨HDb6.out.texts.1, HDb6.out.texts.2.1, HDb6.out.texts.2.2.1, HDb6.out.texts.2.2.2.1, HSB.out.2.2.2.2⟩)
                  go_meet
                  case rel => exact ⟨_, HDc6⟩
                case false =>
                  go_wp2_with fail
                  go_meet
                  case rel => exact ⟨hx, HDe⟩
              case rest =>
                obtain ⟨hf, HDf⟩ := hcut
                clear HDe
                obtain ⟨Af, cf, rfl, _, _⟩ := HDf.out.own
                go_wp2_with (first | (refine wpList_load_row rfl 34 (.tmp 4) rfl g (by rfl) 34 (hcells hf (.slice Af hf.parts.length cf)) (0, 0) _ HDf.out.box Tryz.underlying34 rfl hdr_size ?_) | (refine wpList_store_row rfl 34 (.tmp 2) (.tmp 114) rfl w.heap.size (hcells hf (.slice Af hf.parts.length cf)) (by rfl) (by rfl) 34 _ HDf.out.res hdr_size rfl (hcells_one _ rfl) ?_))
                refine bodyPost_ret (results_row rfl rfl Tryz.underlying34 (by rfl) (setRow_heap _ _ _ _ _ _ HDf.out.res) hdr_size) rfl ⟨hf, _, rfl, ?_, HDf.out.few, HDf.out.way, below_setRow HDf.out.below (Nat.le_refl _) _⟩
                exact ⟨PartsB.mono (PartsIs.in_ (HDf.out.own.row _ (by have := HDf.out.apart; omega) _)) (by simp), HDf.out.nums, HDf.out.kind, HDf.out.ints, HDf.out.texts⟩
end Go.Proofs.YtbhpedhdhgjkoaaGreatDoor.Hd
