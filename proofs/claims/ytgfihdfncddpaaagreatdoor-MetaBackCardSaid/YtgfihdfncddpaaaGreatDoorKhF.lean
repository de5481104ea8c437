/-
  Texts of one chapter, merged.
-/
import Derived.Test.YtgfihdfncddpaaaGreatDoorKhA0
import Derived.Test.YtgfihdfncddpaaaGreatDoorShelf
import Derived.Lib.Hide
import Derived.WalkKit
import Derived.IntWalk
import Derived.LoopTactic
import Derived.Laws.BytesString
import Derived.Laws.IdiomStrings
import Derived.Laws.MakeOwn
import Derived.Deep.OwnRows
import Derived.Deep.WholeRow
import Derived.Lib.BufferWrite
import Derived.Lib.SlBytesConst
import Derived.Lib.Bytes
import Derived.Defers
import Derived.Recover
import Derived.Laws.Pointers
import Derived.WalkSmall
import Derived.WalkLawsBesides
import Derived.BigRegion
import Derived.StillTailTactics
import Derived.Deep.AppendLies
import Derived.Laws.OwnMore
import Derived.Laws.AppendOwn
import Derived.Lib.SliceRun
import Derived.Maps.AppendAt
import Derived.OwnWalk
import Derived.LoopN
import Derived.Deep.CutRange
set_option linter.unusedVariables false
set_option linter.unusedSimpArgs false
/-! The document's Utf8 and Plain: what they answer, in plain words. -/
namespace Go.Proofs.YtgfihdfncddpaaaGreatDoor.Hd.S
open Go.RowKit Go.Shelf

theorem at_eq (s : ByteArray) (k : Nat) (h : k < s.size) : M.at' s.data.toList k = (s[k]'h).toNat := by
  unfold M.at'
  rw [List.getD_eq_getElem?_getD, List.getElem?_eq_getElem (by simpa using h)]
  rfl

theorem len_eq (s : ByteArray) : s.data.toList.length = s.size := rfl



end Go.Proofs.YtgfihdfncddpaaaGreatDoor.Hd.S

/-! Bytes in memory as a list of bytes; 'string(b)'; str.Put and the document's. -/
namespace Go.Proofs.YtgfihdfncddpaaaGreatDoor.Hd.S
open Go.RowKit Go.Shelf

/-- Bytes as numbers. -/
def ints (l : List UInt8) : List Int := l.map fun b => (b.toNat : Int)
theorem ints_length (l : List UInt8) : (ints l).length = l.length := by simp [ints]
theorem ints_bd (l : List UInt8) : ∀ z ∈ ints l, 0 ≤ z ∧ z ≤ 255 := by
  intro z hz
  obtain ⟨b, _, rfl⟩ := List.mem_map.1 hz
  have := UInt8.toNat_lt b
  omega
theorem ints_at {l : List UInt8} {k : Nat} (h : k < l.length) : (ints l)[k]? = some ((l[k]).toNat : Int) := by simp [ints, h]

/-- A new block of bytes. -/
theorem Rd.new (w : World) (t : TypeId) (l : List UInt8) : Rd (w.alloc (.cells (Lib.byteCells l).toArray t)) (w.heap.size + 1) (some ⟨w.heap.size, 0, none⟩) l.length (ints l) := by
  refine ⟨ints_length l, ints_bd l, fun _ => ⟨_, 0, rfl, Nat.lt_succ_self _, fun j z hj => ?_⟩⟩
  have hb : (w.alloc (.cells (Lib.byteCells l).toArray t)).heap[w.heap.size]? = some (.cells (Lib.byteCells l).toArray t (0, 0)) := heap_alloc_new w _
  rw [cell_of_row _ _ _ _ _ _ hb, Nat.zero_add]
  unfold ints at hj
  rw [List.getElem?_map] at hj
  cases hx : l[j]? with
  | none => rw [hx] at hj; cases hj
  | some x =>
    rw [hx] at hj
    injection hj with hj
    subst hj
    simp [Lib.byteCells, hx]

namespace M
/-- A text so wide. -/
def put (l : List UInt8) (n : Int) : Option (List UInt8) := if (l.length : Int) ≤ n ∧ ¬ (0 : UInt8) ∈ l then some (l ++ List.replicate (n.toNat - l.length) 0) else none
/-- Up to a nought. -/
def cut : List UInt8 → List UInt8
  | [] => []
  | c :: l => if c = 0 then [] else c :: cut l
end M

/-- What Put answers: the bytes, or nil, and whether there are some. -/
def PutIs (w : World) (r : Option (List UInt8)) (e : Ending) (w' : World) : Prop :=
  ∃ A n c, e = .returned (.tuple #[.slice A n c, .bool r.isSome]) ∧ n ≤ c ∧ c ≤ 100000 ∧ Rd w' w'.heap.size A n (ints (r.getD [])) ∧ Below w.heap.size w w' ∧ (A = none → c = 0)
theorem PutIs.no {w w' : World} (h : Below w.heap.size w w') : PutIs w none (.returned (.tuple #[.slice none 0 0, .bool false])) w' :=
  ⟨none, 0, 0, rfl, Nat.le_refl _, by omega, Rd.none_, h, fun _ => rfl⟩

theorem u8_info : (Tryz.prog.info? 5).map (fun i => (i.zero, i.size, i.bytes)) = some (some (.int .u8 0), 1, 1) := by kernel_rfl
end Go.Proofs.YtgfihdfncddpaaaGreatDoor.Hd.S

/-! The document's Put; str.Cut and the document's. -/
namespace Go.Proofs.YtgfihdfncddpaaaGreatDoor.Hd.S
open Go.RowKit Go.Shelf

theorem zero_mem {l : List UInt8} {k : Nat} (h : k < l.length) : M.at' l k = 0 ↔ l[k] = 0 := by
  unfold M.at'
  rw [List.getD_eq_getElem?_getD, List.getElem?_eq_getElem h, Option.getD_some, ← UInt8.toNat_inj]
  rfl
theorem not_mem_take_succ {l : List UInt8} {k : Nat} (h : k < l.length) (h1 : ¬ (0 : UInt8) ∈ l.take k) (h2 : ¬ M.at' l k = 0) : ¬ (0 : UInt8) ∈ l.take (k + 1) := by
  rw [List.take_succ_eq_append_getElem h, List.mem_append, List.mem_singleton, not_or]
  exact ⟨h1, fun e => h2 ((zero_mem h).2 e.symm)⟩

/-- The row so far: k bytes of the text, noughts behind. -/
def rowTo (l : List UInt8) (k : Nat) (j : Nat) : Int := if j < k then M.at' l j else 0
/-- Block b is a row of N bytes, cell j holding g j. -/
def RowB (w : World) (b N : Nat) (g : Nat → Int) : Prop := w.rowIs b 5 N (fun j => .int .u8 (g j))
section
variable {w w' : World} {b N : Nat} {g h : Nat → Int}
theorem RowB.cell (r : RowB w b N g) {i : Nat} (hi : i < N) : w.cell? ⟨b, i, none⟩ = some (.int .u8 (g i)) := World.rowIs.cell r hi
theorem RowB.frozen (r : RowB w b N g) (i : Nat) : w.frozen? ⟨b, i, none⟩ = false := World.rowIs.frozen r i
theorem RowB.lt (r : RowB w b N g) : b < w.heap.size := World.rowIs.lt r
theorem RowB.to (r : RowB w b N g) (e : ∀ i, i < N → g i = h i) : RowB w b N h := World.rowIs.congr r fun i hi => by rw [e i hi]
theorem RowB.set (r : RowB w b N g) (i : Nat) (v : Int) : RowB (w.setCell ⟨b, i, none⟩ (.int .u8 v)) b N (fun j => if j = i then v else g j) :=
  (World.rowIs.set r i (.int .u8 v)).congr fun j _ => by
    show (if j = i then _ else _) = Value.int .u8 (if j = i then v else g j)
    split <;> rfl
theorem RowB.made (w : World) (N : Nat) : RowB (w.alloc (.cells (madeCells #[.int .u8 0] N) 5)) w.heap.size N (fun _ => 0) := World.rowIs_made w _ N _
end

theorem at_append_replicate (l : List UInt8) (n j : Nat) : (M.at' (l ++ List.replicate n 0) j : Int) = rowTo l l.length j := by
  unfold rowTo M.at'
  rw [List.getD_eq_getElem?_getD, List.getD_eq_getElem?_getD]
  split
  · rename_i h
    rw [List.getElem?_append_left h]
  · rename_i h
    rw [List.getElem?_append_right (by omega), List.getElem?_replicate]
    split <;> rfl

theorem RowB.rd {w : World} {b N : Nat} {l : List UInt8} (r : RowB w b N (fun j => M.at' l j)) (hl : l.length = N) : Rd w w.heap.size (some ⟨b, 0, none⟩) N (ints l) := by
  refine ⟨by rw [ints_length, hl], ints_bd l, fun _ => ⟨b, 0, rfl, r.lt, fun j z hz => ?_⟩⟩
  have hj : j < l.length := by
    have := (List.getElem?_eq_some_iff.1 hz).1
    rwa [ints_length] at this
  rw [ints_at hj] at hz
  injection hz with hz
  subst hz
  have := r.cell (i := j) (by omega)
  rw [Nat.zero_add, this]
  unfold M.at'
  rw [List.getD_eq_getElem?_getD, List.getElem?_eq_getElem hj]
  rfl

end Go.Proofs.YtgfihdfncddpaaaGreatDoor.Hd.S

/-! The document's Put of a text: in a block of its own. -/
namespace Go.Proofs.YtgfihdfncddpaaaGreatDoor.Hd.S
open Go.RowKit Go.Shelf

/-- As PutIs; the bytes lie in a block that is new. -/
def PutOwnS (w : World) (r : Option (List UInt8)) (e : Ending) (w' : World) : Prop :=
  ∃ A n c, e = .returned (.tuple #[.slice A n c, .bool r.isSome]) ∧ n ≤ c ∧ c ≤ 100000 ∧ Rd w' w'.heap.size A n (ints (r.getD [])) ∧ Below w.heap.size w w' ∧ (∀ b off, A = some ⟨b, off, none⟩ → w.heap.size ≤ b)
theorem PutOwnS.no {w w' : World} (h : Below w.heap.size w w') : PutOwnS w none (.returned (.tuple #[.slice none 0 0, .bool false])) w' :=
  ⟨none, 0, 0, rfl, Nat.le_refl _, by omega, Rd.none_, h, fun _ _ h => nomatch h⟩
set_option maxRecDepth 100000 in
set_option maxHeartbeats 1000000 in
theorem refPut_own (s : ByteArray) (hs : s.size ≤ 100000) (n : Int) (h1 : -9223372036854775808 ≤ n) (h2 : n ≤ 100000) (w : World) :
    Calls Tryz.prog 78 #[.string s, .int .i64 n] w (PutOwnS w (M.put s.data.toList n)) := by
  by_cases hw : (s.size : Int) ≤ n
  · obtain ⟨N, rfl⟩ : ∃ N : Nat, n = N := ⟨n.toNat, by omega⟩
    have hN : s.size ≤ N := by omega
    have hmk := run_make_row' (P := Tryz.prog) 22 5 (.int .u8 0) 1 Tryz.underlying22 u8_info rfl .i64 .i64 N (by omega) (by omega)
    go_enter Tryz.func78, Tryz.ntmps78
    go_wp2
    clear hmk
    go_loopw [7] (fun i wr => ∃ k : Nat, i = .int .i64 k ∧ k ≤ s.size ∧ ¬ (0 : UInt8) ∈ s.data.toList.take k ∧ RowB wr w.heap.size N (rowTo s.data.toList k) ∧ Below w.heap.size w wr) (fun i _ => s.size - (intOf i).toNat)
    case atStart => exact ⟨0, rfl, Nat.zero_le _, by simp, (RowB.made w N).to (fun i _ => by simp [rowTo]), (Below.refl _ _).alloc (Nat.le_refl _) _⟩
    case round =>
      obtain ⟨k, rfl, hk, hno, hrow, hbel⟩ := hrel
      by_cases hlt : k < s.size
      · have hat := at_eq s k hlt
        have hl : k < s.data.toList.length := hlt
        have hb : (s[k]'hlt).toNat < 256 := UInt8.toNat_lt _
        by_cases h0 : M.at' s.data.toList k = 0
        · have hr : M.put s.data.toList N = none := by
            unfold M.put
            rw [if_neg]
            rintro ⟨_, h⟩
            exact h ((zero_mem hl).1 h0 ▸ List.getElem_mem hl)
          rw [hat] at h0
          have he : (((s[k]'hlt).toNat : Int) == 0) = true := by simp; omega
          have HR := Lib.hid hr
          clear h0 hat hno hr hl
          go_wp2
          go_ret2
          rw [HR.out]
          exact PutOwnS.no hbel
        · have hno2 := not_mem_take_succ hl hno h0
          have hne : (((s[k]'hlt).toNat : Int) == 0) = false := by rw [hat] at h0; simp; omega
          have hc := hrow.cell (i := k) (by omega)
          have hf := hrow.frozen k
          have hset := hrow.set k ((s[k]'hlt).toNat : Int)
          have hset2 : RowB (wr.setCell ⟨w.heap.size, k, none⟩ (.int .u8 ((s[k]'hlt).toNat : Int))) w.heap.size N (rowTo s.data.toList (k + 1)) := hset.to (fun i _ => by
            unfold rowTo
            by_cases e : i = k
            · subst e; rw [if_pos rfl, if_pos (by omega), hat]
            · rw [if_neg e]
              by_cases e2 : i < k
              · rw [if_pos e2, if_pos (by omega)]
              · rw [if_neg e2, if_neg (by omega)])
          have HN := Lib.hid hno2
          clear hno hno2 h0 hat hl hset hrow
          by_cases hk0 : k = 0
          · subst hk0
            go_wp2
            go_roundw
            case rel => exact ⟨1, by go_num, by omega, HN.out, hset2, hbel.setCell (p := ⟨w.heap.size, 0, none⟩) (Nat.le_refl _) _⟩
            case measure => simp [intOf]; omega
          · have hk1 : 0 < k := by omega
            clear hk0
            go_wp2
            go_roundw
            case rel => exact ⟨k + 1, by go_num, by omega, HN.out, hset2, hbel.setCell (p := ⟨w.heap.size, k, none⟩) (Nat.le_refl _) _⟩
            case measure => simp [intOf]; omega
      · obtain rfl : k = s.size := by omega
        have hno' : ¬ (0 : UInt8) ∈ s.data.toList := by rw [← List.take_length (l := s.data.toList)]; exact hno
        have hr : M.put s.data.toList N = some (s.data.toList ++ List.replicate (N - s.size) 0) := by
          unfold M.put; rw [if_pos ⟨by rw [len_eq]; exact hw, hno'⟩, len_eq, Int.toNat_natCast]
        have hrd : Rd wr wr.heap.size (some ⟨w.heap.size, 0, none⟩) N (ints (s.data.toList ++ List.replicate (N - s.size) 0)) := RowB.rd (hrow.to (fun i _ => by rw [at_append_replicate, len_eq])) (by rw [List.length_append, len_eq, List.length_replicate]; omega)
        have HR := Lib.hid hr
        have HH := Lib.hid hrd
        clear hno hno' hr hrow hrd
        go_wp2
        go_ret2
        rw [HR.out]
        exact ⟨_, N, N, rfl, Nat.le_refl _, by omega, by simpa using HH.out, hbel, fun b off h => by injection h with h; injection h with h; exact Nat.le_of_eq h⟩
  · have hr : M.put s.data.toList n = none := by unfold M.put; rw [if_neg (fun h => by have := h.1; rw [len_eq] at this; omega)]
    rw [hr]
    clear hr
    have hw' : n < (s.size : Int) := by omega
    clear hw
    go_enter Tryz.func78, Tryz.ntmps78
    go_wp2
    go_ret2
    exact PutOwnS.no (Below.refl _ _)
end Go.Proofs.YtgfihdfncddpaaaGreatDoor.Hd.S

/-! Headers as plain data: what a block tells, and how one is laid. No program. -/
namespace Go.Proofs.YtgfihdfncddpaaaGreatDoor.Hd
namespace M

/-- A header's fields. -/
structure Hdr where
  name : ByteArray := ⟨#[]⟩
  mode : Int := 0
  uid : Int := 0
  gid : Int := 0
  size : Int := 0
  mtime : Int := 0
  kind : Int := 0
  link : ByteArray := ⟨#[]⟩
  way : Int := 0
  user : ByteArray := ⟨#[]⟩
  group : ByteArray := ⟨#[]⟩
  major : Int := 0
  minor : Int := 0
  pre : ByteArray := ⟨#[]⟩
  parts : List (Int × Int) := []
  more : Bool := false
  real : Int := 0

/-- Numbers as bytes. -/
def toB (zs : List Int) : List UInt8 := zs.map fun z => UInt8.ofNat z.toNat
/-- Bytes at a place. -/
def sub (zs : List Int) (at_ n : Nat) : List Int := (zs.drop at_).take n
theorem sub_len {zs : List Int} {a n : Nat} (h : a + n ≤ zs.length) : (sub zs a n).length = n := by
  unfold sub
  rw [List.length_take, List.length_drop]
  omega
theorem sub_bd {zs : List Int} {a n : Nat} (h : ∀ z ∈ zs, 0 ≤ z ∧ z ≤ 255) : ∀ z ∈ sub zs a n, 0 ≤ z ∧ z ≤ 255 :=
  fun z hz => h z (List.mem_of_mem_drop (List.mem_of_mem_take hz))
/-- A text that a field tells. -/
def txt (zs : List Int) (a n : Nat) : ByteArray := ⟨(S.M.cut (toB (sub zs a n))).toArray⟩
/-- A number that a field tells; may it be? -/
def num (zs : List Int) (a n : Nat) : Int := parN (sub zs a n)
def numOk (zs : List Int) (a n : Nat) (lo up : Int) : Bool := parOk (sub zs a n) && (decide (lo ≤ num zs a n) && decide (num zs a n ≤ up))

def known (c : Int) : Bool := decide (48 ≤ c) && decide (c ≤ 55) || c == 83 || c == 120 || c == 103 || c == 76 || c == 75
def may (kind way : Int) : Bool := kind != 83 || way == 2
def magic : Nat → List Int
  | 0 => [0, 0, 0, 0, 0, 0, 0, 0]
  | 1 => [117, 115, 116, 97, 114, 0, 48, 48]
  | _ => [117, 115, 116, 97, 114, 32, 32, 0]
def way (zs : List Int) : Option Nat :=
  if zs.length = 512 then
    if sub zs 257 8 = magic 0 then some 0 else if sub zs 257 8 = magic 1 then some 1 else if sub zs 257 8 = magic 2 then some 2 else none
  else none
/-- A byte at a place. -/
def byt (zs : List Int) (a : Nat) : Int := zs.getD a 0
def kind (zs : List Int) : Int := if byt zs 156 = 0 then 48 else byt zs 156

/-- Parts from a place on: n of them at most; none: some may not be. -/
def parts (zs : List Int) : Nat → Nat → Option (List (Int × Int))
  | _, 0 => some []
  | a, n + 1 =>
    if zs.length < a + 24 then none
    else if numOk zs a 12 0 most && numOk zs (a + 12) 12 0 most then
      if num zs a 12 = 0 ∧ num zs (a + 12) 12 = 0 then some [] else (parts zs (a + 24) n).map ((num zs a 12, num zs (a + 12) 12) :: ·)
    else none
end M
end Go.Proofs.YtgfihdfncddpaaaGreatDoor.Hd

/-! A header in memory; what stops a call; the deferred functions' contracts. -/
namespace Go.Proofs.YtgfihdfncddpaaaGreatDoor.Hd
open Go.RowKit

/-- A header's cells; pv: its parts' slice. -/
def hcells (h : M.Hdr) (pv : Value) : Array Value :=
  #[.string h.name, .int .i64 h.mode, .int .i64 h.uid, .int .i64 h.gid, .int .i64 h.size, .int .i64 h.mtime, .int .u8 h.kind, .string h.link, .int .i64 h.way, .string h.user, .string h.group, .int .i64 h.major, .int .i64 h.minor, .string h.pre, pv, .bool h.more, .int .i64 h.real]
/-- Block g is a header. -/
def HB (w : World) (g : Nat) (h : M.Hdr) (pv : Value) : Prop := w.heap[g]? = some (.cells (hcells h pv) 31 (0, 0))
section
variable {w w' : World} {g : Nat} {h : M.Hdr} {pv : Value}
theorem HB.lt (hb : HB w g h pv) : g < w.heap.size := (Array.getElem?_eq_some_iff.1 hb).1
theorem HB.cell (hb : HB w g h pv) {i : Nat} {v : Value} (hv : (hcells h pv)[i]? = some v) : w.cell? ⟨g, i, none⟩ = some v := by
  rw [cell_of_row w g i _ _ (0, 0) hb]; exact hv
theorem HB.frozen (hb : HB w g h pv) (i : Nat) : w.frozen? ⟨g, i, none⟩ = false := frozen_of_row w g i _ _ hb
theorem HB.of_block (hb : HB w g h pv) (e : w'.heap[g]? = w.heap[g]?) : HB w' g h pv := e.trans hb
theorem HB.other (hb : HB w g h pv) {a : Addr} (hn : g ≠ a.block) (v : Value) : HB (w.setCell a v) g h pv := hb.of_block (heap_setCell_other w a g v hn)
theorem HB.alloc (hb : HB w g h pv) (o : Obj) : HB (w.alloc o) g h pv := hb.of_block (by show (w.heap.push o)[g]? = _; rw [Array.getElem?_push, if_neg (Nat.ne_of_lt hb.lt)])
theorem HB.drew (hb : HB w g h pv) : HB w.drew g h pv := hb
theorem HB.below {B : Nat} (hb : HB w g h pv) (hw : Below B w w') (hB : g < B) : HB w' g h pv := hb.of_block (hw.block g hB)
theorem HB.new (w : World) (h : M.Hdr) (pv : Value) : HB (w.alloc (.cells (hcells h pv) 31)) w.heap.size h pv := heap_alloc_new w _
theorem HB.set (hb : HB w g h pv) (i : Nat) (v : Value) {h' : M.Hdr} {pv' : Value} (e : (hcells h pv).set! i v = hcells h' pv') : HB (w.setCell ⟨g, i, none⟩ v) g h' pv' := by
  unfold HB
  rw [heap_setCell_same w g i _ _ _ hb, ← e]
  simp
end

/-- What stops a call, told by a number. -/
def boom (n : Int) : List PanicEntry := [{ v := .iface 33 (.int .u16 n), recovered := false }]

/-! Parse's deferred function. -/
theorem hdr_size : (Tryz.prog.info? 31).map (·.size) = some 17 := by kernel_rfl
end Go.Proofs.YtgfihdfncddpaaaGreatDoor.Hd

/-! A field is parsed: a text's, a number's. -/
namespace Go.Proofs.YtgfihdfncddpaaaGreatDoor.Hd
open Go.RowKit Go.Lib

theorem Rd.sub {w : World} {B b off n : Nat} {zs : List Int} (h : Rd w B (some ⟨b, off, none⟩) n zs) {a m : Nat} (ham : a + m ≤ n) : Rd w B (some ⟨b, off + a, none⟩) m (M.sub zs a m) := by
  refine ⟨M.sub_len (by rw [h.len]; exact ham), M.sub_bd h.bd, fun hm => ?_⟩
  obtain ⟨b', off', e, hb, hc⟩ := h.2.2 (by omega)
  injection e with e
  injection e with e1 e2
  subst e1 e2
  refine ⟨_, _, rfl, hb, fun j z hj => ?_⟩
  unfold M.sub at hj
  rw [List.getElem?_take] at hj
  split at hj
  · rw [List.getElem?_drop] at hj
    rw [Nat.add_assoc]
    exact hc _ z hj
  · cases hj

/-- What parsing a number's field answers. -/
def NumTo (zs : List Int) (a m : Nat) (there : Bool) (lo up : Int) (p : Addr) (w : World) (e : Ending) (w' : World) : Prop :=
  if there = true then
    if M.numOk zs a m lo up = true then e = .returned (.tuple #[]) ∧ ∃ w1, Below w.heap.size w w1 ∧ w' = w1.setCell p (.int .i64 (M.num zs a m))
    else e = .panicked (boom 32) ∧ Below w.heap.size w w'
  else e = .returned (.tuple #[]) ∧ Below w.heap.size w w'

end Go.Proofs.YtgfihdfncddpaaaGreatDoor.Hd

/-! A text's field is parsed. -/
namespace Go.Proofs.YtgfihdfncddpaaaGreatDoor.Hd
open Go.RowKit Go.Lib

/-- What parsing a text's field answers. -/
def TxtTo (zs : List Int) (a m : Nat) (there : Bool) (p : Addr) (w : World) (e : Ending) (w' : World) : Prop :=
  e = .returned (.tuple #[]) ∧ if there = true then ∃ w1, Below w.heap.size w w1 ∧ w' = w1.setCell p (.string (M.txt zs a m)) else Below w.heap.size w w'

end Go.Proofs.YtgfihdfncddpaaaGreatDoor.Hd

/-! Way, and the table that it reads. -/
namespace Go.Proofs.YtgfihdfncddpaaaGreatDoor.Hd
open Go.RowKit Go.Lib

/-- The table of the ways' texts, as it lies. -/
def mgs : Nat → ByteArray
  | 0 => ⟨#[0, 0, 0, 0, 0, 0, 0, 0]⟩
  | 1 => ⟨#[117, 115, 116, 97, 114, 0, 48, 48]⟩
  | _ => ⟨#[117, 115, 116, 97, 114, 32, 32, 0]⟩
theorem toList_inj {a b : ByteArray} (h : a.toList = b.toList) : a = b := by
  rw [ByteArray.toList_eq, ByteArray.toList_eq] at h
  obtain ⟨⟨a⟩⟩ := a
  obtain ⟨⟨b⟩⟩ := b
  simpa using h
end Go.Proofs.YtgfihdfncddpaaaGreatDoor.Hd

/-! The arrays of fields. -/
namespace Go.Proofs.YtgfihdfncddpaaaGreatDoor.Hd
open Go.RowKit Go.Lib

theorem below_setRow {B : Nat} {w0 w : World} (h : Below B w0 w) {g : Nat} (hg : B ≤ g) (cs : Array Value) : Below B w0 (w.setRow g cs) :=
  h.trans ⟨rfl, rfl, rfl, by simp, fun k hk => setRow_other w g k cs (by omega)⟩
end Go.Proofs.YtgfihdfncddpaaaGreatDoor.Hd

/-! head.Parse: how it is left, by a stop or at its end. -/
namespace Go.Proofs.YtgfihdfncddpaaaGreatDoor.Hd
open Go.RowKit Go.Lib

/-- A frame of Parse: the header so far in block g, no error in block eb. -/
structure PF (w0 w : World) (h : M.Hdr) (pv : Value) : Prop where
  box : HB w w0.heap.size h pv
  err : w.heap[w0.heap.size + 1]? = some (.cells #[.int .u16 0] 33 (0, 0))
  below : Below w0.heap.size w0 w
theorem PF.later {w0 w w' : World} {h : M.Hdr} {pv : Value} (p : PF w0 w h pv) (hb : Below w.heap.size w w') : PF w0 w' h pv :=
  ⟨p.box.below hb p.box.lt, (hb.block _ (Array.getElem?_eq_some_iff.1 p.err).1).trans p.err, p.below.trans (hb.mono p.below.size)⟩
theorem PF.set {w0 w : World} {h h' : M.Hdr} {pv pv' : Value} (p : PF w0 w h pv) (i : Nat) (v : Value) (e : (hcells h pv).set! i v = hcells h' pv') : PF w0 (w.setCell ⟨w0.heap.size, i, none⟩ v) h' pv' :=
  ⟨p.box.set i v e, (heap_setCell_other w ⟨w0.heap.size, i, none⟩ _ v (by simp)).trans p.err, p.below.setCell (p := ⟨w0.heap.size, i, none⟩) (Nat.le_refl _) v⟩

/-- A row of parts in memory, in a block that is not below base. -/
def PartsIs (w : World) (base : Nat) (pv : Value) (l : List (Int × Int)) : Prop :=
  ∃ A c, pv = .slice A l.length c ∧ l.length ≤ c ∧ (0 < l.length → ∃ b off, A = some ⟨b, off, none⟩ ∧ base ≤ b ∧ b < w.heap.size ∧ ∀ (j : Nat) (p : Int × Int), l[j]? = some p → w.cell? ⟨b, off + 2 * j, none⟩ = some (.int .i64 p.1) ∧ w.cell? ⟨b, off + 2 * j + 1, none⟩ = some (.int .i64 p.2))
theorem PartsIs.nil (w : World) (base : Nat) : PartsIs w base (.slice none 0 0) [] := ⟨none, 0, rfl, Nat.le_refl _, fun h => absurd h (by decide)⟩
theorem PartsIs.keep {w w' : World} {base : Nat} {pv : Value} {l : List (Int × Int)} (h : PartsIs w base pv l) (hs : w.heap.size ≤ w'.heap.size) (hk : ∀ a : Addr, base ≤ a.block → a.block < w.heap.size → w'.cell? a = w.cell? a) : PartsIs w' base pv l := by
  obtain ⟨A, c, rfl, h1, h2⟩ := h
  refine ⟨A, c, rfl, h1, fun hl => ?_⟩
  obtain ⟨b, off, e, h3, h4, h5⟩ := h2 hl
  exact ⟨b, off, e, h3, Nat.lt_of_lt_of_le h4 hs, fun j p hp => ⟨(hk _ h3 h4).trans (h5 j p hp).1, (hk _ h3 h4).trans (h5 j p hp).2⟩⟩
theorem PartsIs.later {w w' : World} {base : Nat} {pv : Value} {l : List (Int × Int)} (h : PartsIs w base pv l) (hb : Below w.heap.size w w') : PartsIs w' base pv l := h.keep hb.size fun a _ ha => hb.cell ha
theorem PartsIs.set {w : World} {base : Nat} {pv : Value} {l : List (Int × Int)} (h : PartsIs w base pv l) (a : Addr) (ha : a.block < base) (v : Value) : PartsIs (w.setCell a v) base pv l :=
  h.keep (by simp) fun q hq _ => World.cell?_setCell_other w a q v (fun e => by subst e; omega)
theorem PartsIs.row {w : World} {base : Nat} {pv : Value} {l : List (Int × Int)} (h : PartsIs w base pv l) (g : Nat) (hg : g < base) (cs : Array Value) : PartsIs (w.setRow g cs) base pv l :=
  h.keep (by simp) fun q hq _ => cell_setRow_other w g cs q (by omega)
end Go.Proofs.YtgfihdfncddpaaaGreatDoor.Hd

/-! Rows of parts in memory; how Parts is left, by a stop or at its end. -/
namespace Go.Proofs.YtgfihdfncddpaaaGreatDoor.Hd
open Go.RowKit Go.Lib

def pcells (l : List (Int × Int)) : List Value := l.flatMap fun p => [.int .i64 p.1, .int .i64 p.2]
theorem pcells_at : ∀ {l : List (Int × Int)} {j : Nat} {p : Int × Int}, l[j]? = some p → (pcells l)[2 * j]? = some (.int .i64 p.1) ∧ (pcells l)[2 * j + 1]? = some (.int .i64 p.2)
  | [], j, p, h => by simp at h
  | q :: l, 0, p, h => by
    simp at h
    subst h
    exact ⟨rfl, rfl⟩
  | q :: l, j + 1, p, h => by
    have ih := pcells_at (l := l) (j := j) (p := p) (by simpa using h)
    have e : pcells (q :: l) = .int .i64 q.1 :: .int .i64 q.2 :: pcells l := rfl
    rw [e, show 2 * (j + 1) = 2 * j + 1 + 1 by omega, List.getElem?_cons_succ, List.getElem?_cons_succ, List.getElem?_cons_succ, List.getElem?_cons_succ]
    exact ih
/-- A row of parts of the call's own. -/
def OwnP (w : World) (base : Nat) (v : Value) (l : List (Int × Int)) : Prop := w.ownsRow base 89 2 v l.length (pcells l)
theorem OwnP.parts {w : World} {base : Nat} {v : Value} {l : List (Int × Int)} (h : OwnP w base v l) : PartsIs w base v l := by
  unfold OwnP at h
  by_cases hl : 0 < l.length
  · obtain ⟨g, cap, rfl, hbg, hlt⟩ := h.form hl
    refine ⟨_, cap, rfl, ?_, fun _ => ⟨g, 0, rfl, hbg, hlt, fun j p hp => ?_⟩⟩
    · rcases h.2 with ⟨e, _⟩ | ⟨g', cap', cur, e, _, _, hnc, _⟩
      · cases e
      · injection e with _ _ e
        omega
    · obtain ⟨h1, h2⟩ := pcells_at hp
      have c1 := h.cells (g := g) rfl _ _ h1
      have c2 := h.cells (g := g) rfl _ _ h2
      have e : ∀ k : Nat, (⟨g, 0, none⟩ : Addr).add k = ⟨g, 0 + k, none⟩ := by
        intro k
        unfold Addr.add
        split
        · rename_i h0; subst h0; rfl
        · rfl
      rw [e] at c1 c2
      exact ⟨c1, by rw [Nat.add_assoc]; exact c2⟩
  · have h0 : l = [] := List.eq_nil_of_length_eq_zero (by omega)
    subst h0
    rcases h.2 with ⟨rfl, _⟩ | ⟨g, cap, cur, rfl, _⟩
    · exact PartsIs.nil w base
    · exact ⟨_, cap, rfl, Nat.zero_le _, fun h => absurd h (by decide)⟩

/-! Parts' deferred function. -/
/-- A frame of Parts: what was found lies in block g, no yes in the block behind it. -/
structure PL (w0 w : World) (v : Value) (l : List (Int × Int)) : Prop where
  box : w.heap[w0.heap.size]? = some (.cells #[v] 25 (0, 0))
  ok : w.heap[w0.heap.size + 1]? = some (.cells #[.bool false] 4 (0, 0))
  own : OwnP w (w0.heap.size + 2) v l
  below : Below w0.heap.size w0 w
theorem OwnP.later {w w' : World} {base : Nat} {v : Value} {l : List (Int × Int)} (h : OwnP w base v l) (hb : Below w.heap.size w w') : OwnP w' base v l :=
  World.ownsRow.kept (row := none) h ⟨hb.os, hb.tape, hb.output, hb.size, fun k hk _ => hb.block k hk⟩ (by
    cases hv : v.ownBlock with
    | none => exact .inl rfl
    | some g => exact .inr (fun e => nomatch e))
theorem PL.later {w0 w w' : World} {v : Value} {l : List (Int × Int)} (p : PL w0 w v l) (hb : Below w.heap.size w w') : PL w0 w' v l :=
  ⟨(hb.block _ (Array.getElem?_eq_some_iff.1 p.box).1).trans p.box, (hb.block _ (Array.getElem?_eq_some_iff.1 p.ok).1).trans p.ok, p.own.later hb, p.below.trans (hb.mono p.below.size)⟩
/-- What is appended is laid in the block. -/
theorem PL.next {w0 w w' : World} {v v' : Value} {l l' : List (Int × Int)} (p : PL w0 w v l) (ho : OwnP w' (w0.heap.size + 2) v' l') (hb : Below (w0.heap.size + 2) w w') : PL w0 (w'.setCell ⟨w0.heap.size, 0, none⟩ v') v' l' := by
  have hx := (hb.block w0.heap.size (by omega)).trans p.box
  have hy := (hb.block (w0.heap.size + 1) (by omega)).trans p.ok
  refine ⟨?_, (heap_setCell_other w' ⟨w0.heap.size, 0, none⟩ _ v' (by simp)).trans hy, ownsRow_setCell_below ho (by simp) _, (p.below.trans (hb.mono (by omega))).setCell (p := ⟨w0.heap.size, 0, none⟩) (Nat.le_refl _) v'⟩
  have := heap_setCell_same w' _ 0 _ _ v' hx
  simpa using this

/-- A part's variable, behind all that was there. -/
structure PS (wr W : World) (p q : Int) : Prop where
  box : W.heap[wr.heap.size]? = some (.cells #[.int .i64 p, .int .i64 q] 89 (0, 0))
  below : Below wr.heap.size wr W
theorem PS.new (wr : World) : PS wr (wr.alloc (.cells #[.int .i64 0, .int .i64 0] 89)) 0 0 := ⟨heap_alloc_new wr _, (Below.refl _ wr).alloc (Nat.le_refl _) _⟩
theorem PS.later {wr W W' : World} {p q : Int} (h : PS wr W p q) (hb : Below W.heap.size W W') : PS wr W' p q :=
  ⟨(hb.block _ (Array.getElem?_eq_some_iff.1 h.box).1).trans h.box, h.below.trans (hb.mono h.below.size)⟩
theorem PS.frozen {wr W : World} {p q : Int} (h : PS wr W p q) (i : Nat) : W.frozen? ⟨wr.heap.size, i, none⟩ = false := frozen_of_row _ _ i _ _ h.box
end Go.Proofs.YtgfihdfncddpaaaGreatDoor.Hd

/-! append in any region: a list of parts of the call's own. -/
namespace Go.Proofs.YtgfihdfncddpaaaGreatDoor.Hd
open Go.RowKit Go.Lib
namespace Ap
def Reads (w : World) (B size : Nat) (A : Option Addr) (n : Nat) (xs : List Value) : Prop :=
  xs.length = n * size ∧ (0 < n → ∃ ad, A = some ad ∧ ad.block < B ∧ ∀ j u, xs[j]? = some u → w.cell? (ad.add j) = some u)

section
variable {P : Program} (w : World)

theorem run_append_of_nil (base : Nat) (t ty e : TypeId) (i : TypeInfo) (size : Nat) (ht : P.underlying t = some (.slice e)) (hi : P.info? e = some i)
    (v : Value) (n : Nat) (xs : List Value) (hown : w.ownsRow base e size v n xs) (c : Nat) : (Builtin.append_ #[t, t] ty #[v, .slice none 0 c]).run P w = .ok v w := by
  rcases hown.2 with ⟨rfl, rfl⟩ | ⟨g, cap, cur, rfl, _, _, hnc, _⟩
  · simp [Builtin.append_, run_underlying ht, sizeOf, typeInfo, hi, Builtin.lenOf, Builtin.firstCells]
  · simp [Builtin.append_, run_underlying ht, sizeOf, typeInfo, hi, Builtin.lenOf, Builtin.firstCells, hnc, storeCells]

theorem run_append_any (base : Nat) (t ty e : TypeId) (i : TypeInfo) (z : Value) (size bytes : Nat) (ht : P.underlying t = some (.slice e)) (hi : P.info? e = some i) (hz : i.zero = some z)
    (hsize : i.size = size) (hby : i.bytes = bytes) (hzs : z.cells.size = size) (hsz : 0 < size)
    (v : Value) (n : Nat) (xs : List Value) (hown : w.ownsRow base e size v n xs)
    (B : Nat) (A : Option Addr) (m c : Nat) (news : List Value) (hr : Reads w B size A m news) (h1 : ∀ u ∈ news, u.oneCell' = true)
    (h63 : n + m ≤ maxLen) (hbytes : (n + m) * bytes ≤ 140737488355328) (hbase : base ≤ w.heap.size) :
    ∃ v' w', (Builtin.append_ #[t, t] ty #[v, .slice A m c]).run P w = .ok v' w' ∧ w'.ownsRow base e size v' (n + m) (xs ++ news) ∧ w.grownBy w' v.ownBlock ∧
      (v'.ownBlock = v.ownBlock ∨ v'.ownBlock = some w.heap.size) := by
  rcases A with _ | ad
  · have hm : m = 0 := by
      rcases Nat.eq_zero_or_pos m with h0 | h0
      · exact h0
      · obtain ⟨ad, h, _⟩ := hr.2 h0
        cases h
    subst hm
    have hn : news = [] := List.eq_nil_of_length_eq_zero (by simpa using hr.1)
    subst hn
    exact ⟨v, w, run_append_of_nil w base t ty e i size ht hi v n xs hown c, by simpa using hown, World.grownBy.refl w _, .inl rfl⟩
  · have hcells : ∀ j u, news[j]? = some u → w.cell? (ad.add j) = some u := by
      intro j u hu
      rcases Nat.eq_zero_or_pos m with h0 | h0
      · subst h0
        have hn : news = [] := List.eq_nil_of_length_eq_zero (by simpa using hr.1)
        subst hn
        simp at hu
      · obtain ⟨ad', h, _, hc⟩ := hr.2 h0
        injection h with h
        subst h
        exact hc j u hu
    obtain ⟨v', w', hrun, h2, h3, _, h5⟩ := run_append_own_at (P := P) w base t ty e i z size bytes ht hi hz hsize hby hzs hsz v n xs hown ad m c news hr.1 hcells h1 h63 hbytes hbase
    exact ⟨v', w', hrun, h2, h3, h5⟩

theorem wp_append_any {o : Oper} {a : Act} {K : Act → World → Prop} {Q : Exit → Act → World → Prop} (s x : Operand) (t : TypeId)
    (ho : o.op = .call { callee := .builtin .append, args := #[s, x], argTypes := #[t, t] })
    (base : Nat) (e : TypeId) (i : TypeInfo) (z : Value) (size bytes : Nat) (ht : P.underlying t = some (.slice e)) (hi : P.info? e = some i) (hz : i.zero = some z)
    (hsize : i.size = size) (hby : i.bytes = bytes) (hzs : z.cells.size = size) (hsz : 0 < size)
    (v : Value) (n : Nat) (xs : List Value) (hs : a.eval s = v) (hown : w.ownsRow base e size v n xs)
    (B : Nat) (A : Option Addr) (m c : Nat) (news : List Value) (hx : a.eval x = .slice A m c) (hr : Reads w B size A m news) (h1 : ∀ u ∈ news, u.oneCell' = true)
    (h63 : n + m ≤ maxLen) (hbytes : (n + m) * bytes ≤ 140737488355328) (hbase : base ≤ w.heap.size)
    (h : ∀ v' w', w'.ownsRow base e size v' (n + m) (xs ++ news) → w.grownBy w' v.ownBlock → (v'.ownBlock = v.ownBlock ∨ v'.ownBlock = some w.heap.size) → K (a.put o.dst v') w') : o.wp P a w K Q := by
  obtain ⟨v', w', hrun, h2, h3, h4⟩ := run_append_any (P := P) w base t o.type e i z size bytes ht hi hz hsize hby hzs hsz v n xs hown B A m c news hr h1 h63 hbytes hbase
  unfold Oper.wp execOp
  simp only [ho, resolve, invoke, builtin, Sem.run_bind, Sem.run_pure, Result.andThen_ok, List.map_toArray, List.map_cons, List.map_nil, hs, hx, hrun]
  exact h v' w' h2 h3 h4

theorem wpList_append_any {ops : Array Oper} {rest : List Oper} {o : Oper} {a : Act} {Q : Exit → Act → World → Prop} (hgd : o.guard = none) (s x : Operand) (t : TypeId)
    (ho : o.op = .call { callee := .builtin .append, args := #[s, x], argTypes := #[t, t] })
    (base : Nat) (e : TypeId) (i : TypeInfo) (z : Value) (size bytes : Nat) (ht : P.underlying t = some (.slice e)) (hi : P.info? e = some i) (hz : i.zero = some z)
    (hsize : i.size = size) (hby : i.bytes = bytes) (hzs : z.cells.size = size) (hsz : 0 < size)
    (v : Value) (n : Nat) (xs : List Value) (hs : a.eval s = v) (hown : w.ownsRow base e size v n xs)
    (B : Nat) (A : Option Addr) (m c : Nat) (news : List Value) (hx : a.eval x = .slice A m c) (hr : Reads w B size A m news) (h1 : ∀ u ∈ news, u.oneCell' = true)
    (h63 : n + m ≤ maxLen) (hbytes : (n + m) * bytes ≤ 140737488355328) (hbase : base ≤ w.heap.size)
    (h : ∀ v' w', w'.ownsRow base e size v' (n + m) (xs ++ news) → w.grownBy w' v.ownBlock → (v'.ownBlock = v.ownBlock ∨ v'.ownBlock = some w.heap.size) → wpList P ops Q rest (a.put o.dst v') w') : wpList P ops Q (o :: rest) a w :=
  wpList_plain hgd fun _ hK => wp_append_any w s x t ho base e i z size bytes ht hi hz hsize hby hzs hsz v n xs hs hown B A m c news hx hr h1 h63 hbytes hbase fun v' w' h2 h3 h4 => hK _ _ (h v' w' h2 h3 h4)

end
end Ap
theorem OwnP.nil (w : World) (base : Nat) : OwnP w base (.slice none 0 0) [] := ⟨rfl, .inl ⟨rfl, rfl⟩⟩
end Go.Proofs.YtgfihdfncddpaaaGreatDoor.Hd

/-! What a block tells of a header, and why it tells none. -/
namespace Go.Proofs.YtgfihdfncddpaaaGreatDoor.Hd
namespace M
/-- The texts, one behind the other: k of them are read. -/
def rt (zs : List Int) (h : Hdr) : Nat → Hdr
  | 0 => h
  | 1 => { h with name := txt zs 0 100 }
  | 2 => { h with name := txt zs 0 100, link := txt zs 157 100 }
  | 3 => { h with name := txt zs 0 100, link := txt zs 157 100, user := if h.way != 0 then txt zs 265 32 else h.user }
  | 4 => { h with name := txt zs 0 100, link := txt zs 157 100, user := if h.way != 0 then txt zs 265 32 else h.user, group := if h.way != 0 then txt zs 297 32 else h.group }
  | _ => { h with name := txt zs 0 100, link := txt zs 157 100, user := if h.way != 0 then txt zs 265 32 else h.user, group := if h.way != 0 then txt zs 297 32 else h.group, pre := if h.way == 1 then txt zs 345 155 else h.pre }
def maxSize : Int := 1099511627776
def holed (h : Hdr) : Bool := h.kind == 83 && h.way == 2
/-- The numbers: k of them are read. -/
def rn (zs : List Int) (h : Hdr) (k : Nat) : Hdr :=
  { h with
    mode := if 1 ≤ k then num zs 100 8 else h.mode
    uid := if 2 ≤ k then num zs 108 8 else h.uid
    gid := if 3 ≤ k then num zs 116 8 else h.gid
    size := if 4 ≤ k then num zs 124 12 else h.size
    mtime := if 5 ≤ k then num zs 136 12 else h.mtime
    major := if 6 ≤ k then if h.way != 0 then num zs 329 8 else h.major else h.major
    minor := if 7 ≤ k then if h.way != 0 then num zs 337 8 else h.minor else h.minor
    real := if 8 ≤ k then if holed h then num zs 483 12 else h.real else h.real }
/-- What a block's fields tell, but for what a sparse one alone has. -/
def told (zs : List Int) (w : Nat) : Hdr := rn zs (rt zs { kind := kind zs, way := w } 5) 8
end M
end Go.Proofs.YtgfihdfncddpaaaGreatDoor.Hd

/-! head.Parse: its steps. -/
namespace Go.Proofs.YtgfihdfncddpaaaGreatDoor.Hd
open Go.RowKit Go.Lib

theorem PF.more {w W : World} {h : M.Hdr} {pv : Value} (p : PF w W h pv) (o : Obj) : PF w (W.alloc o) h pv := p.later ((Below.refl _ _).alloc (Nat.le_refl _) _)
theorem PF.text {w W w' : World} {h h' : M.Hdr} {pv : Value} {zs : List Int} {a m i : Nat} {there : Bool} {e : Ending} (p : PF w W h pv) (t : TxtTo zs a m there ⟨w.heap.size, i, none⟩ W e w')
    (h1 : there = true → (hcells h pv).set! i (.string (M.txt zs a m)) = hcells h' pv) (h0 : there = false → h = h') : e = .returned (.tuple #[]) ∧ PF w w' h' pv := by
  obtain ⟨rfl, t⟩ := t
  refine ⟨rfl, ?_⟩
  cases ht : there with
  | true =>
    rw [ht, if_pos rfl] at t
    obtain ⟨w1, b1, rfl⟩ := t
    exact (p.later b1).set i _ (h1 ht)
  | false =>
    rw [ht, if_neg (by decide)] at t
    rw [← h0 ht]
    exact p.later t
theorem PF.num {w W w' : World} {h h' : M.Hdr} {pv : Value} {zs : List Int} {a m i : Nat} {there ok : Bool} {lo up : Int} {e : Ending} (p : PF w W h pv) (t : NumTo zs a m there lo up ⟨w.heap.size, i, none⟩ W e w')
    (hok : ok = (!there || M.numOk zs a m lo up)) (h1 : there = true → (hcells h pv).set! i (.int .i64 (M.num zs a m)) = hcells h' pv) (h0 : there = false → h = h') :
    (ok = false → e = .panicked (boom 32) ∧ PF w w' h pv) ∧ (ok = true → e = .returned (.tuple #[]) ∧ PF w w' h' pv) := by
  unfold NumTo at t
  cases ht : there with
  | true =>
    rw [ht, if_pos rfl] at t
    rw [ht] at hok
    have hok' : ok = M.numOk zs a m lo up := hok
    refine ⟨fun h2 => ?_, fun h2 => ?_⟩
    · rw [if_neg (by rw [← hok', h2]; decide)] at t
      exact ⟨t.1, p.later t.2⟩
    · rw [if_pos (by rw [← hok', h2])] at t
      obtain ⟨rfl, w1, b1, rfl⟩ := t
      exact ⟨rfl, (p.later b1).set i _ (h1 ht)⟩
  | false =>
    rw [ht, if_neg (by decide)] at t
    rw [ht] at hok
    have hok' : ok = true := hok
    refine ⟨fun h2 => ?_, fun _ => ?_⟩
    · rw [hok'] at h2; cases h2
    · rw [← h0 ht]
      exact ⟨t.1, p.later t.2⟩
theorem PF.whole {w W : World} {h : M.Hdr} {pv : Value} (p : PF w W h pv) : PF w (W.setRow w.heap.size (hcells h pv)) h pv :=
  ⟨setRow_heap W _ _ _ _ _ p.box, (setRow_other W _ _ _ (by simp)).trans p.err, below_setRow p.below (Nat.le_refl _) _⟩

/-! What each step lays. -/
end Go.Proofs.YtgfihdfncddpaaaGreatDoor.Hd

/-! A field is printed: a text's, a number's. -/
namespace Go.Proofs.YtgfihdfncddpaaaGreatDoor.Hd
open Go.RowKit Go.Lib

/-- Block gb is a block of 512 bytes that is being laid. -/
def laid (W : World) (gb : Nat) (zs : List Int) : World := W.setRow gb (bcells zs).toArray
theorem Arr.laid {W : World} {gb : Nat} {t : TypeId} {zs : List Int} (h : Arr W gb t zs) (ys : List Int) : Arr (laid W gb ys) gb t ys := h.setRow ys

/-- What printing a text's field does. -/
def TxtPut (zs : List Int) (a m : Nat) (s : ByteArray) (gb : Nat) (w : World) (e : Ending) (w' : World) : Prop :=
  match S.M.put s.data.toList m with
  | none => e = .panicked (boom 33) ∧ Below w.heap.size w w'
  | some l => e = .returned (.tuple #[]) ∧ ∃ w1, Below w.heap.size w w1 ∧ w' = laid w1 gb (splice zs a (S.ints l))

theorem put_len {s l : List UInt8} {m : Nat} (h : S.M.put s (m : Int) = some l) : l.length = m := by
  unfold S.M.put at h
  split at h
  · rename_i h1
    injection h with h
    subst h
    rw [List.length_append, List.length_replicate]
    omega
  · cases h
theorem putR_len {x : Int} {m : Nat} (h : M.putFits x m = true) : (M.putR x m).length = m := by
  unfold M.putR
  cases ho : M.octFits x m with
  | true =>
    rw [if_pos rfl]
    unfold M.oct
    rw [M.listOf_len]
    rfl
  | false =>
    have hb : M.binFits x m = true := by
      unfold M.putFits at h
      rw [ho] at h
      exact h
    rw [if_neg (by decide), M.binR_yes hb]
    unfold M.bin
    rw [M.listOf_len]
    rfl
/-- May a number be printed? -/
def M.putOk (x : Int) (m : Nat) (lo up : Int) : Bool := M.putFits x m && (decide (lo ≤ x) && decide (x ≤ up))
/-- What printing a number's field does. -/
def NumPut (zs : List Int) (a m : Nat) (there : Bool) (lo up x : Int) (gb : Nat) (w : World) (e : Ending) (w' : World) : Prop :=
  if there = true then
    if M.putOk x m lo up = true then e = .returned (.tuple #[]) ∧ ∃ w1, Below w.heap.size w w1 ∧ w' = laid w1 gb (splice zs a (M.putR x m))
    else e = .panicked (boom 32) ∧ Below w.heap.size w w'
  else if x = 0 then e = .returned (.tuple #[]) ∧ Below w.heap.size w w' else e = .panicked (boom 32) ∧ Below w.heap.size w w'

end Go.Proofs.YtgfihdfncddpaaaGreatDoor.Hd

/-! How a header is laid in a block, and why it is not. -/
namespace Go.Proofs.YtgfihdfncddpaaaGreatDoor.Hd
namespace M

/-- With what there is, else the error. -/
def bnd (o : Option (List Int)) (e : Int) (f : List Int → Int × List Int) : Int × List Int := match o with
  | none => (e, [])
  | some z => f z
def chk (b : Bool) (e : Int) (r : Int × List Int) : Int × List Int := if b = true then r else (e, [])
def putT (zs : List Int) (a m : Nat) (s : ByteArray) : Option (List Int) := (S.M.put s.data.toList m).map fun l => splice zs a (S.ints l)
def putN (zs : List Int) (a m : Nat) (there : Bool) (lo up x : Int) : Option (List Int) :=
  if there = true then if putOk x m lo up = true then some (splice zs a (putR x m)) else none
  else if x = 0 then some zs else none
/-- Parts, the first one's number is i. -/
def pputs : List Int → Nat → List (Int × Int) → Option (List Int)
  | zs, _, [] => some zs
  | zs, i, p :: l =>
    if p.1 = 0 ∧ p.2 = 0 then none
    else if putOk p.1 12 0 most = true then
      if putOk p.2 12 0 most = true then pputs (splice (splice zs (386 + 24 * i) (putR p.1 12)) (386 + 24 * i + 12) (putR p.2 12)) (i + 1) l else none
    else none
def putP (zs : List Int) (l : List (Int × Int)) : Option (List Int) := if l.length ≤ 4 then pputs zs 0 l else none
def blank (s : ByteArray) : Bool := s.toList == []
/-- Is there nothing where the way has nothing? -/
def bare (h : Hdr) : Bool := ((h.way != 0) || blank h.user) && (((h.way != 0) || blank h.group) && ((h.way == 1) || blank h.pre))
def isWay (v : Int) : Bool := decide (0 ≤ v) && decide (v < 3)
def flat (h : Hdr) : Bool := (h.kind == 83) || (decide (h.parts.length = 0) && !h.more)

def hprint (h : Hdr) : Int × List Int :=
  chk (known h.kind && may h.kind h.way) 31 <|
  bnd (putT ((nils 512).set 156 h.kind) 0 100 h.name) 33 fun z1 =>
  bnd (putT z1 157 100 h.link) 33 fun z2 =>
  bnd (putT z2 265 32 h.user) 33 fun z3 =>
  bnd (putT z3 297 32 h.group) 33 fun z4 =>
  bnd (putT z4 345 155 h.pre) 33 fun z5 =>
  chk (bare h) 32 <|
  chk (isWay h.way) 32 <|
  bnd (putN (splice z5 257 (magic h.way.toNat)) 100 8 true 0 most h.mode) 32 fun y1 =>
  bnd (putN y1 108 8 true 0 most h.uid) 32 fun y2 =>
  bnd (putN y2 116 8 true 0 most h.gid) 32 fun y3 =>
  bnd (putN y3 124 12 true 0 maxSize h.size) 32 fun y4 =>
  bnd (putN y4 136 12 true (-most) most h.mtime) 32 fun y5 =>
  bnd (putN y5 329 8 (h.way != 0) 0 most h.major) 32 fun y6 =>
  bnd (putN y6 337 8 (h.way != 0) 0 most h.minor) 32 fun y7 =>
  bnd (putN y7 483 12 (h.kind == 83 && h.way == 2) 0 maxSize h.real) 32 fun y8 =>
  chk (flat h) 32 <|
  bnd (putP y8 h.parts) 32 fun x =>
  (0, sld (if h.more = true then x.set 482 1 else x))
end M
end Go.Proofs.YtgfihdfncddpaaaGreatDoor.Hd

/-! head.Print: how it is left; printParts. -/
namespace Go.Proofs.YtgfihdfncddpaaaGreatDoor.Hd
open Go.RowKit Go.Lib

/-! Print's deferred function. -/
/-- A frame of Print: the header's own copy, then the bytes' variable, then the error's. -/
structure QF (w0 w : World) (h : M.Hdr) (pv v : Value) : Prop where
  box : HB w w0.heap.size h pv
  bytes : w.heap[w0.heap.size + 1]? = some (.cells #[v] 22 (0, 0))
  err : w.heap[w0.heap.size + 2]? = some (.cells #[.int .u16 0] 33 (0, 0))
  below : Below w0.heap.size w0 w
theorem QF.keep {w0 w w' : World} {h : M.Hdr} {pv v : Value} (q : QF w0 w h pv v) (hb : Below (w0.heap.size + 3) w w') : QF w0 w' h pv v :=
  ⟨(hb.block _ (by omega)).trans q.box, (hb.block _ (by omega)).trans q.bytes, (hb.block _ (by omega)).trans q.err, q.below.trans (hb.mono (by omega))⟩
theorem QF.size {w0 w : World} {h : M.Hdr} {pv v : Value} (q : QF w0 w h pv v) : w0.heap.size + 3 ≤ w.heap.size := (Array.getElem?_eq_some_iff.1 q.err).1
theorem QF.later {w0 w w' : World} {h : M.Hdr} {pv v : Value} (q : QF w0 w h pv v) (hb : Below w.heap.size w w') : QF w0 w' h pv v := q.keep (hb.mono q.size)

/-! Parts that came in. -/
def PartsB (w : World) (B : Nat) (pv : Value) (l : List (Int × Int)) : Prop :=
  ∃ A c, pv = .slice A l.length c ∧ l.length ≤ c ∧ (0 < l.length → ∃ b off, A = some ⟨b, off, none⟩ ∧ b < B ∧ ∀ (j : Nat) (p : Int × Int), l[j]? = some p → w.cell? ⟨b, off + 2 * j, none⟩ = some (.int .i64 p.1) ∧ w.cell? ⟨b, off + 2 * j + 1, none⟩ = some (.int .i64 p.2))
theorem PartsB.below {w w' : World} {B : Nat} {pv : Value} {l : List (Int × Int)} (h : PartsB w B pv l) (hb : Below B w w') : PartsB w' B pv l := by
  obtain ⟨A, c, rfl, h1, h2⟩ := h
  exact ⟨A, c, rfl, h1, fun hl => let ⟨b, off, e, h4, h5⟩ := h2 hl; ⟨b, off, e, h4, fun j p hp => ⟨(hb.cell (p := ⟨b, off + 2 * j, none⟩) h4).trans (h5 j p hp).1, (hb.cell (p := ⟨b, off + 2 * j + 1, none⟩) h4).trans (h5 j p hp).2⟩⟩⟩
end Go.Proofs.YtgfihdfncddpaaaGreatDoor.Hd

/-! printParts. -/
namespace Go.Proofs.YtgfihdfncddpaaaGreatDoor.Hd
open Go.RowKit Go.Lib

/-- A part's variable beside a block that is being laid. -/
structure PP (w0 W : World) (gb g : Nat) (zs : List Int) (p q : Int) : Prop where
  arr : Arr W gb 5 zs
  box : W.heap[g]? = some (.cells #[.int .i64 p, .int .i64 q] 89 (0, 0))
  ne : gb ≠ g
  below : Below gb w0 W
theorem PP.new {w0 W : World} {gb : Nat} {zs : List Int} (ha : Arr W gb 5 zs) (hb : Below gb w0 W) (p q : Int) : PP w0 (W.alloc (.cells #[.int .i64 p, .int .i64 q] 89)) gb W.heap.size zs p q :=
  ⟨ha.alloc _, heap_alloc_new W _, Nat.ne_of_lt ha.lt, hb.alloc (Nat.le_of_lt ha.lt) _⟩
theorem PP.later {w0 W W' : World} {gb g : Nat} {zs : List Int} {p q : Int} (h : PP w0 W gb g zs p q) (hb : Below W.heap.size W W') : PP w0 W' gb g zs p q :=
  ⟨h.arr.below hb h.arr.lt, (hb.block _ (Array.getElem?_eq_some_iff.1 h.box).1).trans h.box, h.ne, h.below.trans (hb.mono (Nat.le_of_lt h.arr.lt))⟩
theorem PP.laid {w0 W : World} {gb g : Nat} {zs : List Int} {p q : Int} (h : PP w0 W gb g zs p q) (ys : List Int) : PP w0 (laid W gb ys) gb g ys p q :=
  ⟨h.arr.laid ys, (setRow_other _ _ _ _ (Ne.symm h.ne)).trans h.box, h.ne, below_setRow h.below (Nat.le_refl _) _⟩
theorem PP.more {w0 W : World} {gb g : Nat} {zs : List Int} {p q : Int} (h : PP w0 W gb g zs p q) (o : Obj) : PP w0 (W.alloc o) gb g zs p q := h.later ((Below.refl _ _).alloc (Nat.le_refl _) _)

def PartsPut (o : Option (List Int)) (gb : Nat) (w : World) (e : Ending) (w' : World) : Prop :=
  (match o with
    | none => e = .panicked (boom 32)
    | some ys => e = .returned (.tuple #[]) ∧ Arr w' gb 5 ys ∧ ys.length = 512) ∧ Below gb w w'
theorem PartsPut.no {o : Option (List Int)} {gb : Nat} {w w' : World} (ho : o = none) (hb : Below gb w w') : PartsPut o gb w (.panicked (boom 32)) w' := by
  subst ho; exact ⟨rfl, hb⟩
theorem PartsPut.yes {o : Option (List Int)} {ys : List Int} {gb : Nat} {w w' : World} (ho : o = some ys) (ha : Arr w' gb 5 ys) (hl : ys.length = 512) (hb : Below gb w w') : PartsPut o gb w (.returned (.tuple #[])) w' := by
  subst ho; exact ⟨⟨rfl, ha, hl⟩, hb⟩

namespace M
theorem pputs_zero {zs : List Int} {i : Nat} {p : Int × Int} {l : List (Int × Int)} (h : p.1 = 0 ∧ p.2 = 0) : pputs zs i (p :: l) = none := by rw [pputs, if_pos h]
theorem pputs_bad1 {zs : List Int} {i : Nat} {p : Int × Int} {l : List (Int × Int)} (h : ¬ (p.1 = 0 ∧ p.2 = 0)) (h1 : putOk p.1 12 0 most = false) : pputs zs i (p :: l) = none := by rw [pputs, if_neg h, h1, if_neg (by decide)]
theorem pputs_bad2 {zs : List Int} {i : Nat} {p : Int × Int} {l : List (Int × Int)} (h : ¬ (p.1 = 0 ∧ p.2 = 0)) (h1 : putOk p.1 12 0 most = true) (h2 : putOk p.2 12 0 most = false) : pputs zs i (p :: l) = none := by rw [pputs, if_neg h, h1, if_pos rfl, h2, if_neg (by decide)]
theorem pputs_next {zs : List Int} {i : Nat} {p : Int × Int} {l : List (Int × Int)} (h : ¬ (p.1 = 0 ∧ p.2 = 0)) (h1 : putOk p.1 12 0 most = true) (h2 : putOk p.2 12 0 most = true) :
    pputs zs i (p :: l) = pputs (splice (splice zs (386 + 24 * i) (putR p.1 12)) (386 + 24 * i + 12) (putR p.2 12)) (i + 1) l := by rw [pputs, if_neg h, h1, if_pos rfl, h2, if_pos rfl]
theorem putOk_fits {x : Int} {m : Nat} {lo up : Int} (h : putOk x m lo up = true) : putFits x m = true := by
  unfold putOk at h
  rw [Bool.and_eq_true] at h
  exact h.1
end M

def i64p (l : List (Int × Int)) : Prop := ∀ p ∈ l, (-9223372036854775808 ≤ p.1 ∧ p.1 ≤ 9223372036854775807) ∧ (-9223372036854775808 ≤ p.2 ∧ p.2 ≤ 9223372036854775807)

end Go.Proofs.YtgfihdfncddpaaaGreatDoor.Hd

/-! head.Print: its steps. -/
namespace Go.Proofs.YtgfihdfncddpaaaGreatDoor.Hd
open Go.RowKit Go.Lib

/-- A frame of Print, with the block so far. -/
structure RF (w0 W : World) (h : M.Hdr) (pv : Value) (zs : List Int) : Prop where
  q : QF w0 W h pv (.slice (some ⟨w0.heap.size + 3, 0, none⟩) 512 512)
  arr : Arr W (w0.heap.size + 3) 5 zs
  len : zs.length = 512
  bd : ∀ z ∈ zs, 0 ≤ z ∧ z ≤ 255
theorem RF.later {w0 W W' : World} {h : M.Hdr} {pv : Value} {zs : List Int} (r : RF w0 W h pv zs) (hb : Below W.heap.size W W') : RF w0 W' h pv zs := ⟨r.q.later hb, r.arr.below hb r.arr.lt, r.len, r.bd⟩
theorem RF.more {w0 W : World} {h : M.Hdr} {pv : Value} {zs : List Int} (r : RF w0 W h pv zs) (o : Obj) : RF w0 (W.alloc o) h pv zs := r.later ((Below.refl _ _).alloc (Nat.le_refl _) _)
theorem RF.laid {w0 W : World} {h : M.Hdr} {pv : Value} {zs : List Int} (r : RF w0 W h pv zs) {ys : List Int} (hl : ys.length = 512) (hbd : ∀ z ∈ ys, 0 ≤ z ∧ z ≤ 255) : RF w0 (laid W (w0.heap.size + 3) ys) h pv ys :=
  ⟨r.q.keep (below_setRow (Below.refl _ _) (Nat.le_refl _) _), r.arr.laid ys, hl, hbd⟩
theorem RF.drew {w0 W : World} {h : M.Hdr} {pv : Value} {zs : List Int} (r : RF w0 W h pv zs) : RF w0 W.drew h pv zs := ⟨⟨r.q.box, r.q.bytes, r.q.err, below_drew' r.q.below⟩, r.arr, r.len, r.bd⟩

theorem splice_bd {zs ys : List Int} {a : Nat} (h : ∀ z ∈ zs, 0 ≤ z ∧ z ≤ 255) (hy : ∀ z ∈ ys, 0 ≤ z ∧ z ≤ 255) : ∀ z ∈ splice zs a ys, 0 ≤ z ∧ z ≤ 255 := by
  intro z hz
  unfold splice at hz
  rcases List.mem_append.1 hz with h1 | h1
  · exact h z (List.mem_of_mem_take h1)
  · rcases List.mem_append.1 h1 with h2 | h2
    · exact hy z h2
    · exact h z (List.mem_of_mem_drop h2)
theorem listOf_bd {g : Nat → Int} {N : Nat} (hg : ∀ j, 0 ≤ g j ∧ g j ≤ 255) : ∀ z ∈ M.listOf g N, 0 ≤ z ∧ z ≤ 255 := by
  intro z hz
  unfold M.listOf at hz
  obtain ⟨j, _, rfl⟩ := List.mem_map.1 hz
  exact hg j
theorem putR_bd (x m : Int) : ∀ z ∈ M.putR x m, 0 ≤ z ∧ z ≤ 255 := by
  unfold M.putR M.binR
  split
  · exact listOf_bd (M.octG_bd _ _)
  · split
    · exact listOf_bd (M.binG_bd _ _)
    · intro z hz; cases hz
theorem magic_bd (k : Nat) : ∀ z ∈ M.magic k, 0 ≤ z ∧ z ≤ 255 := by
  match k with
  | 0 => decide
  | 1 => decide
  | k + 2 => show ∀ z ∈ [117, 115, 116, 97, 114, 32, 32, 0], (0 : Int) ≤ z ∧ z ≤ 255; decide
theorem set_bd {zs : List Int} {i : Nat} {x : Int} (h : ∀ z ∈ zs, 0 ≤ z ∧ z ≤ 255) (hx : 0 ≤ x ∧ x ≤ 255) : ∀ z ∈ zs.set i x, 0 ≤ z ∧ z ≤ 255 := by
  intro z hz
  rcases List.mem_or_eq_of_mem_set hz with h1 | h1
  · exact h z h1
  · rw [h1]; exact hx
theorem pputs_bd : ∀ (l : List (Int × Int)) (zs : List Int) (i : Nat) (ys : List Int), (∀ z ∈ zs, 0 ≤ z ∧ z ≤ 255) → M.pputs zs i l = some ys → ∀ z ∈ ys, 0 ≤ z ∧ z ≤ 255
  | [], zs, i, ys, h, e => by
    rw [M.pputs] at e
    injection e with e
    subst e; exact h
  | p :: l, zs, i, ys, h, e => by
    rw [M.pputs] at e
    split at e
    · cases e
    · split at e
      · split at e
        · exact pputs_bd l _ _ ys (splice_bd (splice_bd h (putR_bd _ _)) (putR_bd _ _)) e
        · cases e
      · cases e
theorem putP_bd {l : List (Int × Int)} {zs ys : List Int} (h : ∀ z ∈ zs, 0 ≤ z ∧ z ≤ 255) (e : M.putP zs l = some ys) : ∀ z ∈ ys, 0 ≤ z ∧ z ≤ 255 := by
  unfold M.putP at e
  split at e
  · exact pputs_bd l zs 0 ys h e
  · cases e
theorem splice_len {zs ys : List Int} {a n : Nat} (h : zs.length = 512) (hy : ys.length = n) (ha : a + n ≤ 512) : (splice zs a ys).length = 512 := by
  rw [length_splice _ _ _ (by omega), h]
theorem RF.text {w0 W w' : World} {h : M.Hdr} {pv : Value} {zs : List Int} {a m : Nat} {s : ByteArray} {e : Ending} (r : RF w0 W h pv zs) (ham : a + m ≤ 512) (t : TxtPut zs a m s (w0.heap.size + 3) W e w') :
    (M.putT zs a m s = none → e = .panicked (boom 33) ∧ QF w0 w' h pv (.slice (some ⟨w0.heap.size + 3, 0, none⟩) 512 512)) ∧ (∀ ys, M.putT zs a m s = some ys → e = .returned (.tuple #[]) ∧ RF w0 w' h pv ys) := by
  unfold TxtPut at t
  unfold M.putT
  cases hp : S.M.put s.data.toList (m : Int) with
  | none =>
    rw [hp] at t
    exact ⟨fun _ => ⟨t.1, r.q.later t.2⟩, (fun ys h => by cases h)⟩
  | some l =>
    rw [hp] at t
    refine ⟨(fun h => by cases h), fun ys hy => ?_⟩
    injection hy with hy
    subst hy
    obtain ⟨rfl, w1, b1, rfl⟩ := t
    exact ⟨rfl, (r.later b1).laid (splice_len r.len (by rw [S.ints_length]; exact put_len hp) ham) (splice_bd r.bd (S.ints_bd l))⟩
theorem RF.num {w0 W w' : World} {h : M.Hdr} {pv : Value} {zs : List Int} {a m : Nat} {there : Bool} {lo up x : Int} {e : Ending} (r : RF w0 W h pv zs) (ham : a + m ≤ 512) (t : NumPut zs a m there lo up x (w0.heap.size + 3) W e w') :
    (M.putN zs a m there lo up x = none → e = .panicked (boom 32) ∧ QF w0 w' h pv (.slice (some ⟨w0.heap.size + 3, 0, none⟩) 512 512)) ∧ (∀ ys, M.putN zs a m there lo up x = some ys → e = .returned (.tuple #[]) ∧ RF w0 w' h pv ys) := by
  unfold NumPut at t
  unfold M.putN
  cases there with
  | true =>
    rw [if_pos rfl] at t ⊢
    cases ho : M.putOk x m lo up with
    | true =>
      rw [ho, if_pos rfl] at t
      rw [if_pos rfl]
      refine ⟨(fun h => by cases h), fun ys hy => ?_⟩
      injection hy with hy
      subst hy
      obtain ⟨rfl, w1, b1, rfl⟩ := t
      exact ⟨rfl, (r.later b1).laid (splice_len r.len (putR_len (M.putOk_fits ho)) ham) (splice_bd r.bd (putR_bd x m))⟩
    | false =>
      rw [ho, if_neg (by decide)] at t
      rw [if_neg (by decide)]
      exact ⟨fun _ => ⟨t.1, r.q.later t.2⟩, (fun ys h => by cases h)⟩
  | false =>
    rw [if_neg (by decide)] at t ⊢
    by_cases h0 : x = 0
    · rw [if_pos h0] at t ⊢
      refine ⟨(fun h => by cases h), fun ys hy => ?_⟩
      injection hy with hy
      subst hy
      exact ⟨t.1, r.later t.2⟩
    · rw [if_neg h0] at t ⊢
      exact ⟨fun _ => ⟨t.1, r.q.later t.2⟩, (fun ys h => by cases h)⟩

namespace M
theorem known_bd {k : Int} (h : known k = true) : 0 ≤ k ∧ k ≤ 255 := by
  unfold known at h
  simp at h
  omega
end M
end Go.Proofs.YtgfihdfncddpaaaGreatDoor.Hd

/-! What is printed is parsed: plain mathematics. -/
namespace Go.Proofs.YtgfihdfncddpaaaGreatDoor.Hd
namespace M

theorem sub_ext {xs ys : List Int} {b n : Nat} (h : ∀ j, j < n → xs[b + j]? = ys[b + j]?) : sub xs b n = sub ys b n := by
  unfold sub
  apply List.ext_getElem?
  intro j
  rw [List.getElem?_take, List.getElem?_take]
  split
  · rw [List.getElem?_drop, List.getElem?_drop]
    exact h j (by assumption)
  · rfl
theorem splice_get {zs f : List Int} {a i : Nat} (h : a + f.length ≤ zs.length) (hd : i < a ∨ a + f.length ≤ i) : (splice zs a f)[i]? = zs[i]? := by
  unfold splice
  have hl : (zs.take a).length = a := by rw [List.length_take]; omega
  rcases hd with hd | hd
  · rw [List.getElem?_append_left (by omega), List.getElem?_take, if_pos hd]
  · rw [List.getElem?_append_right (by omega), List.getElem?_append_right (by omega), List.getElem?_drop, hl]
    congr 1
    omega
theorem sub_off {zs f : List Int} {a m b n : Nat} (hm : f.length = m) (h : a + m ≤ zs.length) (hd : b + n ≤ a ∨ a + m ≤ b) : sub (splice zs a f) b n = sub zs b n := by
  subst hm
  exact sub_ext fun j hj => splice_get h (by omega)
theorem sub_nils (b n N : Nat) (h : b + n ≤ N) : sub (nils N) b n = nils n := by
  unfold sub nils
  rw [List.drop_replicate, List.take_replicate, Nat.min_eq_left (by omega)]

theorem magic_len' (k : Nat) : (magic k).length = 8 := by
  match k with
  | 0 => rfl
  | 1 => rfl
  | k + 2 => rfl
/-! One step. -/
theorem putT_some {zs z : List Int} {a m : Nat} {s : ByteArray} (h : putT zs a m s = some z) : ∃ l, S.M.put s.data.toList (m : Int) = some l ∧ z = splice zs a (S.ints l) ∧ (S.ints l).length = m := by
  unfold putT at h
  obtain ⟨l, hl, rfl⟩ := Option.map_eq_some_iff.1 h
  exact ⟨l, hl, rfl, by rw [S.ints_length]; exact put_len hl⟩
/-! Parts. -/
/-! What was printed, step by step. -/
theorem bnd_ok {o : Option (List Int)} {e : Int} {f : List Int → Int × List Int} {r : List Int} (he : e ≠ 0) (h : bnd o e f = (0, r)) : ∃ z, o = some z ∧ f z = (0, r) := by
  cases o with
  | none => injection h with h; exact absurd h he
  | some z => exact ⟨z, rfl, h⟩
theorem chk_ok {b : Bool} {e : Int} {s : Int × List Int} {r : List Int} (he : e ≠ 0) (h : chk b e s = (0, r)) : b = true ∧ s = (0, r) := by
  cases b with
  | false => injection h with h; exact absurd h he
  | true => exact ⟨rfl, h⟩

/-- All that was laid. -/
structure Steps (h : Hdr) (zs : List Int) where
  z1 : List Int
  z2 : List Int
  z3 : List Int
  z4 : List Int
  z5 : List Int
  y1 : List Int
  y2 : List Int
  y3 : List Int
  y4 : List Int
  y5 : List Int
  y6 : List Int
  y7 : List Int
  y8 : List Int
  x : List Int
  kd : known h.kind = true ∧ may h.kind h.way = true
  t0 : putT ((nils 512).set 156 h.kind) 0 100 h.name = some z1
  t1 : putT z1 157 100 h.link = some z2
  t2 : putT z2 265 32 h.user = some z3
  t3 : putT z3 297 32 h.group = some z4
  t4 : putT z4 345 155 h.pre = some z5
  isbare : bare h = true
  isway : isWay h.way = true
  n0 : putN (splice z5 257 (magic h.way.toNat)) 100 8 true 0 most h.mode = some y1
  n1 : putN y1 108 8 true 0 most h.uid = some y2
  n2 : putN y2 116 8 true 0 most h.gid = some y3
  n3 : putN y3 124 12 true 0 maxSize h.size = some y4
  n4 : putN y4 136 12 true (-most) most h.mtime = some y5
  n5 : putN y5 329 8 (h.way != 0) 0 most h.major = some y6
  n6 : putN y6 337 8 (h.way != 0) 0 most h.minor = some y7
  n7 : putN y7 483 12 (h.kind == 83 && h.way == 2) 0 maxSize h.real = some y8
  isflat : flat h = true
  pp : putP y8 h.parts = some x
  out : zs = sld (if h.more = true then x.set 482 1 else x)
theorem steps {h : Hdr} {zs : List Int} (hp : hprint h = (0, zs)) : Nonempty (Steps h zs) := by
  unfold hprint at hp
  obtain ⟨k1, hp⟩ := chk_ok (by decide) hp
  obtain ⟨z1, t0, hp⟩ := bnd_ok (by decide) hp
  obtain ⟨z2, t1, hp⟩ := bnd_ok (by decide) hp
  obtain ⟨z3, t2, hp⟩ := bnd_ok (by decide) hp
  obtain ⟨z4, t3, hp⟩ := bnd_ok (by decide) hp
  obtain ⟨z5, t4, hp⟩ := bnd_ok (by decide) hp
  obtain ⟨k2, hp⟩ := chk_ok (by decide) hp
  obtain ⟨k3, hp⟩ := chk_ok (by decide) hp
  obtain ⟨y1, n0, hp⟩ := bnd_ok (by decide) hp
  obtain ⟨y2, n1, hp⟩ := bnd_ok (by decide) hp
  obtain ⟨y3, n2, hp⟩ := bnd_ok (by decide) hp
  obtain ⟨y4, n3, hp⟩ := bnd_ok (by decide) hp
  obtain ⟨y5, n4, hp⟩ := bnd_ok (by decide) hp
  obtain ⟨y6, n5, hp⟩ := bnd_ok (by decide) hp
  obtain ⟨y7, n6, hp⟩ := bnd_ok (by decide) hp
  obtain ⟨y8, n7, hp⟩ := bnd_ok (by decide) hp
  obtain ⟨k4, hp⟩ := chk_ok (by decide) hp
  obtain ⟨x, pp, hp⟩ := bnd_ok (by decide) hp
  injection hp with _ hp
  rw [Bool.and_eq_true] at k1
  exact ⟨⟨z1, z2, z3, z4, z5, y1, y2, y3, y4, y5, y6, y7, y8, x, k1, t0, t1, t2, t3, t4, k2, k3, n0, n1, n2, n3, n4, n5, n6, n7, k4, pp, hp.symm⟩⟩

section
variable {h : Hdr} {zs : List Int}
theorem Steps.few (s : Steps h zs) : h.parts.length ≤ 4 ∧ pputs s.y8 0 h.parts = some s.x := by
  have hp := s.pp
  unfold putP at hp
  split at hp
  · exact ⟨by assumption, hp⟩
  · cases hp
end
end M
end Go.Proofs.YtgfihdfncddpaaaGreatDoor.Hd

/-! What is printed is parsed: the header as a whole. -/
namespace Go.Proofs.YtgfihdfncddpaaaGreatDoor.Hd
namespace M

theorem putT_bd {zs z : List Int} {a m : Nat} {s : ByteArray} (h : putT zs a m s = some z) (hb : ∀ v ∈ zs, 0 ≤ v ∧ v ≤ 255) : ∀ v ∈ z, 0 ≤ v ∧ v ≤ 255 := by
  obtain ⟨l, _, rfl, _⟩ := putT_some h
  exact splice_bd hb (S.ints_bd l)
theorem putN_bd {zs z : List Int} {a m : Nat} {there : Bool} {lo up x : Int} (h : putN zs a m there lo up x = some z) (hb : ∀ v ∈ zs, 0 ≤ v ∧ v ≤ 255) : ∀ v ∈ z, 0 ≤ v ∧ v ≤ 255 := by
  unfold putN at h
  split at h
  · split at h
    · injection h with h; rw [← h]; exact splice_bd hb (putR_bd _ _)
    · cases h
  · split at h
    · injection h with h; rw [← h]; exact hb
    · cases h

section
variable {h : Hdr} {zs : List Int}
/-- Where the kind is a sparse one's, the way is Gnu's; where it is none, there are no parts. -/
theorem Steps.sparse (s : Steps h zs) : (h.kind = 83 ∧ h.way = 2) ∨ (h.kind ≠ 83 ∧ h.parts = [] ∧ h.more = false) := by
  have hm := s.kd.2
  have hf := s.isflat
  by_cases hk : h.kind = 83
  · left
    unfold may at hm
    rw [hk] at hm
    exact ⟨hk, by simpa using hm⟩
  · right
    unfold flat at hf
    rw [show (h.kind == 83) = false by simpa using hk, Bool.false_or, Bool.and_eq_true, decide_eq_true_eq] at hf
    exact ⟨hk, List.eq_nil_of_length_eq_zero hf.1, by simpa using hf.2⟩
theorem Steps.bd (s : Steps h zs) : ∀ v ∈ zs, 0 ≤ v ∧ v ≤ 255 := by
  have b0 : ∀ v ∈ (nils 512).set 156 h.kind, 0 ≤ v ∧ v ≤ 255 := set_bd (nils_bd 512) (known_bd s.kd.1)
  have b5 := putT_bd s.t4 (putT_bd s.t3 (putT_bd s.t2 (putT_bd s.t1 (putT_bd s.t0 b0))))
  have c0 : ∀ v ∈ splice s.z5 257 (magic h.way.toNat), 0 ≤ v ∧ v ≤ 255 := splice_bd b5 (magic_bd _)
  have c8 := putN_bd s.n7 (putN_bd s.n6 (putN_bd s.n5 (putN_bd s.n4 (putN_bd s.n3 (putN_bd s.n2 (putN_bd s.n1 (putN_bd s.n0 c0)))))))
  have cx := putP_bd c8 s.pp
  intro v hv
  rw [s.out] at hv
  refine sld_bd ?_ v hv
  split
  · exact set_bd cx (by decide)
  · exact cx
end
end M
end Go.Proofs.YtgfihdfncddpaaaGreatDoor.Hd

/-! Which error Print answers, and when it answers none. -/
namespace Go.Proofs.YtgfihdfncddpaaaGreatDoor.Hd
open Go.RowKit Go.Lib
namespace M
def tOk (m : Nat) (s : ByteArray) : Bool := (S.M.put s.data.toList m).isSome
def nOk (m : Nat) (there : Bool) (lo up x : Int) : Bool := if there = true then putOk x m lo up else decide (x = 0)
def pOk : List (Int × Int) → Bool
  | [] => true
  | p :: l => !(p.1 == 0 && p.2 == 0) && (putOk p.1 12 0 most && (putOk p.2 12 0 most && pOk l))
def st (b : Bool) (e r : Int) : Int := if b = true then r else e
theorem putT_isSome (zs : List Int) (a m : Nat) (s : ByteArray) : (putT zs a m s).isSome = tOk m s := by
  unfold putT tOk
  cases S.M.put s.data.toList m <;> rfl
theorem putN_isSome (zs : List Int) (a m : Nat) (there : Bool) (lo up x : Int) : (putN zs a m there lo up x).isSome = nOk m there lo up x := by
  unfold putN nOk
  cases there
  · by_cases hx : x = 0 <;> simp [hx]
  · cases putOk x m lo up <;> rfl
theorem pputs_isSome : ∀ (l : List (Int × Int)) (zs : List Int) (i : Nat), (pputs zs i l).isSome = pOk l
  | [], _, _ => rfl
  | p :: l, zs, i => by
    by_cases h : p.1 = 0 ∧ p.2 = 0
    · simp [pputs_zero h, pOk, h.1, h.2]
    · have e : (p.1 == 0 && p.2 == 0) = false := by simpa using h
      cases h1 : putOk p.1 12 0 most with
      | false => rw [pputs_bad1 h h1]; simp [pOk, e, h1]
      | true =>
        cases h2 : putOk p.2 12 0 most with
        | false => rw [pputs_bad2 h h1 h2]; simp [pOk, e, h1, h2]
        | true => rw [pputs_next h h1 h2, pputs_isSome l]; simp [pOk, e, h1, h2]
theorem putP_isSome (zs : List Int) (l : List (Int × Int)) : (putP zs l).isSome = (decide (l.length ≤ 4) && pOk l) := by
  unfold putP
  by_cases h : l.length ≤ 4
  · rw [if_pos h, pputs_isSome]; simp [h]
  · rw [if_neg h]; simp [h]
theorem bnd_err {o : Option (List Int)} {b : Bool} {e r : Int} {f : List Int → Int × List Int} (ho : o.isSome = b) (h : ∀ z, (f z).1 = r) : (bnd o e f).1 = st b e r := by
  subst ho
  cases o with
  | none => rfl
  | some z => exact h z
theorem chk_err {b : Bool} {e r : Int} {q : Int × List Int} (h : q.1 = r) : (chk b e q).1 = st b e r := by
  cases b
  · rfl
  · exact h
/-- The error's number. -/
def herr (h : Hdr) : Int :=
  st (known h.kind && may h.kind h.way) 31 <| st (tOk 100 h.name) 33 <| st (tOk 100 h.link) 33 <| st (tOk 32 h.user) 33 <| st (tOk 32 h.group) 33 <| st (tOk 155 h.pre) 33 <|
  st (bare h) 32 <| st (isWay h.way) 32 <| st (nOk 8 true 0 most h.mode) 32 <| st (nOk 8 true 0 most h.uid) 32 <| st (nOk 8 true 0 most h.gid) 32 <| st (nOk 12 true 0 maxSize h.size) 32 <|
  st (nOk 12 true (-most) most h.mtime) 32 <| st (nOk 8 (h.way != 0) 0 most h.major) 32 <| st (nOk 8 (h.way != 0) 0 most h.minor) 32 <| st (nOk 12 (h.kind == 83 && h.way == 2) 0 maxSize h.real) 32 <|
  st (flat h) 32 <| st (decide (h.parts.length ≤ 4) && pOk h.parts) 32 0
theorem hprint_err (h : Hdr) : (hprint h).1 = herr h :=
  chk_err <| bnd_err (putT_isSome _ _ _ _) fun _ => bnd_err (putT_isSome _ _ _ _) fun _ => bnd_err (putT_isSome _ _ _ _) fun _ => bnd_err (putT_isSome _ _ _ _) fun _ => bnd_err (putT_isSome _ _ _ _) fun _ =>
  chk_err <| chk_err <| bnd_err (putN_isSome _ _ _ _ _ _ _) fun _ => bnd_err (putN_isSome _ _ _ _ _ _ _) fun _ => bnd_err (putN_isSome _ _ _ _ _ _ _) fun _ => bnd_err (putN_isSome _ _ _ _ _ _ _) fun _ =>
  bnd_err (putN_isSome _ _ _ _ _ _ _) fun _ => bnd_err (putN_isSome _ _ _ _ _ _ _) fun _ => bnd_err (putN_isSome _ _ _ _ _ _ _) fun _ => bnd_err (putN_isSome _ _ _ _ _ _ _) fun _ =>
  chk_err <| bnd_err (putP_isSome _ _) fun _ => rfl
theorem st_ne {b : Bool} {e r : Int} (he : e ≠ 0) (h : st b e r = 0) : b = true ∧ r = 0 := by
  cases b
  · exact absurd h he
  · exact ⟨rfl, h⟩
end M
end Go.Proofs.YtgfihdfncddpaaaGreatDoor.Hd

/-! How the document lays a header, and that it is laid as it should be: plain mathematics. -/
namespace Go.Proofs.YtgfihdfncddpaaaGreatDoor.Hd
open Go.RowKit Go.Lib
namespace M

/-- Laid one behind the other. -/
def lays (z : List Int) (l : List (Nat × List Int)) : List Int := l.foldl (fun z p => splice z p.1 p.2) z
theorem lays_cons (z : List Int) (p : Nat × List Int) (l : List (Nat × List Int)) : lays z (p :: l) = lays (splice z p.1 p.2) l := rfl
theorem lays_app (z : List Int) (a b : List (Nat × List Int)) : lays z (a ++ b) = lays (lays z a) b := by unfold lays; rw [List.foldl_append]
def Fit (p : Nat × List Int) : Prop := p.1 + p.2.length ≤ 512
def Off (p q : Nat × List Int) : Prop := p.1 + p.2.length ≤ q.1 ∨ q.1 + q.2.length ≤ p.1
theorem splice_in {zs f : List Int} {a i : Nat} (h : a + f.length ≤ zs.length) (h1 : a ≤ i) (h2 : i < a + f.length) : (splice zs a f)[i]? = f[i - a]? := by
  unfold splice
  have hl : (zs.take a).length = a := by rw [List.length_take]; omega
  rw [List.getElem?_append_right (by omega), hl, List.getElem?_append_left (by omega)]
theorem splice_swap {z f g : List Int} {a b : Nat} (hz : z.length = 512) (ha : a + f.length ≤ 512) (hb : b + g.length ≤ 512) (hd : a + f.length ≤ b ∨ b + g.length ≤ a) : splice (splice z a f) b g = splice (splice z b g) a f := by
  have l1 : (splice z a f).length = 512 := by rw [length_splice _ _ _ (by omega), hz]
  have l2 : (splice z b g).length = 512 := by rw [length_splice _ _ _ (by omega), hz]
  apply List.ext_getElem?
  intro i
  by_cases h1 : a ≤ i ∧ i < a + f.length
  · rw [splice_get (by omega) (by omega), splice_in (by omega) h1.1 h1.2, splice_in (by omega) h1.1 h1.2]
  · by_cases h2 : b ≤ i ∧ i < b + g.length
    · rw [splice_in (by omega) h2.1 h2.2, splice_get (by omega) (by omega), splice_in (by omega) h2.1 h2.2]
    · rw [splice_get (by omega) (by omega), splice_get (by omega) (by omega), splice_get (by omega) (by omega), splice_get (by omega) (by omega)]
theorem splice_self {z f : List Int} {a : Nat} (h : a + f.length ≤ z.length) (e : sub z a f.length = f) : splice z a f = z := by
  apply List.ext_getElem?
  intro i
  by_cases h1 : a ≤ i ∧ i < a + f.length
  · rw [splice_in h h1.1 h1.2]
    have := congrArg (fun l => l[i - a]?) e
    unfold sub at this
    rw [List.getElem?_take, if_pos (by omega), List.getElem?_drop, Nat.add_sub_cancel' h1.1] at this
    exact this.symm
  · exact splice_get h (by omega)
theorem set_splice {z : List Int} {i : Nat} (x : Int) (h : i < z.length) : z.set i x = splice z i [x] := by
  rw [List.set_eq_take_append_cons_drop, if_pos h]
  rfl
theorem lays_len : ∀ (l : List (Nat × List Int)) (z : List Int), z.length = 512 → (∀ q ∈ l, Fit q) → (lays z l).length = 512
  | [], _, hz, _ => hz
  | p :: l, z, hz, hf => by
    rw [lays_cons]
    have h0 := hf p (List.mem_cons_self ..)
    unfold Fit at h0
    exact lays_len l _ (by rw [length_splice _ _ _ (by omega), hz]) (fun q hq => hf q (List.mem_cons_of_mem _ hq))
theorem lays_swap (p : Nat × List Int) (hp : Fit p) : ∀ (l : List (Nat × List Int)) (z : List Int), z.length = 512 → (∀ q ∈ l, Fit q ∧ Off p q) → lays (splice z p.1 p.2) l = splice (lays z l) p.1 p.2
  | [], _, _, _ => rfl
  | q :: l, z, hz, hf => by
    have h0 := hf q (List.mem_cons_self ..)
    unfold Fit at h0 hp
    rw [lays_cons, lays_cons, splice_swap hz hp h0.1 h0.2]
    exact lays_swap p hp l _ (by rw [length_splice _ _ _ (by omega), hz]) (fun q hq => hf q (List.mem_cons_of_mem _ hq))
/-! Texts. -/
def tq (h : Hdr) : List (ByteArray × Nat × Nat) := [(h.name, 0, 100), (h.link, 157, 100), (h.user, 265, 32), (h.group, 297, 32), (h.pre, 345, 155)]
def textL (s : ByteArray) (m : Nat) : List UInt8 := s.data.toList ++ List.replicate (m - s.data.toList.length) 0
def tl' (x : ByteArray × Nat × Nat) : Nat × List Int := (x.2.1, S.ints (textL x.1 x.2.2))
theorem put_eq {s : ByteArray} {m : Nat} {l : List UInt8} (h : S.M.put s.data.toList (m : Int) = some l) : l = textL s m := by
  unfold S.M.put at h
  split at h
  · injection h with h
    rw [← h]
    unfold textL
    rfl
  · cases h
theorem tOk_put {s : ByteArray} {m : Nat} (h : tOk m s = true) : S.M.put s.data.toList (m : Int) = some (textL s m) := by
  unfold tOk at h
  obtain ⟨l, hl⟩ := Option.isSome_iff_exists.1 h
  rw [hl, put_eq hl]
theorem tOk_len {s : ByteArray} {m : Nat} (h : tOk m s = true) : (S.ints (textL s m)).length = m := by
  rw [S.ints_length]
  exact put_len (tOk_put h)
theorem textL_blank {s : ByteArray} (m : Nat) (hb : blank s = true) : S.ints (textL s m) = nils m := by
  have hs : s = ⟨#[]⟩ := toList_inj (by rw [ByteArray.toList_eq ⟨#[]⟩]; simpa [blank] using hb)
  subst hs
  unfold textL S.ints nils
  simp
/-- The document's texts. -/
def dt : List Int → List (ByteArray × Nat × Nat) → Option (List Int)
  | z, [] => some z
  | z, x :: r => if tOk x.2.2 x.1 = true then dt (if blank x.1 = true then z else splice z x.2.1 (S.ints (textL x.1 x.2.2))) r else none
theorem dt_iff : ∀ (l : List (ByteArray × Nat × Nat)) (z y : List Int), z.length = 512 → l.Pairwise (fun x y => x.2.1 + x.2.2 ≤ y.2.1) → (∀ x ∈ l, x.2.1 + x.2.2 ≤ 512 ∧ sub z x.2.1 x.2.2 = nils x.2.2) →
    (dt z l = some y ↔ (∀ x ∈ l, tOk x.2.2 x.1 = true) ∧ y = lays z (l.map tl'))
  | [], z, y, _, _, _ => ⟨fun e => ⟨fun _ h => (nomatch h), (Option.some.inj e).symm⟩, fun e => congrArg some e.2.symm⟩
  | x :: r, z, y, hz, hp, hn => by
    rw [List.pairwise_cons] at hp
    show (if tOk x.2.2 x.1 = true then dt (if blank x.1 = true then z else splice z x.2.1 (S.ints (textL x.1 x.2.2))) r else none) = some y ↔ _
    cases ht : tOk x.2.2 x.1 with
    | false =>
      rw [if_neg (by decide)]
      refine ⟨fun e => (nomatch e), fun e => ?_⟩
      have := e.1 x (List.mem_cons_self ..)
      rw [ht] at this
      cases this
    | true =>
      rw [if_pos rfl]
      have hl := tOk_len ht
      have h0 := hn x (List.mem_cons_self ..)
      have e : (if blank x.1 = true then z else splice z x.2.1 (S.ints (textL x.1 x.2.2))) = splice z x.2.1 (S.ints (textL x.1 x.2.2)) := by
        split
        · rename_i hb
          rw [textL_blank _ hb]
          exact (splice_self (by rw [nils_len]; omega) (by rw [nils_len]; exact h0.2)).symm
        · rfl
      rw [e, dt_iff r _ y (by rw [length_splice _ _ _ (by omega), hz]) hp.2 (fun q hq => ⟨(hn q (List.mem_cons_of_mem _ hq)).1, by
        rw [sub_off hl (by omega) (.inr (hp.1 q hq))]
        exact (hn q (List.mem_cons_of_mem _ hq)).2⟩)]
      rw [List.map_cons, lays_cons]
      show (_ ∧ y = _) ↔ (_ ∧ y = _)
      constructor
      · rintro ⟨h1, h2⟩
        refine ⟨fun q hq => ?_, h2⟩
        rcases List.mem_cons.1 hq with rfl | hq
        · exact ht
        · exact h1 q hq
      · rintro ⟨h1, h2⟩
        exact ⟨fun q hq => h1 q (List.mem_cons_of_mem _ hq), h2⟩

/-! Numbers. -/
def pq : Nat → List (Int × Int) → List (Int × Nat × Nat)
  | _, [] => []
  | i, p :: l => (p.1, 386 + 24 * i, 12) :: (p.2, 398 + 24 * i, 12) :: pq (i + 1) l
theorem pq_snoc : ∀ (l : List (Int × Int)) (i : Nat) (p : Int × Int), pq i (l ++ [p]) = pq i l ++ [(p.1, 386 + 24 * (i + l.length), 12), (p.2, 398 + 24 * (i + l.length), 12)]
  | [], i, p => rfl
  | q :: l, i, p => by
    rw [List.cons_append, pq, pq, pq_snoc l (i + 1) p, List.length_cons, show i + (l.length + 1) = i + 1 + l.length by omega]
    rfl
theorem pq_at : ∀ (l : List (Int × Int)) (i : Nat) (x : Int × Nat × Nat), x ∈ pq i l → 386 + 24 * i ≤ x.2.1 ∧ x.2.1 + 12 ≤ 386 + 24 * (i + l.length) ∧ x.2.2 = 12 ∧ ∃ p ∈ l, x.1 = p.1 ∨ x.1 = p.2
  | [], _, _, h => nomatch h
  | p :: l, i, x, h => by
    rw [pq] at h
    rw [List.length_cons]
    rcases List.mem_cons.1 h with rfl | h
    · exact ⟨Nat.le_refl _, by show 386 + 24 * i + 12 ≤ _; omega, rfl, p, List.mem_cons_self .., .inl rfl⟩
    · rcases List.mem_cons.1 h with rfl | h
      · exact ⟨by show _ ≤ 398 + 24 * i; omega, by show 398 + 24 * i + 12 ≤ _; omega, rfl, p, List.mem_cons_self .., .inr rfl⟩
      · obtain ⟨h1, h2, h3, q, hq, h4⟩ := pq_at l (i + 1) x h
        exact ⟨by omega, by omega, h3, q, List.mem_cons_of_mem _ hq, h4⟩
def nq5 (h : Hdr) : List (Int × Nat × Nat) := [(h.mode, 100, 8), (h.uid, 108, 8), (h.gid, 116, 8), (h.size, 124, 12), (h.mtime, 136, 12)]
def nq7 (h : Hdr) : List (Int × Nat × Nat) := nq5 h ++ (if (decide (0 < h.way)) = true then [(h.major, 329, 8), (h.minor, 337, 8)] else [])
def nqR (h : Hdr) (k : Nat) : List (Int × Nat × Nat) := nq7 h ++ ((h.real, 483, 12) :: pq 0 (h.parts.take k))
def nq (h : Hdr) : List (Int × Nat × Nat) := if (h.kind == 83) = true then nqR h h.parts.length else nq7 h
def dOk (x : Int × Nat × Nat) : Bool := putFits x.1 x.2.2 && (decide (0 ≤ x.1) || x.2.1 == 136)
def nl (x : Int × Nat × Nat) : Nat × List Int := (x.2.1, putR x.1 x.2.2)
/-- The document's numbers. -/
def dn : List Int → List (Int × Nat × Nat) → Option (List Int)
  | z, [] => some z
  | z, x :: r => if dOk x = true then dn (splice z x.2.1 (putR x.1 x.2.2)) r else none
theorem dn_iff : ∀ (l : List (Int × Nat × Nat)) (z y : List Int), dn z l = some y ↔ (∀ x ∈ l, dOk x = true) ∧ y = lays z (l.map nl)
  | [], z, y => ⟨fun e => ⟨fun _ h => (nomatch h), (Option.some.inj e).symm⟩, fun e => congrArg some e.2.symm⟩
  | x :: r, z, y => by
    show (if dOk x = true then dn (splice z x.2.1 (putR x.1 x.2.2)) r else none) = some y ↔ _
    cases ht : dOk x with
    | false =>
      rw [if_neg (by decide)]
      refine ⟨fun e => (nomatch e), fun e => ?_⟩
      have := e.1 x (List.mem_cons_self ..)
      rw [ht] at this
      cases this
    | true =>
      rw [if_pos rfl, dn_iff r _ y, List.map_cons, lays_cons]
      constructor
      · rintro ⟨h1, h2⟩
        refine ⟨fun q hq => ?_, h2⟩
        rcases List.mem_cons.1 hq with rfl | hq
        · exact ht
        · exact h1 q hq
      · rintro ⟨h1, h2⟩
        exact ⟨fun q hq => h1 q (List.mem_cons_of_mem _ hq), h2⟩

/-! What may be. -/
def f1 (h : Hdr) : Bool := decide (0 ≤ h.way ∧ h.way ≤ 2 ∧ h.size ≤ maxSize ∧ h.real ≤ maxSize ∧ h.parts.length ≤ 4)
def f2 (h : Hdr) : Bool := decide ((h.way = 0 → blank h.user = true ∧ blank h.group = true ∧ h.major = 0 ∧ h.minor = 0) ∧ (h.way ≠ 1 → blank h.pre = true))
def f3 (l : List (Int × Int)) : Bool := l.all fun p => !(p.1 == 0 && p.2 == 0)
def f4 (h : Hdr) : Bool := decide (h.kind = 83 ∨ (h.parts.length = 0 ∧ h.more = false ∧ h.real = 0))
def fits (h : Hdr) : Bool := f1 h && (f2 h && (f3 h.parts && f4 h))
def dprint (h : Hdr) : Option (List Int) :=
  if (known h.kind && may h.kind h.way) = true then (dt (nils 512) (tq h)).bind fun z => if fits h = true then (dn z (nq h)).map fun y => sld (if h.more = true then (splice (y.set 156 h.kind) 257 (magic h.way.toNat)).set 482 1 else splice (y.set 156 h.kind) 257 (magic h.way.toNat)) else none
  else none
theorem fits_bd {x : Int} {m : Nat} (h : putFits x m = true) : -most ≤ x ∧ x ≤ most := by
  unfold putFits at h
  rw [Bool.or_eq_true] at h
  rcases h with h | h
  · unfold octFits at h
    simp only [Bool.and_eq_true, decide_eq_true_eq] at h
    have h0 := h.1.1.2
    have h1 := h.1.2
    unfold most at *
    omega
  · unfold binFits at h
    simp only [Bool.and_eq_true, decide_eq_true_eq, beq_iff_eq] at h
    have h1 := h.1.2
    have h2 := h.2
    rw [binN_yes h1] at h2
    unfold binOk at h1
    simp only [Bool.and_eq_true, decide_eq_true_eq] at h1
    rw [h2] at h1
    exact h1.2
theorem putOk_iff {x : Int} {m : Nat} {lo up : Int} : putOk x m lo up = true ↔ putFits x m = true ∧ lo ≤ x ∧ x ≤ up := by
  unfold putOk
  rw [Bool.and_eq_true, Bool.and_eq_true, decide_eq_true_eq, decide_eq_true_eq]
theorem dOk_iff {x : Int} {a m : Nat} : dOk (x, a, m) = true ↔ putFits x m = true ∧ (0 ≤ x ∨ a = 136) := by
  unfold dOk
  rw [Bool.and_eq_true, Bool.or_eq_true, decide_eq_true_eq, beq_iff_eq]
theorem pOk_iff : ∀ (l : List (Int × Int)) (i : Nat), pOk l = true ↔ f3 l = true ∧ ∀ x ∈ pq i l, dOk x = true
  | [], _ => by simp [pOk, f3, pq]
  | p :: l, i => by
    have ih := pOk_iff l (i + 1)
    have e1 : putOk p.1 12 0 most = true ↔ dOk (p.1, 386 + 24 * i, 12) = true := by
      rw [putOk_iff, dOk_iff]
      exact ⟨fun h => ⟨h.1, .inl h.2.1⟩, fun h => ⟨h.1, by omega, (fits_bd h.1).2⟩⟩
    have e2 : putOk p.2 12 0 most = true ↔ dOk (p.2, 398 + 24 * i, 12) = true := by
      rw [putOk_iff, dOk_iff]
      exact ⟨fun h => ⟨h.1, .inl h.2.1⟩, fun h => ⟨h.1, by omega, (fits_bd h.1).2⟩⟩
    have e3 : f3 (p :: l) = (!(p.1 == 0 && p.2 == 0) && f3 l) := rfl
    have e4 : pOk (p :: l) = (!(p.1 == 0 && p.2 == 0) && (putOk p.1 12 0 most && (putOk p.2 12 0 most && pOk l))) := rfl
    have e5 : pq i (p :: l) = (p.1, 386 + 24 * i, 12) :: (p.2, 398 + 24 * i, 12) :: pq (i + 1) l := rfl
    rw [e3, e4, e5, Bool.and_eq_true, Bool.and_eq_true, Bool.and_eq_true, Bool.and_eq_true, e1, e2, ih, List.forall_mem_cons, List.forall_mem_cons]
    constructor
    · rintro ⟨a, b, c, d, e⟩; exact ⟨⟨a, d⟩, b, c, e⟩
    · rintro ⟨⟨a, d⟩, b, c, e⟩; exact ⟨a, b, c, d, e⟩
theorem f1_iff {h : Hdr} : f1 h = true ↔ (0 ≤ h.way ∧ h.way ≤ 2 ∧ h.size ≤ maxSize ∧ h.real ≤ maxSize ∧ h.parts.length ≤ 4) := by unfold f1; rw [decide_eq_true_eq]
theorem f2_iff {h : Hdr} : f2 h = true ↔ ((h.way = 0 → blank h.user = true ∧ blank h.group = true ∧ h.major = 0 ∧ h.minor = 0) ∧ (h.way ≠ 1 → blank h.pre = true)) := by unfold f2; rw [decide_eq_true_eq]
theorem f4_iff {h : Hdr} : f4 h = true ↔ (h.kind = 83 ∨ (h.parts.length = 0 ∧ h.more = false ∧ h.real = 0)) := by unfold f4; rw [decide_eq_true_eq]
theorem fits_iff {h : Hdr} : fits h = true ↔ f1 h = true ∧ f2 h = true ∧ f3 h.parts = true ∧ f4 h = true := by
  unfold fits; rw [Bool.and_eq_true, Bool.and_eq_true, Bool.and_eq_true]
theorem st_zero {b : Bool} {e r : Int} (he : e ≠ 0) : st b e r = 0 ↔ b = true ∧ r = 0 := by
  constructor
  · exact st_ne he
  · rintro ⟨rfl, h⟩; exact h
theorem bare_iff {h : Hdr} : bare h = true ↔ (h.way = 0 → blank h.user = true ∧ blank h.group = true) ∧ (h.way ≠ 1 → blank h.pre = true) := by
  unfold bare
  simp only [Bool.and_eq_true, Bool.or_eq_true, bne_iff_ne, ne_eq, beq_iff_eq]
  constructor
  · rintro ⟨a, b, c⟩
    refine ⟨fun e => ⟨?_, ?_⟩, fun e => ?_⟩
    · rcases a with a | a; exact absurd e a; exact a
    · rcases b with a | a; exact absurd e a; exact a
    · rcases c with a | a; exact absurd a e; exact a
  · rintro ⟨a, b⟩
    refine ⟨?_, ?_, ?_⟩
    · by_cases e : h.way = 0; exact .inr (a e).1; exact .inl e
    · by_cases e : h.way = 0; exact .inr (a e).2; exact .inl e
    · by_cases e : h.way = 1; exact .inl e; exact .inr (b e)
theorem isWay_iff {h : Hdr} : isWay h.way = true ↔ 0 ≤ h.way ∧ h.way < 3 := by
  unfold isWay
  rw [Bool.and_eq_true, decide_eq_true_eq, decide_eq_true_eq]
theorem flat_iff {h : Hdr} : flat h = true ↔ h.kind = 83 ∨ (h.parts.length = 0 ∧ h.more = false) := by
  unfold flat
  simp
theorem nOk_yes {m : Nat} {lo up x : Int} : nOk m true lo up x = true ↔ putFits x m = true ∧ lo ≤ x ∧ x ≤ up := by
  unfold nOk; rw [if_pos rfl]; exact putOk_iff
theorem may_iff {k v : Int} : may k v = true ↔ (k = 83 → v = 2) := by
  unfold may
  simp only [Bool.or_eq_true, bne_iff_ne, ne_eq, beq_iff_eq]
  constructor
  · rintro (a | a) e; exact absurd e a; exact a
  · intro h; by_cases e : k = 83; exact .inr (h e); exact .inl e
/-- All that is asked of a header, by the document's words. -/
def Asked (h : Hdr) : Prop := (known h.kind = true ∧ may h.kind h.way = true) ∧ (∀ x ∈ tq h, tOk x.2.2 x.1 = true) ∧ fits h = true ∧ ∀ x ∈ nq h, dOk x = true
theorem asked_iff (h : Hdr) : herr h = 0 ↔ Asked h := by
  unfold herr Asked
  rw [st_zero (by decide), st_zero (by decide), st_zero (by decide), st_zero (by decide), st_zero (by decide), st_zero (by decide), st_zero (by decide), st_zero (by decide), st_zero (by decide), st_zero (by decide), st_zero (by decide), st_zero (by decide), st_zero (by decide), st_zero (by decide), st_zero (by decide), st_zero (by decide), st_zero (by decide), st_zero (by decide),
    Bool.and_eq_true, Bool.and_eq_true, fits_iff, f1_iff, f2_iff, f4_iff, bare_iff, isWay_iff, flat_iff, nOk_yes, nOk_yes, nOk_yes, nOk_yes, nOk_yes, decide_eq_true_eq, pOk_iff h.parts 0]
  have et : (∀ x ∈ tq h, tOk x.2.2 x.1 = true) ↔ (tOk 100 h.name = true ∧ tOk 100 h.link = true ∧ tOk 32 h.user = true ∧ tOk 32 h.group = true ∧ tOk 155 h.pre = true) := by
    unfold tq
    simp only [List.forall_mem_cons]
    constructor
    · rintro ⟨a, b, c, d, e, _⟩; exact ⟨a, b, c, d, e⟩
    · rintro ⟨a, b, c, d, e⟩; exact ⟨a, b, c, d, e, fun _ h => nomatch h⟩
  have e5 : (∀ x ∈ nq5 h, dOk x = true) ↔ ((putFits h.mode 8 = true ∧ 0 ≤ h.mode) ∧ (putFits h.uid 8 = true ∧ 0 ≤ h.uid) ∧ (putFits h.gid 8 = true ∧ 0 ≤ h.gid) ∧ (putFits h.size 12 = true ∧ 0 ≤ h.size) ∧ putFits h.mtime 12 = true) := by
    unfold nq5
    simp only [List.forall_mem_cons, dOk_iff]
    constructor
    · rintro ⟨⟨a, a'⟩, ⟨b, b'⟩, ⟨c, c'⟩, ⟨d, d'⟩, ⟨e, _⟩, _⟩; exact ⟨⟨a, by omega⟩, ⟨b, by omega⟩, ⟨c, by omega⟩, ⟨d, by omega⟩, e⟩
    · rintro ⟨⟨a, a'⟩, ⟨b, b'⟩, ⟨c, c'⟩, ⟨d, d'⟩, e⟩; exact ⟨⟨a, .inl a'⟩, ⟨b, .inl b'⟩, ⟨c, .inl c'⟩, ⟨d, .inl d'⟩, ⟨e, .inr trivial⟩, fun _ h => nomatch h⟩
  have e7 : (∀ x ∈ nq7 h, dOk x = true) ↔ ((∀ x ∈ nq5 h, dOk x = true) ∧ (0 < h.way → (putFits h.major 8 = true ∧ 0 ≤ h.major) ∧ (putFits h.minor 8 = true ∧ 0 ≤ h.minor))) := by
    unfold nq7
    rw [List.forall_mem_append]
    refine and_congr_right fun _ => ?_
    by_cases hw : 0 < h.way
    · rw [if_pos (by simpa using hw)]
      simp only [List.forall_mem_cons, dOk_iff]
      constructor
      · rintro ⟨⟨a, a'⟩, ⟨b, b'⟩, _⟩ _; exact ⟨⟨a, by omega⟩, ⟨b, by omega⟩⟩
      · intro h; obtain ⟨⟨a, a'⟩, ⟨b, b'⟩⟩ := h hw; exact ⟨⟨a, .inl a'⟩, ⟨b, .inl b'⟩, fun _ h => nomatch h⟩
    · rw [if_neg (by simpa using hw)]
      exact ⟨fun _ h => absurd h hw, fun _ _ h => nomatch h⟩
  have en : (∀ x ∈ nq h, dOk x = true) ↔ ((∀ x ∈ nq7 h, dOk x = true) ∧ (h.kind = 83 → (putFits h.real 12 = true ∧ 0 ≤ h.real) ∧ ∀ x ∈ pq 0 h.parts, dOk x = true)) := by
    unfold nq nqR
    by_cases hk : h.kind = 83
    · rw [if_pos (by simpa using hk), List.forall_mem_append, List.forall_mem_cons, dOk_iff, List.take_length]
      refine and_congr_right fun _ => ?_
      constructor
      · rintro ⟨⟨a, a'⟩, b⟩ _; exact ⟨⟨a, by omega⟩, b⟩
      · intro h; obtain ⟨⟨a, a'⟩, b⟩ := h hk; exact ⟨⟨a, .inl a'⟩, b⟩
    · rw [if_neg (by simpa using hk)]
      exact ⟨fun h => ⟨h, fun e => absurd e hk⟩, fun h => h.1⟩
  rw [et, en, e7, e5]
  have m0 : (0 : Int) ≤ most := by decide
  constructor
  · rintro ⟨k1, t1, t2, t3, t4, t5, ⟨b1, b2⟩, ⟨w0, w2⟩, ⟨n1, n1', _⟩, ⟨n2, n2', _⟩, ⟨n3, n3', _⟩, ⟨n4, n4', n4''⟩, ⟨n5, _⟩, n6, n7, n8, fl, ⟨p4, p3, pp⟩, _⟩
    have hmay := may_iff.1 k1.2
    have e6 : h.way = 0 → h.major = 0 ∧ h.minor = 0 := by
      intro e
      rw [e] at n6 n7
      exact ⟨by simpa [nOk] using n6, by simpa [nOk] using n7⟩
    have e6' : 0 < h.way → (putFits h.major 8 = true ∧ 0 ≤ h.major) ∧ (putFits h.minor 8 = true ∧ 0 ≤ h.minor) := by
      intro e
      have e' : (h.way != 0) = true := by rw [bne_iff_ne]; omega
      rw [e', nOk_yes] at n6 n7
      exact ⟨⟨n6.1, n6.2.1⟩, ⟨n7.1, n7.2.1⟩⟩
    have e8 : h.kind = 83 → (putFits h.real 12 = true ∧ 0 ≤ h.real ∧ h.real ≤ maxSize) := by
      intro e
      have e' : (h.kind == 83 && h.way == 2) = true := by rw [e, hmay e]; rfl
      rw [e', nOk_yes] at n8
      exact n8
    have e8' : h.kind ≠ 83 → h.real = 0 := by
      intro e
      have e' : (h.kind == 83 && h.way == 2) = false := by rw [Bool.and_eq_false_iff]; exact .inl (by simpa using e)
      rw [e'] at n8
      simpa [nOk] using n8
    refine ⟨k1, ⟨t1, t2, t3, t4, t5⟩, ⟨⟨w0, by omega, n4'', ?_, p4⟩, ⟨fun e => ⟨(b1 e).1, (b1 e).2, e6 e⟩, b2⟩, p3, ?_⟩, ⟨⟨⟨n1, n1'⟩, ⟨n2, n2'⟩, ⟨n3, n3'⟩, ⟨n4, n4'⟩, n5⟩, e6'⟩, fun e => ⟨⟨(e8 e).1, (e8 e).2.1⟩, pp⟩⟩
    · by_cases e : h.kind = 83
      · exact (e8 e).2.2
      · rw [e8' e]; decide
    · rcases fl with fl | fl
      · exact .inl fl
      · by_cases e : h.kind = 83
        · exact .inl e
        · exact .inr ⟨fl.1, fl.2, e8' e⟩
  · rintro ⟨k1, ⟨t1, t2, t3, t4, t5⟩, ⟨⟨w0, w2, s4, r4, p4⟩, ⟨b1, b2⟩, p3, f4⟩, ⟨⟨⟨n1, n1'⟩, ⟨n2, n2'⟩, ⟨n3, n3'⟩, ⟨n4, n4'⟩, n5⟩, e6⟩, e8⟩
    have hmay := may_iff.1 k1.2
    refine ⟨k1, t1, t2, t3, t4, t5, ⟨fun e => ⟨(b1 e).1, (b1 e).2.1⟩, b2⟩, ⟨w0, by omega⟩, ⟨n1, n1', (fits_bd n1).2⟩, ⟨n2, n2', (fits_bd n2).2⟩, ⟨n3, n3', (fits_bd n3).2⟩, ⟨n4, n4', s4⟩, ⟨n5, fits_bd n5⟩, ?_, ?_, ?_, ?_, ⟨p4, p3, ?_⟩, rfl⟩
    · by_cases e : h.way = 0
      · rw [e, (b1 e).2.2.1]; rfl
      · have e' : (h.way != 0) = true := by rw [bne_iff_ne]; exact e
        have := e6 (by omega)
        rw [e', nOk_yes]
        exact ⟨this.1.1, this.1.2, (fits_bd this.1.1).2⟩
    · by_cases e : h.way = 0
      · rw [e, (b1 e).2.2.2]; rfl
      · have e' : (h.way != 0) = true := by rw [bne_iff_ne]; exact e
        have := e6 (by omega)
        rw [e', nOk_yes]
        exact ⟨this.2.1, this.2.2, (fits_bd this.2.1).2⟩
    · by_cases e : h.kind = 83
      · have e' : (h.kind == 83 && h.way == 2) = true := by rw [e, hmay e]; rfl
        have := e8 e
        rw [e', nOk_yes]
        exact ⟨this.1.1, this.1.2, r4⟩
      · have e' : (h.kind == 83 && h.way == 2) = false := by rw [Bool.and_eq_false_iff]; exact .inl (by simpa using e)
        rcases f4 with f4 | f4
        · exact absurd f4 e
        · rw [e', f4.2.2]; rfl
    · rcases f4 with f4 | f4
      · exact .inl f4
      · exact .inr ⟨f4.1, f4.2.1⟩
    · by_cases e : h.kind = 83
      · exact (e8 e).2
      · rcases f4 with f4 | f4
        · exact absurd f4 e
        · rw [List.length_eq_zero_iff.1 f4.1]
          exact fun _ h => nomatch h
end M
end Go.Proofs.YtgfihdfncddpaaaGreatDoor.Hd

/-! The document's Print, as data, is the header's as data. -/
namespace Go.Proofs.YtgfihdfncddpaaaGreatDoor.Hd
open Go.RowKit Go.Lib
namespace M

theorem putT_lays {zs z : List Int} {a m : Nat} {s : ByteArray} (h : putT zs a m s = some z) : z = splice zs a (S.ints (textL s m)) := by
  obtain ⟨l, hl, rfl, _⟩ := putT_some h
  rw [put_eq hl]
theorem putN_lays {zs z : List Int} {a m : Nat} {there : Bool} {lo up x : Int} (h : putN zs a m there lo up x = some z) : z = if there = true then splice zs a (putR x m) else zs := by
  unfold putN at h
  split at h
  · rename_i ht
    rw [if_pos ht]
    split at h
    · exact (Option.some.inj h).symm
    · cases h
  · rename_i ht
    rw [if_neg ht]
    split at h
    · exact (Option.some.inj h).symm
    · cases h
theorem pputs_lays : ∀ (l : List (Int × Int)) (i : Nat) (y x : List Int), pputs y i l = some x → x = lays y ((pq i l).map nl)
  | [], _, y, x, h => (Option.some.inj h).symm
  | p :: l, i, y, x, h => by
    by_cases h0 : p.1 = 0 ∧ p.2 = 0
    · rw [pputs_zero h0] at h; cases h
    · cases h1 : putOk p.1 12 0 most with
      | false => rw [pputs_bad1 h0 h1] at h; cases h
      | true =>
        cases h2 : putOk p.2 12 0 most with
        | false => rw [pputs_bad2 h0 h1 h2] at h; cases h
        | true =>
          rw [pputs_next h0 h1 h2] at h
          have := pputs_lays l (i + 1) _ _ h
          rw [this, show 386 + 24 * i + 12 = 398 + 24 * i by omega]
          rfl
theorem nq_at {h : Hdr} (h4 : h.parts.length ≤ 4) : ∀ x ∈ nq h, (100 ≤ x.2.1 ∧ x.2.1 + x.2.2 ≤ 148) ∨ (329 ≤ x.2.1 ∧ x.2.1 + x.2.2 ≤ 495) := by
  have a5 : ∀ x ∈ nq5 h, (100 ≤ x.2.1 ∧ x.2.1 + x.2.2 ≤ 148) ∨ (329 ≤ x.2.1 ∧ x.2.1 + x.2.2 ≤ 495) := by
    unfold nq5
    intro x hx
    simp only [List.mem_cons, List.not_mem_nil, or_false] at hx
    rcases hx with rfl | rfl | rfl | rfl | rfl <;> exact .inl ⟨Nat.le_of_ble_eq_true rfl, Nat.le_of_ble_eq_true rfl⟩
  have a7 : ∀ x ∈ nq7 h, (100 ≤ x.2.1 ∧ x.2.1 + x.2.2 ≤ 148) ∨ (329 ≤ x.2.1 ∧ x.2.1 + x.2.2 ≤ 495) := by
    unfold nq7
    intro x hx
    rcases List.mem_append.1 hx with hx | hx
    · exact a5 x hx
    · split at hx
      · simp only [List.mem_cons, List.not_mem_nil, or_false] at hx
        rcases hx with rfl | rfl <;> exact .inr ⟨Nat.le_of_ble_eq_true rfl, Nat.le_of_ble_eq_true rfl⟩
      · cases hx
  unfold nq nqR
  intro x hx
  split at hx
  · rcases List.mem_append.1 hx with hx | hx
    · exact a7 x hx
    · rcases List.mem_cons.1 hx with rfl | hx
      · exact .inr ⟨Nat.le_of_ble_eq_true rfl, Nat.le_of_ble_eq_true rfl⟩
      · obtain ⟨p1, p2, p3, _⟩ := pq_at _ _ _ hx
        rw [List.take_length] at p2
        refine .inr ⟨by omega, by omega⟩
  · exact a7 x hx
theorem fit_n {h : Hdr} (h4 : h.parts.length ≤ 4) (hd : ∀ x ∈ nq h, dOk x = true) : ∀ q ∈ (nq h).map nl, (100 ≤ q.1 ∧ q.1 + q.2.length ≤ 148) ∨ (329 ≤ q.1 ∧ q.1 + q.2.length ≤ 495) := by
  intro q hq
  obtain ⟨x, hx, rfl⟩ := List.mem_map.1 hq
  have h1 := hd x hx
  have h2 := nq_at h4 x hx
  unfold dOk at h1
  rw [Bool.and_eq_true] at h1
  have h3 := putR_len h1.1
  have e1 : (nl x).1 = x.2.1 := rfl
  have e2 : (nl x).2.length = x.2.2 := h3
  rw [e1, e2]
  exact h2
theorem fit_t {h : Hdr} (ht : ∀ x ∈ tq h, tOk x.2.2 x.1 = true) : ∀ q ∈ (tq h).map tl', q.1 + q.2.length ≤ 100 ∨ (157 ≤ q.1 ∧ q.1 + q.2.length ≤ 257) ∨ (265 ≤ q.1 ∧ q.1 + q.2.length ≤ 500) := by
  intro q hq
  obtain ⟨x, hx, rfl⟩ := List.mem_map.1 hq
  have h1 := ht x hx
  have h3 := tOk_len h1
  have e1 : (tl' x).1 = x.2.1 := rfl
  have e2 : (tl' x).2.length = x.2.2 := h3
  rw [e1, e2]
  unfold tq at hx
  simp only [List.mem_cons, List.not_mem_nil, or_false] at hx
  rcases hx with rfl | rfl | rfl | rfl | rfl
  · exact .inl (Nat.le_of_ble_eq_true rfl)
  · exact .inr (.inl ⟨Nat.le_of_ble_eq_true rfl, Nat.le_of_ble_eq_true rfl⟩)
  · exact .inr (.inr ⟨Nat.le_of_ble_eq_true rfl, Nat.le_of_ble_eq_true rfl⟩)
  · exact .inr (.inr ⟨Nat.le_of_ble_eq_true rfl, Nat.le_of_ble_eq_true rfl⟩)
  · exact .inr (.inr ⟨Nat.le_of_ble_eq_true rfl, Nat.le_of_ble_eq_true rfl⟩)
theorem tq_rise (h : Hdr) : (tq h).Pairwise (fun x y => x.2.1 + x.2.2 ≤ y.2.1) := by
  unfold tq
  simp
theorem tq_none (h : Hdr) : ∀ x ∈ tq h, x.2.1 + x.2.2 ≤ 512 ∧ sub (nils 512) x.2.1 x.2.2 = nils x.2.2 := by
  unfold tq
  intro x hx
  simp only [List.mem_cons, List.not_mem_nil, or_false] at hx
  rcases hx with rfl | rfl | rfl | rfl | rfl <;> exact ⟨Nat.le_of_ble_eq_true rfl, sub_nils _ _ _ (Nat.le_of_ble_eq_true rfl)⟩
/-- What the numbers make of a block. -/
theorem steps_x {h : Hdr} {zs : List Int} (s : Steps h zs) : s.x = lays ((nils 512).set 156 h.kind) ((tq h).map tl' ++ (257, magic h.way.toNat) :: (nq h).map nl) := by
  have e5 : s.z5 = lays ((nils 512).set 156 h.kind) ((tq h).map tl') := by
    rw [putT_lays s.t4, putT_lays s.t3, putT_lays s.t2, putT_lays s.t1, putT_lays s.t0]
    rfl
  have y5 : s.y5 = lays (splice s.z5 257 (magic h.way.toNat)) ((nq5 h).map nl) := by
    rw [putN_lays s.n4, putN_lays s.n3, putN_lays s.n2, putN_lays s.n1, putN_lays s.n0]
    rfl
  have y7 : s.y7 = lays (splice s.z5 257 (magic h.way.toNat)) ((nq7 h).map nl) := by
    unfold nq7
    rw [List.map_append, lays_app, ← y5, putN_lays s.n6, putN_lays s.n5]
    have hw := isWay_iff.1 s.isway
    by_cases hz : h.way = 0
    · rw [if_neg (by simp [hz]), if_neg (by simp [hz]), if_neg (by simp [hz])]; rfl
    · rw [if_pos (by simp [hz]), if_pos (by simp [hz]), if_pos (by simp; omega)]; rfl
  have hp := s.few.2
  have ex : s.x = lays (splice s.z5 257 (magic h.way.toNat)) ((nq h).map nl) := by
    rw [pputs_lays _ _ _ _ hp, putN_lays s.n7, y7]
    unfold nq nqR
    have hm := may_iff.1 s.kd.2
    by_cases hk : h.kind = 83
    · rw [if_pos (by simp [hk, hm hk]), if_pos (by simp [hk]), List.take_length, List.map_append, lays_app, List.map_cons, lays_cons]; rfl
    · rw [if_neg (by simp [hk]), if_neg (by simp [hk])]
      have hf := flat_iff.1 s.isflat
      rcases hf with hf | hf
      · exact absurd hf hk
      · rw [List.length_eq_zero_iff.1 hf.1]; rfl
  rw [ex, e5, lays_app, lays_cons]
theorem dprint_of {h : Hdr} {zs : List Int} (hp : hprint h = (0, zs)) : dprint h = some zs := by
  obtain ⟨s⟩ := steps hp
  have he : herr h = 0 := by rw [← hprint_err, hp]
  obtain ⟨k, ht, hf, hn⟩ := (asked_iff h).1 he
  have h4 := (f1_iff.1 (fits_iff.1 hf).1).2.2.2.2
  have e1 : dt (nils 512) (tq h) = some (lays (nils 512) ((tq h).map tl')) := (dt_iff (tq h) _ _ (nils_len 512) (tq_rise h) (tq_none h)).2 ⟨ht, rfl⟩
  have e2 : dn (lays (nils 512) ((tq h).map tl')) (nq h) = some (lays (lays (nils 512) ((tq h).map tl')) ((nq h).map nl)) := (dn_iff _ _ _).2 ⟨hn, rfl⟩
  have fn := fit_n h4 hn
  have ft := fit_t ht
  have hl1 : (lays (nils 512) ((tq h).map tl')).length = 512 := lays_len _ _ (nils_len 512) (fun q hq => by have := ft q hq; unfold Fit; omega)
  have hl2 : (lays (lays (nils 512) ((tq h).map tl')) ((nq h).map nl)).length = 512 := lays_len _ _ hl1 (fun q hq => by have := fn q hq; unfold Fit; omega)
  have hmg := magic_len' h.way.toNat
  have ex : s.x = splice ((lays (lays (nils 512) ((tq h).map tl')) ((nq h).map nl)).set 156 h.kind) 257 (magic h.way.toNat) := by
    rw [steps_x s, set_splice _ (by rw [nils_len]; decide), set_splice _ (by rw [hl2]; decide)]
    have w1 := lays_swap (156, [h.kind]) (by unfold Fit; simp) ((tq h).map tl' ++ (257, magic h.way.toNat) :: (nq h).map nl) (nils 512) (nils_len 512) (by
      intro q hq
      unfold Fit Off
      simp only [List.length_singleton]
      rcases List.mem_append.1 hq with hq | hq
      · have := ft q hq; omega
      · rcases List.mem_cons.1 hq with rfl | hq
        · simp only [hmg]; omega
        · have := fn q hq; omega)
    dsimp only at w1
    rw [w1, lays_app, lays_cons]
    have w2 := lays_swap (257, magic h.way.toNat) (by unfold Fit; simp only [hmg]; omega) ((nq h).map nl) (lays (nils 512) ((tq h).map tl')) hl1 (by
      intro q hq
      unfold Fit Off
      simp only [hmg]
      have := fn q hq; omega)
    dsimp only at w2 ⊢
    rw [w2, splice_swap hl2 (by rw [hmg]; omega) (by simp) (.inr (by simp))]
  unfold dprint
  rw [if_pos (by rw [Bool.and_eq_true]; exact k), e1, Option.bind_some, if_pos hf, e2, Option.map_some, ← ex]
  exact congrArg some s.out.symm
theorem of_dprint {h : Hdr} {zs : List Int} (hd : dprint h = some zs) : hprint h = (0, zs) := by
  have he : herr h = 0 := by
    rw [asked_iff]
    unfold dprint at hd
    split at hd
    · rename_i hk
      rw [Bool.and_eq_true] at hk
      obtain ⟨z, hz, hd⟩ := Option.bind_eq_some_iff.1 hd
      split at hd
      · rename_i hf
        obtain ⟨y, hy, _⟩ := Option.map_eq_some_iff.1 hd
        exact ⟨hk, ((dt_iff (tq h) _ _ (nils_len 512) (tq_rise h) (tq_none h)).1 hz).1, hf, ((dn_iff _ _ _).1 hy).1⟩
      · cases hd
    · cases hd
  have e0 : hprint h = (0, (hprint h).2) := by
    have := hprint_err h
    rw [he] at this
    rw [← this]
  rw [dprint_of e0] at hd
  rw [e0, Option.some.inj hd]
theorem dprint_none {h : Hdr} (hd : dprint h = none) : (hprint h).1 ≠ 0 := by
  intro e
  have e0 : hprint h = (0, (hprint h).2) := by rw [← e]
  rw [dprint_of e0] at hd
  cases hd
end M
end Go.Proofs.YtgfihdfncddpaaaGreatDoor.Hd

/-! The document's lay, as far as its bytes are bytes: a block of 512 stays one. -/
namespace Go.Proofs.YtgfihdfncddpaaaGreatDoor.Hd
open Go.RowKit Go.Lib

/-- Block g has 512 bytes. -/
def B512 (w : World) (g : Nat) : Prop := ∃ zs : List Int, zs.length = 512 ∧ (∀ z ∈ zs, 0 ≤ z ∧ z ≤ 255) ∧ Arr w g 5 zs
/-- All blocks but one are as they were. -/
structure But (g : Nat) (w w' : World) : Prop where
  os : w'.os = w.os
  tape : w'.tape = w.tape
  output : w'.output = w.output
  size : w.heap.size ≤ w'.heap.size
  block : ∀ k, k < w.heap.size → k ≠ g → w'.heap[k]? = w.heap[k]?
theorem But.refl (g : Nat) (w : World) : But g w w := ⟨rfl, rfl, rfl, Nat.le_refl _, fun _ _ _ => rfl⟩
theorem But.trans {g : Nat} {a b c : World} (h : But g a b) (k : But g b c) : But g a c :=
  ⟨k.os.trans h.os, k.tape.trans h.tape, k.output.trans h.output, Nat.le_trans h.size k.size, fun i hi hg => (k.block i (Nat.lt_of_lt_of_le hi h.size) hg).trans (h.block i hi hg)⟩
theorem But.of_below {g : Nat} {w w' : World} (h : Below w.heap.size w w') : But g w w' := ⟨h.os, h.tape, h.output, h.size, fun k hk _ => h.block k hk⟩
theorem But.below {g B : Nat} {w w' : World} (h : But g w w') (hB : B ≤ w.heap.size) (hg : B ≤ g) : Below B w w' := ⟨h.os, h.tape, h.output, h.size, fun k hk => h.block k (by omega) (by omega)⟩
theorem But.set (g : Nat) (w : World) (i : Nat) (v : Value) : But g w (w.setCell ⟨g, i, none⟩ v) := ⟨rfl, rfl, rfl, by simp [World.setCell], fun k _ hk => Below.heap_setCell _ _ _ _ hk⟩
theorem But.alloc {g : Nat} {a w : World} (h : But g a w) (o : Obj) : But g a (w.alloc o) := h.trans (But.of_below ((Below.refl _ _).alloc (Nat.le_refl _) o))
theorem B512.lt {w : World} {g : Nat} (h : B512 w g) : g < w.heap.size := by obtain ⟨_, _, _, h⟩ := h; exact h.lt
theorem B512.of_block {w w' : World} {g : Nat} (h : B512 w g) (e : w'.heap[g]? = w.heap[g]?) : B512 w' g := by obtain ⟨zs, h1, h2, h3⟩ := h; exact ⟨zs, h1, h2, h3.of_block e⟩
theorem B512.below {w w' : World} {g B : Nat} (h : B512 w g) (hb : Below B w w') (hg : g < B) : B512 w' g := h.of_block (hb.block g hg)
theorem B512.set {w : World} {g : Nat} (h : B512 w g) (i : Nat) {v : Int} (hv : 0 ≤ v ∧ v ≤ 255) : B512 (w.setCell ⟨g, i, none⟩ (.int .u8 v)) g := by
  obtain ⟨zs, h1, h2, h3⟩ := h
  refine ⟨zs.set i v, by rw [List.length_set]; exact h1, fun z hz => ?_, h3.set i v⟩
  rcases List.mem_or_eq_of_mem_set hz with h | h
  · exact h2 z h
  · subst h; exact hv
theorem B512.at_ {w : World} {g : Nat} (h : B512 w g) {i : Nat} (hi : i < 512) : ∃ z : Int, w.cell? ⟨g, i, none⟩ = some (.int .u8 z) ∧ w.frozen? ⟨g, i, none⟩ = false := by
  obtain ⟨zs, h1, h2, h3⟩ := h
  exact ⟨zs[i]'(by omega), h3.cell (List.getElem?_eq_getElem (by omega)), h3.frozen i⟩
/-- Some bytes. -/
def RdW (w : World) (A : Option Addr) (n : Nat) : Prop := 0 < n → ∃ b off, A = some ⟨b, off, none⟩ ∧ ∀ j, j < n → ∃ z : Int, (0 ≤ z ∧ z ≤ 255) ∧ w.cell? ⟨b, off + j, none⟩ = some (.int .u8 z)
theorem RdW.set {w : World} {A : Option Addr} {n : Nat} (h : RdW w A n) (a : Addr) {v : Int} (hv : 0 ≤ v ∧ v ≤ 255) {x : Value} (hx : w.cell? a = some x) (hf : w.frozen? a = false) : RdW (w.setCell a (.int .u8 v)) A n := by
  intro hn
  obtain ⟨b, off, e, hc⟩ := h hn
  refine ⟨b, off, e, fun j hj => ?_⟩
  by_cases ha : a = ⟨b, off + j, none⟩
  · subst ha
    exact ⟨v, hv, by simp [World.cell?_setCell_same, hx]⟩
  · obtain ⟨z, hz, hcz⟩ := hc j hj
    exact ⟨z, hz, (World.cell?_setCell_other w a _ _ ha).trans hcz⟩

end Go.Proofs.YtgfihdfncddpaaaGreatDoor.Hd

/-! The document's texts, as far as its bytes are bytes. -/
namespace Go.Proofs.YtgfihdfncddpaaaGreatDoor.Hd
open Go.RowKit Go.Lib

/-- What lays fields answers: the block, or nothing. -/
def LaidTo (g : Nat) (w : World) (e : Ending) (w' : World) : Prop :=
  (e = .returned (.tuple #[.slice none 0 0, .bool false]) ∨ e = .returned (.tuple #[.slice (some ⟨g, 0, none⟩) 512 512, .bool true])) ∧ B512 w' g ∧ But g w w'
/-- Four new blocks. -/
theorem four_new (w : World) (o1 o2 o3 o4 : Obj) : ((((w.alloc o1).alloc o2).alloc o3).alloc o4).heap[w.heap.size]? = some o1 ∧ ((((w.alloc o1).alloc o2).alloc o3).alloc o4).heap[w.heap.size + 1]? = some o2 ∧
    ((((w.alloc o1).alloc o2).alloc o3).alloc o4).heap[w.heap.size + 1 + 1]? = some o3 ∧ ((((w.alloc o1).alloc o2).alloc o3).alloc o4).heap[w.heap.size + 1 + 1 + 1]? = some o4 ∧
    Below w.heap.size w ((((w.alloc o1).alloc o2).alloc o3).alloc o4) ∧ ((((w.alloc o1).alloc o2).alloc o3).alloc o4).heap.size = w.heap.size + 4 := by
  refine ⟨?_, ?_, ?_, ?_, ((((Below.refl _ _).alloc (Nat.le_refl _) _).alloc (by simp) _).alloc (by simp; omega) _).alloc (by simp; omega) _, by simp⟩
  · rw [Below.heap_alloc _ _ _ (by simp only [World.size_alloc]; omega), Below.heap_alloc _ _ _ (by simp only [World.size_alloc]; omega), Below.heap_alloc _ _ _ (by simp only [World.size_alloc]; omega)]; exact heap_alloc_new w _
  · rw [Below.heap_alloc _ _ _ (by simp only [World.size_alloc]; omega), Below.heap_alloc _ _ _ (by simp only [World.size_alloc]; omega)]; have := heap_alloc_new (w.alloc o1) o2; rwa [World.size_alloc] at this
  · rw [Below.heap_alloc _ _ _ (by simp only [World.size_alloc]; omega)]; have := heap_alloc_new ((w.alloc o1).alloc o2) o3; rwa [World.size_alloc, World.size_alloc] at this
  · have := heap_alloc_new (((w.alloc o1).alloc o2).alloc o3) o4; rwa [World.size_alloc, World.size_alloc, World.size_alloc] at this
theorem cell_of {w : World} {b i : Nat} {C : Array Value} {t : TypeId} {v : Value} (h : w.heap[b]? = some (.cells C t)) (hv : C[i]? = some v) : w.cell? ⟨b, i, none⟩ = some v := by
  rw [cell_of_row w b i _ _ (0, 0) h]; exact hv
theorem But.drew {g : Nat} {a w : World} (h : But g a w) : But g a w.drew := ⟨h.os, h.tape, h.output, h.size, h.block⟩
theorem B512.drew {w : World} {g : Nat} (h : B512 w g) : B512 w.drew g := h

end Go.Proofs.YtgfihdfncddpaaaGreatDoor.Hd

/-! head.Print: the walk. -/
namespace Go.Proofs.YtgfihdfncddpaaaGreatDoor.Hd
open Go.RowKit Go.Lib
attribute [local go_sem ↓] run_make512
/-- A header that may come in. -/
structure HIn (w : World) (h : M.Hdr) (pv : Value) : Prop where
  parts : PartsB w w.heap.size pv h.parts
  nums : i64p h.parts
  kind : 0 ≤ h.kind ∧ h.kind ≤ 255
  ints : (-9223372036854775808 ≤ h.mode ∧ h.mode ≤ 9223372036854775807) ∧ (-9223372036854775808 ≤ h.uid ∧ h.uid ≤ 9223372036854775807) ∧ (-9223372036854775808 ≤ h.gid ∧ h.gid ≤ 9223372036854775807) ∧ (-9223372036854775808 ≤ h.size ∧ h.size ≤ 9223372036854775807) ∧ (-9223372036854775808 ≤ h.mtime ∧ h.mtime ≤ 9223372036854775807) ∧
    (-9223372036854775808 ≤ h.major ∧ h.major ≤ 9223372036854775807) ∧ (-9223372036854775808 ≤ h.minor ∧ h.minor ≤ 9223372036854775807) ∧ (-9223372036854775808 ≤ h.real ∧ h.real ≤ 9223372036854775807)
  texts : h.name.size ≤ 100000 ∧ h.link.size ≤ 100000 ∧ h.user.size ≤ 100000 ∧ h.group.size ≤ 100000 ∧ h.pre.size ≤ 100000

theorem PartsB.mono {w : World} {B B' : Nat} {pv : Value} {l : List (Int × Int)} (h : PartsB w B pv l) (hb : B ≤ B') : PartsB w B' pv l := by
  obtain ⟨A, c, rfl, h1, h2⟩ := h
  exact ⟨A, c, rfl, h1, fun hl => let ⟨b, off, e, h4, h5⟩ := h2 hl; ⟨b, off, e, Nat.lt_of_lt_of_le h4 hb, h5⟩⟩
end Go.Proofs.YtgfihdfncddpaaaGreatDoor.Hd

/-! The document's fits, exactly. -/
namespace Go.Proofs.YtgfihdfncddpaaaGreatDoor.Hd
open Go.RowKit Go.Lib

theorem blank_iff {s : ByteArray} : M.blank s = true ↔ s.toList = [] := by unfold M.blank; exact beq_iff_eq
theorem f3_succ {l : List (Int × Int)} {k : Nat} {p q : Int} (h : l[k]? = some (p, q)) : M.f3 (l.take (k + 1)) = (M.f3 (l.take k) && !(p == 0 && q == 0)) := by
  rw [List.take_add_one, h]
  unfold M.f3
  rw [List.all_append]
  simp
theorem f3_no {l : List (Int × Int)} (h : ((0 : Int), (0 : Int)) ∈ l) : M.f3 l = false := by
  unfold M.f3
  rw [List.all_eq_false]
  exact ⟨_, h, by decide⟩
theorem not_eq {x y : Bool} (h : x = true ↔ ¬ (y = true)) : x = !y := by
  cases x <;> cases y <;> simp_all
set_option maxRecDepth 100000 in
set_option maxHeartbeats 2000000 in
theorem refFitsX_any (h : M.Hdr) (A : Option Addr) (c : Nat) (w : World) (hi : HIn w h (.slice A h.parts.length c)) (hfew : h.parts.length ≤ 1000) :
    Calls Tryz.prog 34 #[.agg (hcells h (.slice A h.parts.length c))] w (fun e w' => e = .returned (.bool (M.fits h)) ∧ Below w.heap.size w w') := by
  have hb1 : Below w.heap.size w (w.alloc (.cells (hcells h (.slice A h.parts.length c)) 31)) := (Below.refl _ _).alloc (Nat.le_refl _) _
  have HP := hid (PartsB.below hi.parts hb1)
  have HW := hid hb1
  have B1 := hid (HB.new w h (.slice A h.parts.length c))
  clear hi hb1
  have HF1 := hid (M.f1_iff (h := h))
  have HF4 := hid (M.f4_iff (h := h))
  have HF2 := hid (M.f2_iff (h := h))
  generalize hn : h.parts.length = n at *
  have HN := hid hn
  clear hn
  have k8 := HB.cell B1.out (i := 8) (v := .int .i64 h.way) rfl
  have k4 := HB.cell B1.out (i := 4) (v := .int .i64 h.size) rfl
  have k16 := HB.cell B1.out (i := 16) (v := .int .i64 h.real) rfl
  have k14 := HB.cell B1.out (i := 14) (v := .slice A n c) rfl
  have k9 := HB.cell B1.out (i := 9) (v := .string h.user) rfl
  have k10 := HB.cell B1.out (i := 10) (v := .string h.group) rfl
  have k11 := HB.cell B1.out (i := 11) (v := .int .i64 h.major) rfl
  have k12 := HB.cell B1.out (i := 12) (v := .int .i64 h.minor) rfl
  have k13 := HB.cell B1.out (i := 13) (v := .string h.pre) rfl
  have k6 := HB.cell B1.out (i := 6) (v := .int .u8 h.kind) rfl
  have k15 := HB.cell B1.out (i := 15) (v := .bool h.more) rfl
  clear B1
  go_enter Tryz.func34, Tryz.ntmps34
  go_upto_region 1 with fail
  generalize World.alloc w _ = W at *
  go_cut [27] from 4 to 26 (fun v wx => v = .bool (!M.f1 h) ∧ W = wx)
  case first =>
    go_wp2_with fail
    all_goals
      go_meet
      case rel =>
        refine ⟨congrArg Value.bool (not_eq ?_), rfl⟩
        rw [HF1.out]
        unfold M.maxSize
        simp only [Bool.or_eq_true, decide_eq_true_eq, true_iff]
        omega
  case rest =>
    obtain ⟨rfl, rfl⟩ := hcut
    cases hf1 : M.f1 h
    case true =>
      have HLE := hid (HF1.out.1 hf1)
      have HF1' := hid hf1
      clear hf1
      rw [show (!true) = false from rfl]
      go_upto_region 3 with fail
      go_cut [60] from 28 to 59 (fun v wx => v = .bool (!M.f2 h) ∧ W = wx)
      case first =>
        go_wp2_with fail
        all_goals
          go_meet
          case rel =>
            refine ⟨congrArg Value.bool (not_eq ?_), rfl⟩
            rw [HF2.out]
            simp only [blank_iff]
            simp [*]
      case rest =>
        obtain ⟨rfl, rfl⟩ := hcut
        clear k4 k9 k10 k11 k12 k13
        cases hf2 : M.f2 h
        case true =>
          have HF2' := hid hf2
          clear hf2
          rw [show (!true) = false from rfl]
          go_wp2_with fail
          go_loop [3] (fun i => ∃ k : Nat, i = .int .i64 k ∧ k ≤ n ∧ Hid (M.f3 (h.parts.take k) = true)) (fun i => n - (RowKit.intOf i).toNat)
          case atStart => exact ⟨0, rfl, Nat.zero_le _, hid rfl⟩
          case round =>
            obtain ⟨k, rfl, hk, HK⟩ := hrel
            by_cases hkn : k < n
            · obtain ⟨A', c', he, _, hcells⟩ := HP.out
              injection he with he1 he2 he3
              clear he2
              subst he1 he3
              obtain ⟨ba, oa, rfl, _, hca⟩ := hcells (by rw [HN.out]; omega)
              clear hcells
              obtain ⟨⟨p, q⟩, hpk⟩ : ∃ p, h.parts[k]? = some p := ⟨_, List.getElem?_eq_getElem (by rw [HN.out]; exact hkn)⟩
              obtain ⟨a0, a1⟩ := hca k _ hpk
              have HS := hid (f3_succ hpk)
              have HM := hid (List.mem_of_getElem? hpk)
              dsimp only at a0 a1
              rw [show 2 * k = k * 2 by omega] at a0 a1
              clear hca hpk
              by_cases h0 : p = 0 ∧ q = 0
              · obtain ⟨rfl, rfl⟩ := h0
                have HE := hid (show M.fits h = false by
                  unfold M.fits
                  rw [HF1'.out, HF2'.out, f3_no HM.out]
                  rfl)
                go_wp2_with fail
                go_ret
                exact ⟨(by rw [HE.out]; rfl), HW.out⟩
              · have HK2 := hid (show M.f3 (h.parts.take (k + 1)) = true by
                  rw [HS.out, HK.out, Bool.true_and, Bool.not_eq_true', Bool.and_eq_false_iff, beq_eq_false_iff_ne, beq_eq_false_iff_ne]
                  omega)
                have H0 := hid h0
                clear h0
                go_wp2_with fail
                all_goals first
                  | (go_round
                     case rel => exact ⟨k + 1, (by go_num), hkn, HK2⟩
                     case measure => simp [RowKit.intOf]; omega)
                  | (exfalso
                     rename_i hp0 hq0 _
                     exact H0.out ⟨hp0, beq_iff_eq.1 hq0⟩)
            · obtain rfl : k = n := by omega
              have HE := hid (show M.fits h = M.f4 h by
                unfold M.fits
                have := HK.out
                rw [List.take_of_length_le (by rw [HN.out]; exact Nat.le_refl _)] at this
                rw [HF1'.out, HF2'.out, this]
                rfl)
              go_wp2_with fail
              all_goals
                go_ret
                refine ⟨congrArg (fun b => Ending.returned (Value.bool b)) ?_, HW.out⟩
                rw [HE.out, Bool.eq_iff_iff, HF4.out]
                simp [*]
        case false =>
          have HE := hid (show M.fits h = false by
            unfold M.fits
            rw [HF1'.out, hf2]
            rfl)
          clear hf2
          rw [show (!false) = true from rfl]
          go_wp2
          go_ret
          exact ⟨(by rw [HE.out]; rfl), HW.out⟩
    case false =>
      have HE := hid (show M.fits h = false by
        unfold M.fits
        rw [hf1]
        rfl)
      clear hf1
      rw [show (!false) = true from rfl]
      go_wp2
      go_ret
      exact ⟨(by rw [HE.out]; rfl), HW.out⟩

end Go.Proofs.YtgfihdfncddpaaaGreatDoor.Hd

/-! Rows of numbers of the call's own; what is appended to them. -/
namespace Go.Proofs.YtgfihdfncddpaaaGreatDoor.Hd
open Go.RowKit Go.Lib

def icells (zs : List Int) : List Value := zs.map (Value.int .i64)
theorem icells_len (zs : List Int) : (icells zs).length = zs.length := by simp [icells]
theorem icells_app (a b : List Int) : icells (a ++ b) = icells a ++ icells b := by simp [icells]
theorem icells_one (zs : List Int) : ∀ v ∈ icells zs, v.oneCell' = true := by
  intro v hv
  obtain ⟨z, _, rfl⟩ := List.mem_map.1 hv
  rfl
theorem icells_at {zs : List Int} {j : Nat} {z : Int} (h : zs[j]? = some z) : (icells zs)[j]? = some (.int .i64 z) := by simp [icells, h]
theorem i64_parts : (Tryz.prog.info? 3).map (fun i => (i.zero, i.size, i.bytes)) = some (some (.int .i64 0), 1, 8) := by kernel_rfl
def OwnI (w : World) (base : Nat) (v : Value) (zs : List Int) : Prop := w.ownsRow base 3 1 v zs.length (icells zs)
/-- Two rows that lie in two blocks. -/
def Apt (v u : Value) : Prop := u.ownBlock = none ∨ u.ownBlock ≠ v.ownBlock
theorem Apt.swap {v u : Value} (h : Apt v u) : Apt u v := by
  unfold Apt at *
  cases hv : v.ownBlock with
  | none => exact .inl rfl
  | some k =>
    rcases h with h | h
    · exact .inr (by rw [h]; exact fun e => nomatch e)
    · exact .inr (fun e => h (by rw [← e, hv]))
theorem OwnI.keep {w w' : World} {base : Nat} {v u : Value} {zs : List Int} (h : OwnI w base u zs) (hg : w.grownBy w' v.ownBlock) (hn : Apt v u) : OwnI w' base u zs := World.ownsRow.kept h hg hn
theorem OwnI.alloc {w : World} {base : Nat} {u : Value} {zs : List Int} (h : OwnI w base u zs) (o : Obj) : OwnI (w.alloc o) base u zs := World.ownsRow.alloc h o
theorem OwnI.below {w w' : World} {base : Nat} {u : Value} {zs : List Int} (h : OwnI w base u zs) (hb : Below w.heap.size w w') : OwnI w' base u zs :=
  World.ownsRow.kept (row := none) h ⟨hb.os, hb.tape, hb.output, hb.size, fun k hk _ => hb.block k hk⟩ (by
    cases hv : u.ownBlock with
    | none => exact .inl rfl
    | some g => exact .inr (fun e => nomatch e))
theorem OwnI.but {w w' : World} {g base : Nat} {u : Value} {zs : List Int} (h : OwnI w base u zs) (hb : But g w w') (hg : g < base) : OwnI w' base u zs :=
  World.ownsRow.kept (row := some g) h ⟨hb.os, hb.tape, hb.output, hb.size, fun k hk hn => hb.block k hk (fun e => hn (by rw [e]))⟩ (by
    cases hv : u.ownBlock with
    | none => exact .inl rfl
    | some k => exact .inr (fun e => by injection e with e; have := (World.ownsRow.lt h k hv).1; omega))
theorem Apt.next {w : World} {base : Nat} {v v' u : Value} {zs : List Int} (hu : OwnI w base u zs) (ho : v'.ownBlock = v.ownBlock ∨ v'.ownBlock = some (w.heap.size + 1)) (hn : Apt v u) : Apt v' u := by
  unfold Apt
  rcases ho with ho | ho
  · rw [ho]; exact hn
  · cases hv : u.ownBlock with
    | none => exact .inl rfl
    | some k => exact .inr (fun e => by rw [ho] at e; injection e with e; have := (World.ownsRow.lt hu k hv).2; omega)
theorem OwnI.form {w : World} {base : Nat} {v : Value} {zs : List Int} (h : OwnI w base v zs) (hl : 0 < zs.length) : ∃ g c, v = .slice (some ⟨g, 0, none⟩) zs.length c ∧ g < w.heap.size ∧ base ≤ g ∧ ∀ j z, zs[j]? = some z → w.cell? ⟨g, j, none⟩ = some (.int .i64 z) := by
  obtain ⟨g, cap, rfl, hb, hlt⟩ := World.ownsRow.form h hl
  refine ⟨g, cap, rfl, hlt, hb, fun j z hj => ?_⟩
  have hj1 : j < zs.length := (List.getElem?_eq_some_iff.1 hj).1
  rw [World.ownsRow.cellAt h j (by omega)]
  exact icells_at hj
theorem OwnI.slice {w : World} {base : Nat} {v : Value} {zs : List Int} (h : OwnI w base v zs) : ∃ A c, v = .slice A zs.length c := by
  rcases h.2 with ⟨rfl, e⟩ | ⟨g, cap, cur, rfl, _⟩
  · exact ⟨none, 0, by rw [e]⟩
  · exact ⟨_, cap, rfl⟩
/-- A literal row. -/
theorem OwnI.lit {w : World} {base : Nat} (g : Nat) (zs : List Int) (cs : Array Value) (hcs : cs = (icells zs).toArray) (hb : w.heap[g]? = some (.cells cs 3 (0, 0))) (hg : base ≤ g) (hl : zs.length ≤ 1000000) : OwnI w base (.slice (some ⟨g, 0, none⟩) zs.length zs.length) zs := by
  refine ⟨by rw [icells_len, Nat.mul_one], .inr ⟨g, zs.length, cs, rfl, hg, hb, Nat.le_refl _, by unfold maxLen; omega, ?_⟩⟩
  subst hcs
  exact ⟨by simp [icells], by rw [Nat.mul_one]; exact List.take_of_length_le (by simp [icells])⟩

/-- append of some numbers, in any region. -/
theorem wp_appI {W : World} {o : Oper} {a : Act} {K : Act → World → Prop} {Q : Exit → Act → World → Prop} (s x : Operand)
    (ho : o.op = .call { callee := .builtin .append, args := #[s, x], argTypes := #[124, 124] })
    (base : Nat) (v : Value) (zs news : List Int) (cs : Array Value) (hcs : cs = (icells news).toArray) (m : Nat) (hm : m = news.length) (hs : a.eval s = v) (hown : OwnI W base v zs) (hbase : base ≤ W.heap.size)
    (hx : a.eval x = .slice (some ⟨W.heap.size, 0, none⟩) m m) (hl : zs.length + news.length ≤ 1000000)
    (h : ∀ v' w', Hid (OwnI w' base v' (zs ++ news)) → Hid ((W.alloc (.cells cs 3)).grownBy w' v.ownBlock) → Hid (v'.ownBlock = v.ownBlock ∨ v'.ownBlock = some (W.heap.size + 1)) → K (a.put o.dst v') w') :
    Oper.wp Tryz.prog o a (W.alloc (.cells cs 3)) K Q := by
  subst hcs hm
  obtain ⟨i0, hi, hz0, hz1, hz2⟩ := info_parts i64_parts
  refine Ap.wp_append_any _ s x 124 ho base 3 i0 (.int .i64 0) 1 8 Tryz.underlying124 hi hz0 hz1 hz2 rfl (by decide) v zs.length (icells zs) hs (OwnI.alloc hown _) (W.heap.size + 1) (some ⟨W.heap.size, 0, none⟩) news.length news.length (icells news) hx ?_ (icells_one _) (by unfold maxLen; omega) (by omega) (by simp; omega) ?_
  · refine ⟨by rw [icells_len, Nat.mul_one], fun _ => ⟨⟨W.heap.size, 0, none⟩, rfl, Nat.lt_succ_self _, fun j u hj => ?_⟩⟩
    have e : (⟨W.heap.size, 0, none⟩ : Addr).add j = ⟨W.heap.size, j, none⟩ := by
      unfold Addr.add
      split
      · rename_i h0; subst h0; rfl
      · simp
    rw [e, cell_of_row _ _ j _ _ (0, 0) (heap_alloc_new W _)]
    simpa using hj
  · intro v' w' h1 h2 h3
    refine h v' w' (hid ?_) (hid h2) (hid (by rw [World.size_alloc] at h3; exact h3))
    unfold OwnI
    rw [List.length_append, icells_app]
    exact h1

theorem wpList_appI {W : World} {ops : Array Oper} {rest : List Oper} {o : Oper} {a : Act} {Q : Exit → Act → World → Prop} (hgd : o.guard = none) (s x : Operand)
    (ho : o.op = .call { callee := .builtin .append, args := #[s, x], argTypes := #[124, 124] })
    (base : Nat) (v : Value) (zs news : List Int) (cs : Array Value) (hcs : cs = (icells news).toArray) (m : Nat) (hm : m = news.length) (hs : a.eval s = v) (hown : OwnI W base v zs) (hbase : base ≤ W.heap.size)
    (hx : a.eval x = .slice (some ⟨W.heap.size, 0, none⟩) m m) (hl : zs.length + news.length ≤ 1000000)
    (h : ∀ v' w', Hid (OwnI w' base v' (zs ++ news)) → Hid ((W.alloc (.cells cs 3)).grownBy w' v.ownBlock) → Hid (v'.ownBlock = v.ownBlock ∨ v'.ownBlock = some (W.heap.size + 1)) → wpList Tryz.prog ops Q rest (a.put o.dst v') w') :
    wpList Tryz.prog ops Q (o :: rest) a (W.alloc (.cells cs 3)) := by
  subst hcs hm
  obtain ⟨i0, hi, hz0, hz1, hz2⟩ := info_parts i64_parts
  refine Ap.wpList_append_any _ hgd s x 124 ho base 3 i0 (.int .i64 0) 1 8 Tryz.underlying124 hi hz0 hz1 hz2 rfl (by decide) v zs.length (icells zs) hs (OwnI.alloc hown _) (W.heap.size + 1) (some ⟨W.heap.size, 0, none⟩) news.length news.length (icells news) hx ?_ (icells_one _) (by unfold maxLen; omega) (by omega) (by simp; omega) ?_
  · refine ⟨by rw [icells_len, Nat.mul_one], fun _ => ⟨⟨W.heap.size, 0, none⟩, rfl, Nat.lt_succ_self _, fun j u hj => ?_⟩⟩
    have e : (⟨W.heap.size, 0, none⟩ : Addr).add j = ⟨W.heap.size, j, none⟩ := by
      unfold Addr.add
      split
      · rename_i h0; subst h0; rfl
      · simp
    rw [e, cell_of_row _ _ j _ _ (0, 0) (heap_alloc_new W _)]
    simpa using hj
  · intro v' w' h1 h2 h3
    refine h v' w' (hid ?_) (hid h2) (hid (by rw [World.size_alloc] at h3; exact h3))
    unfold OwnI
    rw [List.length_append, icells_app]
    exact h1
end Go.Proofs.YtgfihdfncddpaaaGreatDoor.Hd

/-! The document's lay, byte by byte. -/
namespace Go.Proofs.YtgfihdfncddpaaaGreatDoor.Hd
open Go.RowKit Go.Lib

/-- Block g has these 512 bytes. -/
structure BX (w : World) (g : Nat) (zs : List Int) : Prop where
  len : zs.length = 512
  bd : ∀ z ∈ zs, 0 ≤ z ∧ z ≤ 255
  arr : Arr w g 5 zs
section
variable {w w' : World} {g : Nat} {zs : List Int}
theorem BX.b512 (h : BX w g zs) : B512 w g := ⟨zs, h.len, h.bd, h.arr⟩
theorem BX.lt (h : BX w g zs) : g < w.heap.size := h.arr.lt
theorem BX.of_block (h : BX w g zs) (e : w'.heap[g]? = w.heap[g]?) : BX w' g zs := ⟨h.len, h.bd, h.arr.of_block e⟩
theorem BX.below {B : Nat} (h : BX w g zs) (hb : Below B w w') (hg : g < B) : BX w' g zs := h.of_block (hb.block g hg)
theorem BX.later (h : BX w g zs) (hb : Below w.heap.size w w') : BX w' g zs := h.below hb h.lt
theorem BX.drew (h : BX w g zs) : BX w.drew g zs := ⟨h.len, h.bd, h.arr⟩
theorem BX.set (h : BX w g zs) (i : Nat) {v : Int} (hv : 0 ≤ v ∧ v ≤ 255) : BX (w.setCell ⟨g, i, none⟩ (.int .u8 v)) g (zs.set i v) := by
  refine ⟨by rw [List.length_set]; exact h.len, fun z hz => ?_, h.arr.set i v⟩
  rcases List.mem_or_eq_of_mem_set hz with h' | h'
  · exact h.bd z h'
  · subst h'; exact hv
theorem BX.at_ (h : BX w g zs) {i : Nat} (hi : i < 512) : ∃ z : Int, w.cell? ⟨g, i, none⟩ = some (.int .u8 z) ∧ w.frozen? ⟨g, i, none⟩ = false := h.b512.at_ hi
theorem BX.rd (h : BX w g zs) {B : Nat} (hB : g < B) : Rd w B (some ⟨g, 0, none⟩) 512 zs := by
  have := h.arr.rd h.bd hB
  rwa [h.len] at this
end
theorem BX.new (w : World) : BX (w.alloc (.cells (bcells (nils 512)).toArray 5)) w.heap.size (nils 512) := ⟨nils_len 512, nils_bd 512, Arr.new w 5 (nils 512)⟩
theorem splice_step {zs ys : List Int} {a k : Nat} {z : Int} (hz : zs.length = 512) (hk : ys[k]? = some z) (ha : a + k < 512) : (splice zs a (ys.take k)).set (a + k) z = splice zs a (ys.take (k + 1)) := by
  obtain ⟨hkl, hkz⟩ := List.getElem?_eq_some_iff.1 hk
  have l1 : (ys.take k).length = k := by rw [List.length_take]; omega
  have l2 : (ys.take (k + 1)).length = k + 1 := by rw [List.length_take]; omega
  apply List.ext_getElem?
  intro i
  rw [List.getElem?_set]
  by_cases h : a + k = i
  · subst h
    have e2 : (splice zs a (ys.take (k + 1)))[a + k]? = some z := by
      rw [M.splice_in (i := a + k) (f := ys.take (k + 1)) (by omega) (by omega) (by omega), List.getElem?_take, if_pos (by omega), show a + k - a = k by omega, hk]
    rw [if_pos rfl, e2, if_pos (by rw [length_splice _ _ _ (by omega)]; omega)]
  · rw [if_neg h]
    by_cases h1 : a ≤ i ∧ i < a + k
    · rw [M.splice_in (by omega) h1.1 (by omega), M.splice_in (by omega) h1.1 (by omega), List.getElem?_take, List.getElem?_take, if_pos (by omega), if_pos (by omega)]
    · rw [M.splice_get (by omega) (by omega), M.splice_get (by omega) (by omega)]
theorem splice_nil (zs : List Int) (a : Nat) : splice zs a (([] : List Int)) = zs := by
  unfold splice
  simp

set_option maxRecDepth 100000 in
set_option maxHeartbeats 1000000 in
theorem layX_any (g a : Nat) (A : Option Addr) (n c : Nat) (zs ys : List Int) (w : World) (hb : BX w g zs) (hf : Rd w w.heap.size A n ys) (hne : ∀ b off, A = some ⟨b, off, none⟩ → b ≠ g) (hn : a + n ≤ 512) :
    Calls Tryz.prog 36 #[.slice (some ⟨g, 0, none⟩) 512 512, .int .i64 a, .slice A n c] w fun e w' => e = .returned (.slice (some ⟨g, 0, none⟩) 512 512) ∧ BX w' g (splice zs a ys) ∧ But g w w' := by
  have HB := hid hb
  have HF := hid hf
  have HNE := hid hne
  have HL := hid hb.len
  have HFL := hid hf.len
  clear hb hf hne
  go_enter Tryz.func36, Tryz.ntmps36
  go_wp2
  go_loopw [7] (fun i wr => ∃ k : Nat, i = .int .i64 k ∧ k ≤ n ∧ Hid (BX wr g (splice zs a (ys.take k))) ∧ Hid (But g w wr)) (fun i _ => n - (RowKit.intOf i).toNat)
  case atStart => exact ⟨0, rfl, Nat.zero_le _, hid (by rw [List.take_zero, splice_nil]; exact HB.out), hid (But.refl _ _)⟩
  case round =>
    clear HB
    obtain ⟨k, rfl, hk, HB, HW⟩ := hrel
    by_cases hlt : k < n
    · obtain ⟨b, off, rfl, hbw, hc⟩ := HF.out.2.2 (by omega)
      have hl := HFL.out
      obtain ⟨z, hz⟩ : ∃ z, ys[k]? = some z := ⟨_, List.getElem?_eq_getElem (by omega)⟩
      have hcz : wr.cell? ⟨b, off + k, none⟩ = some (.int .u8 z) := by
        rw [World.cell?_of_block (HW.out.block b hbw (HNE.out _ _ rfl))]
        exact hc k z hz
      have hzb := HF.out.2.1 z (List.mem_of_getElem? hz)
      have hak : a + k < 512 := by omega
      obtain ⟨y, hcy, hfy⟩ := HB.out.at_ hak
      have HZ := hid hzb
      have HQ := hid (⟨HB.out.set (a + k) hzb, HW.out.trans (But.set g wr (a + k) (.int .u8 z))⟩ : _ ∧ _)
      rw [splice_step HL.out hz hak] at HQ
      clear hc hz hzb HB hl hbw
      go_wp2
      go_roundw
      case rel => exact ⟨k + 1, (by go_num), hlt, hid HQ.out.1, hid HQ.out.2⟩
      case measure => simp [RowKit.intOf]; omega
    · obtain rfl : k = n := by omega
      have HE := hid (show BX wr g (splice zs a ys) by
        have := HB.out
        rwa [List.take_of_length_le (by rw [HFL.out]; exact Nat.le_refl _)] at this)
      clear HB
      go_wp2
      go_ret
      exact ⟨rfl, HE.out, HW.out⟩
end Go.Proofs.YtgfihdfncddpaaaGreatDoor.Hd

/-! The document's numbers, as far as its bytes are bytes. -/
namespace Go.Proofs.YtgfihdfncddpaaaGreatDoor.Hd
open Go.RowKit Go.Lib

/-- A number, the place where it is laid, and how wide. -/
def fL (x : Int × Nat × Nat) : Int := x.1
def fT (x : Int × Nat × Nat) : Int := ((x.2.1 : Nat) : Int)
def fD (x : Int × Nat × Nat) : Int := ((x.2.2 : Nat) : Int)
def FitN (x : Int × Nat × Nat) : Prop := (-9223372036854775808 ≤ x.1 ∧ x.1 ≤ 9223372036854775807) ∧ x.2.1 + x.2.2 ≤ 512 ∧ x.2.2 ≤ 12
/-- The three rows under way. -/
structure NS (w W : World) (h : M.Hdr) (pv vl va vd : Value) (N : Nat) (q : List (Int × Nat × Nat)) : Prop where
  l : OwnI W (w.heap.size + 1) vl (q.map fL)
  a : OwnI W (w.heap.size + 1) va (q.map fT)
  d : OwnI W (w.heap.size + 1) vd (q.map fD)
  la : Apt vl va
  ld : Apt vl vd
  ad : Apt va vd
  fit : ∀ x ∈ q, FitN x
  few : q.length ≤ N
  some_ : 0 < q.length
  box : HB W w.heap.size h pv
  below : Below w.heap.size w W
theorem NS.base {w W : World} {h : M.Hdr} {pv vl va vd : Value} {N : Nat} {q : List (Int × Nat × Nat)} (s : NS w W h pv vl va vd N q) : w.heap.size + 1 ≤ W.heap.size := HB.lt s.box
theorem NS.mono {w W : World} {h : M.Hdr} {pv vl va vd : Value} {N N' : Nat} {q : List (Int × Nat × Nat)} (s : NS w W h pv vl va vd N q) (hN : N ≤ N') : NS w W h pv vl va vd N' q := { s with few := Nat.le_trans s.few hN }
theorem NS.drew {w W : World} {h : M.Hdr} {pv vl va vd : Value} {N : Nat} {q : List (Int × Nat × Nat)} (s : NS w W h pv vl va vd N q) : NS w W.drew h pv vl va vd N q :=
  ⟨s.l, s.a, s.d, s.la, s.ld, s.ad, s.fit, s.few, s.some_, s.box, ⟨s.below.os, s.below.tape, s.below.output, s.below.size, s.below.block⟩⟩
theorem grown_low {B : Nat} {w w' : World} {base : Nat} {v : Value} {zs : List Int} (hg : w.grownBy w' v.ownBlock) (ho : OwnI w base v zs) (hB : B ≤ base) (hW : B ≤ w.heap.size) : Below B w w' :=
  ⟨hg.os, hg.tape, hg.output, hg.size, fun k hk => hg.block k (by omega) (fun e => by have := (World.ownsRow.lt ho k e.symm).1; omega)⟩
theorem below_al {B : Nat} {W : World} (o : Obj) (h : B ≤ W.heap.size) : Below B W (W.alloc o) := (Below.refl _ _).alloc h o

section
variable {w W w1 w2 w3 : World} {h : M.Hdr} {pv vl va vd v1 v2 v3 : Value} {N : Nat} {q : List (Int × Nat × Nat)} {cs1 cs2 cs3 : Array Value} {z1 z2 z3 : List Int}
theorem NS.a1 (s : NS w W h pv vl va vd N q) (g1 : (W.alloc (.cells cs1 3)).grownBy w1 vl.ownBlock) : OwnI w1 (w.heap.size + 1) va (q.map fT) := (s.a.alloc _).keep g1 s.la
theorem NS.b1 (s : NS w W h pv vl va vd N q) (g1 : (W.alloc (.cells cs1 3)).grownBy w1 vl.ownBlock) : w.heap.size + 1 ≤ w1.heap.size := Nat.le_trans s.base (Nat.le_trans (by simp) g1.size)
theorem NS.d2 (s : NS w W h pv vl va vd N q) (g1 : (W.alloc (.cells cs1 3)).grownBy w1 vl.ownBlock) (g2 : (w1.alloc (.cells cs2 3)).grownBy w2 va.ownBlock) : OwnI w2 (w.heap.size + 1) vd (q.map fD) :=
  (((s.d.alloc _).keep g1 s.ld).alloc _).keep g2 s.ad
theorem NS.b2 (s : NS w W h pv vl va vd N q) (g1 : (W.alloc (.cells cs1 3)).grownBy w1 vl.ownBlock) (g2 : (w1.alloc (.cells cs2 3)).grownBy w2 va.ownBlock) : w.heap.size + 1 ≤ w2.heap.size := Nat.le_trans (s.b1 g1) (Nat.le_trans (by simp) g2.size)
theorem NS.len (s : NS w W h pv vl va vd N q) (f : Int × Nat × Nat → Int) {m : Nat} (hm : N + m ≤ 1000000) : (q.map f).length + m ≤ 1000000 := by rw [List.length_map]; have := s.few; omega
theorem NS.more (s : NS w W h pv vl va vd N q) (news : List (Int × Nat × Nat)) (e1 : z1 = news.map fL) (e2 : z2 = news.map fT) (e3 : z3 = news.map fD)
    (o1 : OwnI w1 (w.heap.size + 1) v1 (q.map fL ++ z1)) (g1 : (W.alloc (.cells cs1 3)).grownBy w1 vl.ownBlock) (c1 : v1.ownBlock = vl.ownBlock ∨ v1.ownBlock = some (W.heap.size + 1))
    (o2 : OwnI w2 (w.heap.size + 1) v2 (q.map fT ++ z2)) (g2 : (w1.alloc (.cells cs2 3)).grownBy w2 va.ownBlock) (c2 : v2.ownBlock = va.ownBlock ∨ v2.ownBlock = some (w1.heap.size + 1))
    (o3 : OwnI w3 (w.heap.size + 1) v3 (q.map fD ++ z3)) (g3 : (w2.alloc (.cells cs3 3)).grownBy w3 vd.ownBlock) (c3 : v3.ownBlock = vd.ownBlock ∨ v3.ownBlock = some (w2.heap.size + 1))
    (hf : ∀ x ∈ news, FitN x) : NS w w3 h pv v1 v2 v3 (N + news.length) (q ++ news) := by
  subst e1 e2 e3
  have la1 : Apt v1 va := Apt.next s.a c1 s.la
  have ld1 : Apt v1 vd := Apt.next s.d c1 s.ld
  have la2 : Apt v2 v1 := Apt.next o1 c2 la1.swap
  have ad2 : Apt v2 vd := Apt.next (((s.d.alloc _).keep g1 s.ld)) c2 s.ad
  have o1' : OwnI w2 (w.heap.size + 1) v1 (q.map fL ++ news.map fL) := (o1.alloc _).keep g2 la1.swap
  have ld3 : Apt v3 v1 := Apt.next o1' c3 ld1.swap
  have ad3 : Apt v3 v2 := Apt.next o2 c3 ad2.swap
  have bs := s.base
  have w1s := s.b1 g1
  have w2s : w.heap.size + 1 ≤ w2.heap.size := Nat.le_trans w1s (Nat.le_trans (by simp) g2.size)
  have bl : Below (w.heap.size + 1) W w3 :=
    (((((below_al _ bs).trans (grown_low g1 (s.l.alloc _) (Nat.le_refl _) (by simp; omega))).trans (below_al _ w1s)).trans (grown_low g2 ((s.a1 g1).alloc _) (Nat.le_refl _) (by simp; omega))).trans (below_al _ w2s)).trans (grown_low g3 ((s.d2 g1 g2).alloc _) (Nat.le_refl _) (by simp; omega))
  refine ⟨?_, ?_, ?_, la2.swap, ld3.swap, ad3.swap, ?_, ?_, ?_, HB.below s.box bl (Nat.lt_succ_self _), s.below.trans (bl.mono (Nat.le_succ _))⟩
  · rw [List.map_append]; exact (o1'.alloc _).keep g3 ld1.swap
  · rw [List.map_append]; exact (o2.alloc _).keep g3 ad2.swap
  · rw [List.map_append]; exact o3
  · intro x hx
    rcases List.mem_append.1 hx with hx | hx
    · exact s.fit x hx
    · exact hf x hx
  · rw [List.length_append]; have := s.few; omega
  · rw [List.length_append]; have := s.some_; omega
end
theorem NS.forms {w W : World} {h : M.Hdr} {pv vl va vd : Value} {N : Nat} {q : List (Int × Nat × Nat)} (s : NS w W h pv vl va vd N q) (g : Nat) (hg : g < w.heap.size) :
    ∃ gl cl ga ca gd cd, vl = .slice (some ⟨gl, 0, none⟩) q.length cl ∧ va = .slice (some ⟨ga, 0, none⟩) q.length ca ∧ vd = .slice (some ⟨gd, 0, none⟩) q.length cd ∧
      Hid (∀ V, But g W V → ∀ (j : Nat) (x : Int × Nat × Nat), q[j]? = some x → V.cell? ⟨gl, j, none⟩ = some (.int .i64 x.1) ∧ V.cell? ⟨ga, j, none⟩ = some (.int .i64 ((x.2.1 : Nat) : Int)) ∧ V.cell? ⟨gd, j, none⟩ = some (.int .i64 ((x.2.2 : Nat) : Int))) := by
  obtain ⟨gl, cl, e1, l1, b1, h1⟩ := s.l.form (by rw [List.length_map]; exact s.some_)
  obtain ⟨ga, ca, e2, l2, b2, h2⟩ := s.a.form (by rw [List.length_map]; exact s.some_)
  obtain ⟨gd, cd, e3, l3, b3, h3⟩ := s.d.form (by rw [List.length_map]; exact s.some_)
  rw [List.length_map] at e1 e2 e3
  refine ⟨gl, cl, ga, ca, gd, cd, e1, e2, e3, hid fun V hV j x hx => ⟨?_, ?_, ?_⟩⟩
  · rw [World.cell?_of_block (hV.block gl l1 (by omega))]; exact h1 j _ (by rw [List.getElem?_map, hx]; rfl)
  · rw [World.cell?_of_block (hV.block ga l2 (by omega))]; exact h2 j _ (by rw [List.getElem?_map, hx]; rfl)
  · rw [World.cell?_of_block (hV.block gd l3 (by omega))]; exact h3 j _ (by rw [List.getElem?_map, hx]; rfl)

end Go.Proofs.YtgfihdfncddpaaaGreatDoor.Hd

/-! The document's texts, byte by byte. -/
namespace Go.Proofs.YtgfihdfncddpaaaGreatDoor.Hd
open Go.RowKit Go.Lib

/-- What lays fields answers: the block with its bytes, or nothing. -/
def LaidX (g : Nat) (o : Option (List Int)) (w : World) (e : Ending) (w' : World) : Prop :=
  (match o with
    | none => e = .returned (.tuple #[.slice none 0 0, .bool false])
    | some zs => e = .returned (.tuple #[.slice (some ⟨g, 0, none⟩) 512 512, .bool true]) ∧ BX w' g zs) ∧ But g w w'
theorem texts_rowsX (w : World) (g : Nat) (hg : g < w.heap.size) (h : M.Hdr) (o : Obj) (ht : h.name.size ≤ 100000 ∧ h.link.size ≤ 100000 ∧ h.user.size ≤ 100000 ∧ h.group.size ≤ 100000 ∧ h.pre.size ≤ 100000) :
    ∀ k, k < 5 → ∃ (s : ByteArray) (a m : Nat), (M.tq h)[k]? = some (s, a, m) ∧ s.size ≤ 100000 ∧ a + m ≤ 512 ∧ m ≤ 200 ∧ Hid (∀ V, But g ((((w.alloc o).alloc (.cells #[.string h.name, .string h.link, .string h.user, .string h.group, .string h.pre] 9)).alloc
      (.cells #[.int .i64 0, .int .i64 157, .int .i64 265, .int .i64 297, .int .i64 345] 3)).alloc (.cells #[.int .i64 100, .int .i64 100, .int .i64 32, .int .i64 32, .int .i64 155] 3)) V →
      V.cell? ⟨w.heap.size + 1, k, none⟩ = some (.string s) ∧ V.cell? ⟨w.heap.size + 1 + 1, k, none⟩ = some (.int .i64 a) ∧ V.cell? ⟨w.heap.size + 1 + 1 + 1, k, none⟩ = some (.int .i64 m)) := by
  intro k hk
  obtain ⟨_, r2, r3, r4, _, hs⟩ := four_new w o (.cells #[.string h.name, .string h.link, .string h.user, .string h.group, .string h.pre] 9) (.cells #[.int .i64 0, .int .i64 157, .int .i64 265, .int .i64 297, .int .i64 345] 3)
    (.cells #[.int .i64 100, .int .i64 100, .int .i64 32, .int .i64 32, .int .i64 155] 3)
  have h5 : k = 0 ∨ k = 1 ∨ k = 2 ∨ k = 3 ∨ k = 4 := by omega
  obtain ⟨t0, t1, t2, t3, t4⟩ := ht
  rcases h5 with rfl | rfl | rfl | rfl | rfl
  · exact ⟨_, 0, 100, rfl, t0, by decide, by decide, hid fun V hV => ⟨cell_of ((hV.block _ (by omega) (by omega)).trans r2) rfl, cell_of ((hV.block _ (by omega) (by omega)).trans r3) rfl, cell_of ((hV.block _ (by omega) (by omega)).trans r4) rfl⟩⟩
  · exact ⟨_, 157, 100, rfl, t1, by decide, by decide, hid fun V hV => ⟨cell_of ((hV.block _ (by omega) (by omega)).trans r2) rfl, cell_of ((hV.block _ (by omega) (by omega)).trans r3) rfl, cell_of ((hV.block _ (by omega) (by omega)).trans r4) rfl⟩⟩
  · exact ⟨_, 265, 32, rfl, t2, by decide, by decide, hid fun V hV => ⟨cell_of ((hV.block _ (by omega) (by omega)).trans r2) rfl, cell_of ((hV.block _ (by omega) (by omega)).trans r3) rfl, cell_of ((hV.block _ (by omega) (by omega)).trans r4) rfl⟩⟩
  · exact ⟨_, 297, 32, rfl, t3, by decide, by decide, hid fun V hV => ⟨cell_of ((hV.block _ (by omega) (by omega)).trans r2) rfl, cell_of ((hV.block _ (by omega) (by omega)).trans r3) rfl, cell_of ((hV.block _ (by omega) (by omega)).trans r4) rfl⟩⟩
  · exact ⟨_, 345, 155, rfl, t4, by decide, by decide, hid fun V hV => ⟨cell_of ((hV.block _ (by omega) (by omega)).trans r2) rfl, cell_of ((hV.block _ (by omega) (by omega)).trans r3) rfl, cell_of ((hV.block _ (by omega) (by omega)).trans r4) rfl⟩⟩

set_option maxRecDepth 100000 in
set_option maxHeartbeats 2000000 in
theorem refTextsX_any (g : Nat) (zs0 : List Int) (h : M.Hdr) (A : Option Addr) (n c : Nat) (w : World) (hb : BX w g zs0) (ht : h.name.size ≤ 100000 ∧ h.link.size ≤ 100000 ∧ h.user.size ≤ 100000 ∧ h.group.size ≤ 100000 ∧ h.pre.size ≤ 100000) :
    Calls Tryz.prog 33 #[.slice (some ⟨g, 0, none⟩) 512 512, .agg (hcells h (.slice A n c))] w (LaidX g (M.dt zs0 (M.tq h)) w) := by
  have HG := hid hb.lt
  have B1 := hid (HB.new w h (.slice A n c))
  have k0 := HB.cell B1.out (i := 0) (v := .string h.name) rfl
  have k7 := HB.cell B1.out (i := 7) (v := .string h.link) rfl
  have k9 := HB.cell B1.out (i := 9) (v := .string h.user) rfl
  have k10 := HB.cell B1.out (i := 10) (v := .string h.group) rfl
  have k13 := HB.cell B1.out (i := 13) (v := .string h.pre) rfl
  have HL := hid (texts_rowsX w g hb.lt h (.cells (hcells h (.slice A n c)) 31) ht)
  have HW := hid (four_new w (.cells (hcells h (.slice A n c)) 31) (.cells #[.string h.name, .string h.link, .string h.user, .string h.group, .string h.pre] 9) (.cells #[.int .i64 0, .int .i64 157, .int .i64 265, .int .i64 297, .int .i64 345] 3)
    (.cells #[.int .i64 100, .int .i64 100, .int .i64 32, .int .i64 32, .int .i64 155] 3)).2.2.2.2.1
  have HX := hid (hb.below HW.out hb.lt)
  clear hb ht
  go_enter Tryz.func33, Tryz.ntmps33
  go_wp2_with fail
  clear k0 k7 k9 k10 k13 B1
  generalize World.alloc (World.alloc (World.alloc (World.alloc w _) _) _) _ = W at *
  go_loopw [0, 9] (fun b i wr => ∃ k : Nat, b = .slice (some ⟨g, 0, none⟩) 512 512 ∧ i = .int .i64 k ∧ k ≤ 5 ∧ (∃ zk, Hid (BX wr g zk) ∧ Hid (M.dt zs0 (M.tq h) = M.dt zk ((M.tq h).drop k))) ∧ Hid (But g W wr)) (fun _ i _ => 5 - (RowKit.intOf i).toNat)
  case atStart => exact ⟨0, rfl, rfl, Nat.zero_le _, ⟨zs0, HX, hid rfl⟩, hid (But.refl _ _)⟩
  case round =>
    clear HX
    obtain ⟨k, rfl, rfl, hk, ⟨zk, HX, HD⟩, HU⟩ := hrel
    by_cases hlt : k < 5
    · obtain ⟨s, a, m, htq, hs, ham, hm, HC⟩ := HL.out k hlt
      have HDk := hid (show M.dt zs0 (M.tq h) = M.dt zk ((s, a, m) :: (M.tq h).drop (k + 1)) by
        obtain ⟨hq1, hq2⟩ := List.getElem?_eq_some_iff.1 htq
        rw [HD.out, List.drop_eq_getElem_cons hq1, hq2])
      clear htq HD
      have E5 := hid (show decide ((k : Int) < 5) = true by rw [decide_eq_true_eq]; omega)
      have HLT := hid hlt
      go_wp2_with fail
      simp only [E5.out]
      clear E5 hlt
      have HXd := hid HX.out.drew
      have HUd := hid HU.out.drew
      clear HX HU
      have HC1 := hid (fun V (hV : But g W V ∧ BX V g zk) => (HC.out V hV.1).1)
      have HC2 := hid (fun V (hV : But g W V ∧ BX V g zk) => (HC.out V hV.1).2.2)
      refine wp_region_held_drew (S := fun V => But g W V ∧ BX V g zk) (by kernel_rfl) ⟨HUd.out, HXd.out⟩ (fun hS => ?_)
      refine takeH (i := 0) (v := ?_) 30 rfl rfl (by kernel_rfl) (by kernel_rfl) (by kernel_rfl) (fun _ _ _ h => h) (by rfl) ?hy0 hS ?rest0
      case hy0 => (intro W hW; clear hW; go_simp; first | done | with_reducible rfl)
      try simp only [Act.put, List.setIfInBounds_toArray, List.set_cons_zero, List.set_cons_succ]
      refine takeH (i := 1) (v := ?_) 31 rfl rfl (by kernel_rfl) (by kernel_rfl) (by kernel_rfl) (fun _ _ _ h => h) (by rfl) ?hy1 hS ?rest1
      case hy1 => (intro W hW; clear hW; go_simp; first | done | with_reducible rfl)
      try simp only [Act.put, List.setIfInBounds_toArray, List.set_cons_zero, List.set_cons_succ]
      refine takeH (i := 2) (v := ?_) 32 rfl rfl (by kernel_rfl) (by kernel_rfl) (by kernel_rfl) (fun _ _ _ h => h) (by rfl) ?hy2 hS ?rest2
      case hy2 => (intro W hW; clear hW; go_simp; first | done | with_reducible rfl)
      try simp only [Act.put, List.setIfInBounds_toArray, List.set_cons_zero, List.set_cons_succ]
      refine takeH (i := 3) (v := ?_) 33 rfl rfl (by kernel_rfl) (by kernel_rfl) (by kernel_rfl) (fun _ _ _ h => h) (by rfl) ?hy3 hS ?rest3
      case hy3 => (intro W hW; have f0 := HC1.out W hW; clear hW; go_simp; first | done | with_reducible rfl)
      try simp only [Act.put, List.setIfInBounds_toArray, List.set_cons_zero, List.set_cons_succ]
      refine takeH (i := 4) (v := ?_) 34 rfl rfl (by kernel_rfl) (by kernel_rfl) (by kernel_rfl) (fun _ _ _ h => h) (by rfl) ?hy4 hS ?rest4
      case hy4 => (intro W hW; clear hW; go_simp; first | done | with_reducible rfl)
      try simp only [Act.put, List.setIfInBounds_toArray, List.set_cons_zero, List.set_cons_succ]
      refine takeH (i := 5) (v := ?_) 35 rfl rfl (by kernel_rfl) (by kernel_rfl) (by kernel_rfl) (fun _ _ _ h => h) (by rfl) ?hy5 hS ?rest5
      case hy5 => (intro W hW; clear hW; go_simp; first | done | with_reducible rfl)
      try simp only [Act.put, List.setIfInBounds_toArray, List.set_cons_zero, List.set_cons_succ]
      refine takeH (i := 6) (v := ?_) 36 rfl rfl (by kernel_rfl) (by kernel_rfl) (by kernel_rfl) (fun _ _ _ h => h) (by rfl) ?hy6 hS ?rest6
      case hy6 => (intro W hW; clear hW; go_simp; first | done | with_reducible rfl)
      try simp only [Act.put, List.setIfInBounds_toArray, List.set_cons_zero, List.set_cons_succ]
      refine takeH (i := 7) (v := ?_) 37 rfl rfl (by kernel_rfl) (by kernel_rfl) (by kernel_rfl) (fun _ _ _ h => h) (by rfl) ?hy7 hS ?rest7
      case hy7 => (intro W hW; have f0 := HC2.out W hW; clear hW; go_simp; first | done | with_reducible rfl)
      try simp only [Act.put, List.setIfInBounds_toArray, List.set_cons_zero, List.set_cons_succ]
      refine loneH (i := 8) 38 rfl rfl (by kernel_rfl) (by rfl) (fun K hK => ?_)
      go_simp
      generalize hSV : World.drew wr = V at *
      (with_reducible refine (S.refPut_own s hs m (by omega) (by omega) _).mono ?_)
      rintro e w1 ⟨A1, n1, d1, rfl, _, _, hrd, b1, hown⟩
      have HNE := hid (fun b off (e : A1 = some ⟨b, off, none⟩) => (Nat.ne_of_gt (Nat.lt_of_lt_of_le hS.2.lt (hown b off e)) : b ≠ g))
      clear hown
      have HX1 := hid (BX.below hS.2 b1 hS.2.lt)
      have HU1 := hid (hS.1.trans (But.of_below b1))
      clear hS
      refine hK.out _ _ ⟨HU1.out, HX1.out⟩ (fun hS => ?_)
      clear hK K
      try simp only [Act.put, List.setIfInBounds_toArray, List.set_cons_zero, List.set_cons_succ]
      refine takeH (i := 9) (v := ?_) 29 rfl rfl (by kernel_rfl) (by kernel_rfl) (by kernel_rfl) (fun _ _ _ h => h) (by rfl) ?hy9 hS ?rest9
      case hy9 => (intro W hW; clear hW; go_simp; first | done | with_reducible rfl)
      try simp only [Act.put, List.setIfInBounds_toArray, List.set_cons_zero, List.set_cons_succ]
      refine takeH (i := 10) (v := ?_) 39 rfl rfl (by kernel_rfl) (by kernel_rfl) (by kernel_rfl) (fun _ _ _ h => h) (by rfl) ?hy10 hS ?rest10
      case hy10 => (intro W hW; clear hW; go_simp; first | done | with_reducible rfl)
      try simp only [Act.put, List.setIfInBounds_toArray, List.set_cons_zero, List.set_cons_succ]
      refine takeH (i := 11) (v := ?_) 40 rfl rfl (by kernel_rfl) (by kernel_rfl) (by kernel_rfl) (fun _ _ _ h => h) (by rfl) ?hy11 hS ?rest11
      case hy11 => (intro W hW; clear hW; go_simp; first | done | with_reducible rfl)
      try simp only [Act.put, List.setIfInBounds_toArray, List.set_cons_zero, List.set_cons_succ]
      refine takeH (i := 12) (v := ?_) 10 rfl rfl (by kernel_rfl) (by kernel_rfl) (by kernel_rfl) (fun _ _ _ h => h) (by rfl) ?hy12 hS ?rest12
      case hy12 => (intro W hW; clear hW; go_simp; first | done | with_reducible rfl)
      try simp only [Act.put, List.setIfInBounds_toArray, List.set_cons_zero, List.set_cons_succ]
      refine takeH (i := 13) (v := ?_) 11 rfl rfl (by kernel_rfl) (by kernel_rfl) (by kernel_rfl) (fun _ _ _ h => h) (by rfl) ?hy13 hS ?rest13
      case hy13 => (intro W hW; clear hW; go_simp; first | done | with_reducible rfl)
      try simp only [Act.put, List.setIfInBounds_toArray, List.set_cons_zero, List.set_cons_succ]
      refine wpAnyH_done (by kernel_rfl) ?_ _
      try simp only [Act.put, List.setIfInBounds_toArray, List.set_cons_zero, List.set_cons_succ]
      cases hp : S.M.put s.data.toList m with
      | none =>
        clear hrd
        rw [show (none : Option (List UInt8)).isSome = false from rfl]
        go_wp2
        go_ret2
        have ht : M.tOk m s = false := by unfold M.tOk; rw [hp]; rfl
        refine ⟨?_, (But.of_below HW.out).trans HU1.out⟩
        rw [HDk.out]
        show (match (if M.tOk m s = true then _ else none : Option (List Int)) with | none => _ | some zs => _)
        rw [ht, if_neg (by decide)]
        exact rfl
      | some l =>
        rw [hp] at hrd
        have hT : M.tOk m s = true := by unfold M.tOk; rw [hp]; rfl
        have HT := hid (show M.dt zs0 (M.tq h) = M.dt (if M.blank s = true then zk else splice zk a (S.ints l)) ((M.tq h).drop (k + 1)) by
          rw [HDk.out, M.put_eq hp]
          show (if M.tOk m s = true then _ else none) = _
          rw [if_pos hT])
        clear hT
        have hn1 : n1 = m := by have := hrd.len; rw [show (some l : Option (List UInt8)).getD [] = l from rfl, S.ints_length, put_len hp] at this; exact this.symm
        subst hn1
        have HR := hid (show Rd w1 w1.heap.size A1 n1 (S.ints l) from hrd)
        clear hrd hp HDk
        obtain ⟨c1, c2, c3⟩ := HC.out w1 HU1.out
        clear c3
        rw [show (some l : Option (List UInt8)).isSome = true from rfl]
        by_cases hs0 : s = ⟨#[]⟩
        · subst hs0
          go_wp2_with fail
          go_roundw
          case rel => exact ⟨k + 1, rfl, (by go_num), HLT.out, ⟨zk, HX1, hid (by rw [HT.out, if_pos (by decide +kernel)])⟩, HU1⟩
          case measure => have := HLT.out; simp [RowKit.intOf]; omega
        · have e1 : (s.toList == []) = false := by
            rw [beq_eq_false_iff_ne]
            exact fun e => hs0 (toList_inj (e.trans (by decide +kernel)))
          go_wp2_with fail
          have HCL := hid (layX_any g a A1 n1 d1 zk (S.ints l) w1 HX1.out HR.out HNE.out (by omega))
          have HT1 := hid (show M.dt zs0 (M.tq h) = M.dt (splice zk a (S.ints l)) ((M.tq h).drop (k + 1)) by rw [HT.out, if_neg (by unfold M.blank; rw [e1]; decide)])
          clear HT
          (with_reducible refine HCL.out.mono ?_)
          rintro e w2 ⟨rfl, hx2, hu2⟩
          have HX2 := hid hx2
          have HU2 := hid (HU1.out.trans hu2)
          clear hx2 hu2 c1 c2 HX1 HU1 HCL HR
          go_wp2_with fail
          go_roundw
          case rel => exact ⟨k + 1, rfl, (by go_num), HLT.out, ⟨_, HX2, HT1⟩, HU2⟩
          case measure => have := HLT.out; simp [RowKit.intOf]; omega
    · obtain rfl : k = 5 := by omega
      go_wp2
      go_ret2
      refine ⟨?_, (But.of_below HW.out).trans HU.out⟩
      rw [HD.out, show (M.tq h).drop 5 = [] from rfl]
      exact ⟨rfl, HX.out⟩
end Go.Proofs.YtgfihdfncddpaaaGreatDoor.Hd

/-! The document's numbers, byte by byte. -/
namespace Go.Proofs.YtgfihdfncddpaaaGreatDoor.Hd
open Go.RowKit Go.Lib

theorem nqR_succ {h : M.Hdr} {k : Nat} {p q : Int} (hp : h.parts[k]? = some (p, q)) : M.nqR h (k + 1) = M.nqR h k ++ [(p, 386 + 24 * k, 12), (q, 398 + 24 * k, 12)] := by
  have hl : (h.parts.take k).length = k := by
    have := (List.getElem?_eq_some_iff.1 hp).1
    rw [List.length_take]; omega
  unfold M.nqR
  rw [List.take_add_one, hp, Option.toList_some, M.pq_snoc, hl, Nat.zero_add, ← List.cons_append, List.append_assoc]

set_option maxRecDepth 100000 in
set_option maxHeartbeats 4000000 in
theorem refNumbersX_any (g : Nat) (zs0 : List Int) (h : M.Hdr) (A : Option Addr) (c : Nat) (w : World) (hb : BX w g zs0) (hi : HIn w h (.slice A h.parts.length c)) (h4 : h.parts.length ≤ 4) :
    Calls Tryz.prog 35 #[.slice (some ⟨g, 0, none⟩) 512 512, .agg (hcells h (.slice A h.parts.length c))] w (LaidX g (M.dn zs0 (M.nq h)) w) := by
  have HX := hid hb
  have HI := hid hi
  have H4 := hid h4
  clear hb hi h4
  have HQ7 := hid (show M.nq7 h = M.nq5 h ++ (if decide (0 < h.way) = true then [(h.major, 329, 8), (h.minor, 337, 8)] else []) from rfl)
  have HQ := hid (show M.nq h = if (h.kind == 83) = true then M.nqR h h.parts.length else M.nq7 h from rfl)
  generalize hn : h.parts.length = n at *
  have HN := hid hn
  clear hn
  have B1 := hid (HB.new w h (.slice A n c))
  have k1 := HB.cell B1.out (i := 1) (v := .int .i64 h.mode) rfl
  have k2 := HB.cell B1.out (i := 2) (v := .int .i64 h.uid) rfl
  have k3 := HB.cell B1.out (i := 3) (v := .int .i64 h.gid) rfl
  have k4 := HB.cell B1.out (i := 4) (v := .int .i64 h.size) rfl
  have k5 := HB.cell B1.out (i := 5) (v := .int .i64 h.mtime) rfl
  have HF := hid (four_new w (.cells (hcells h (.slice A n c)) 31) (.cells #[.int .i64 h.mode, .int .i64 h.uid, .int .i64 h.gid, .int .i64 h.size, .int .i64 h.mtime] 3)
    (.cells #[.int .i64 100, .int .i64 108, .int .i64 116, .int .i64 124, .int .i64 136] 3) (.cells #[.int .i64 8, .int .i64 8, .int .i64 8, .int .i64 12, .int .i64 12] 3))
  clear B1
  go_enter Tryz.func35, Tryz.ntmps35
  go_upto_region 4 with fail
  clear k1 k2 k3 k4 k5
  generalize World.alloc (World.alloc (World.alloc (World.alloc w _) _) _) _ = W at *
  have S0 : Hid (NS w W h (.slice A n c) (.slice (some ⟨w.heap.size + 1, 0, none⟩) 5 5) (.slice (some ⟨w.heap.size + 1 + 1, 0, none⟩) 5 5) (.slice (some ⟨w.heap.size + 1 + 1 + 1, 0, none⟩) 5 5) 5 (M.nq5 h)) := hid (by
    obtain ⟨r1, r2, r3, r4, rb, _⟩ := HF.out
    obtain ⟨i1, i2, i3, i4, i5, _⟩ := HI.out.ints
    refine ⟨OwnI.lit _ _ _ rfl r2 (Nat.le_refl _) (show (5 : Nat) ≤ 1000000 by decide), OwnI.lit _ _ _ rfl r3 (by omega) (show (5 : Nat) ≤ 1000000 by decide), OwnI.lit _ _ _ rfl r4 (by omega) (show (5 : Nat) ≤ 1000000 by decide), .inr ?_, .inr ?_, .inr ?_, ?_, Nat.le_refl _, Nat.succ_pos _, r1, rb⟩
    · intro e; have := Option.some.inj e; dsimp only at this; omega
    · intro e; have := Option.some.inj e; dsimp only at this; omega
    · intro e; have := Option.some.inj e; dsimp only at this; omega
    · intro x hx
      unfold M.nq5 at hx
      simp only [List.mem_cons, List.not_mem_nil, or_false] at hx
      rcases hx with rfl | rfl | rfl | rfl | rfl
      · exact ⟨i1, Nat.le_of_ble_eq_true rfl, Nat.le_of_ble_eq_true rfl⟩
      · exact ⟨i2, Nat.le_of_ble_eq_true rfl, Nat.le_of_ble_eq_true rfl⟩
      · exact ⟨i3, Nat.le_of_ble_eq_true rfl, Nat.le_of_ble_eq_true rfl⟩
      · exact ⟨i4, Nat.le_of_ble_eq_true rfl, Nat.le_of_ble_eq_true rfl⟩
      · exact ⟨i5, Nat.le_of_ble_eq_true rfl, Nat.le_of_ble_eq_true rfl⟩)
  clear HF
  have k8 := HB.cell S0.out.box (i := 8) (v := .int .i64 h.way) rfl
  have k11 := HB.cell S0.out.box (i := 11) (v := .int .i64 h.major) rfl
  have k12 := HB.cell S0.out.box (i := 12) (v := .int .i64 h.minor) rfl
  go_upto_if 28 with fail
  generalize decide (0 < h.way) = bw at HQ7 ⊢
  go_cut [6, 7, 8] from 29 to 41 (fun x y z wx => NS w wx h (.slice A n c) x y z 7 (M.nq7 h))
  case first =>
    cases bw
    · go_wp2_with fail
      go_meet
      case rel =>
        rw [HQ7.out, if_neg Bool.false_ne_true, List.append_nil]
        exact S0.out.mono (by decide)
    · go_wp2_with (first
        | (refine wpList_appI rfl (.tmp 29) (.tmp 34) rfl (w.heap.size + 1) _ _ [h.major, h.minor] _ rfl 2 rfl (by simp [Act.eval]) S0.out.l S0.out.base (by simp [Act.eval]) (S0.out.len (m := 2) _ (by decide)) ?_; intro v1 w1 o1 g1 c1)
        | (refine wpList_appI rfl (.tmp 36) (.tmp 37) rfl (w.heap.size + 1) _ _ [329, 337] _ rfl 2 rfl (by simp [Act.eval]) (S0.out.a1 g1.out) (S0.out.b1 g1.out) (by simp [Act.eval]) (S0.out.len (m := 2) _ (by decide)) ?_; intro v2 w2 o2 g2 c2)
        | (refine wpList_appI rfl (.tmp 39) (.tmp 40) rfl (w.heap.size + 1) _ _ [8, 8] _ rfl 2 rfl (by simp [Act.eval]) (S0.out.d2 g1.out g2.out) (S0.out.b2 g1.out g2.out) (by simp [Act.eval]) (S0.out.len (m := 2) _ (by decide)) ?_; intro v3 w3 o3 g3 c3))
      go_meet
      case rel =>
        rw [HQ7.out, if_pos (by trivial)]
        exact S0.out.more [(h.major, 329, 8), (h.minor, 337, 8)] rfl rfl rfl o1.out g1.out c1.out o2.out g2.out c2.out o3.out g3.out c3.out (by
        obtain ⟨_, _, _, _, _, i6, i7, _⟩ := HI.out.ints
        intro x hx
        simp only [List.mem_cons, List.not_mem_nil, or_false] at hx
        rcases hx with rfl | rfl
        · exact ⟨i6, Nat.le_of_ble_eq_true rfl, Nat.le_of_ble_eq_true rfl⟩
        · exact ⟨i7, Nat.le_of_ble_eq_true rfl, Nat.le_of_ble_eq_true rfl⟩)
  case rest =>
    clear k8 k11 k12 S0
    have S1 := hid hcut
    clear hcut
    have k6 := HB.cell S1.out.box (i := 6) (v := .int .u8 h.kind) rfl
    have k16 := HB.cell S1.out.box (i := 16) (v := .int .i64 h.real) rfl
    go_upto_if 44 with fail
    generalize (h.kind == 83) = bk at HQ ⊢
    go_cut [6, 7, 8, 9] from 45 to 89 (fun x y z _ wx => NS w wx h (.slice A n c) x y z 16 (M.nq h))
    case first =>
      cases bk
      · go_wp2_with fail
        go_meet
        case rel =>
          rw [HQ.out, if_neg Bool.false_ne_true]
          exact S1.out.mono (by decide)
      · go_upto_region 12 with (first
          | (refine wpList_appI rfl (.tmp 45) (.tmp 48) rfl (w.heap.size + 1) _ _ [h.real] _ rfl 1 rfl (by simp [Act.eval]) S1.out.l S1.out.base (by simp [Act.eval]) (S1.out.len (m := 1) _ (by decide)) ?_; intro v1 w1 o1 g1 c1)
          | (refine wpList_appI rfl (.tmp 50) (.tmp 51) rfl (w.heap.size + 1) _ _ [483] _ rfl 1 rfl (by simp [Act.eval]) (S1.out.a1 g1.out) (S1.out.b1 g1.out) (by simp [Act.eval]) (S1.out.len (m := 1) _ (by decide)) ?_; intro v2 w2 o2 g2 c2)
          | (refine wpList_appI rfl (.tmp 53) (.tmp 54) rfl (w.heap.size + 1) _ _ [12] _ rfl 1 rfl (by simp [Act.eval]) (S1.out.d2 g1.out g2.out) (S1.out.b2 g1.out g2.out) (by simp [Act.eval]) (S1.out.len (m := 1) _ (by decide)) ?_; intro v3 w3 o3 g3 c3))
        have S2 := hid (S1.out.more [(h.real, 483, 12)] rfl rfl rfl o1.out g1.out c1.out o2.out g2.out c2.out o3.out g3.out c3.out (by
          obtain ⟨_, _, _, _, _, _, _, i8⟩ := HI.out.ints
          intro x hx
          simp only [List.mem_cons, List.not_mem_nil, or_false] at hx
          subst hx
          exact ⟨i8, Nat.le_of_ble_eq_true rfl, Nat.le_of_ble_eq_true rfl⟩))
        clear o1 g1 c1 o2 g2 c2 o3 g3 c3 S1 k6 k16
        go_wp2_with fail
        go_loopw [6, 7, 8, 9] (fun x y z i wr => ∃ k : Nat, i = .int .i64 k ∧ k ≤ n ∧ NS w wr h (.slice A n c) x y z (8 + 2 * k) (M.nqR h k)) (fun _ _ _ i _ => n - (RowKit.intOf i).toNat)
        case atStart => exact ⟨0, rfl, Nat.zero_le _, S2.out⟩
        case round =>
          clear S2
          obtain ⟨k, rfl, hk, s⟩ := hrel
          have S3 := hid s
          clear s
          have k14 := HB.cell S3.out.box (i := 14) (v := .slice A n c) rfl
          have hk4 : k ≤ 4 := Nat.le_trans hk H4.out
          by_cases hkn : k < n
          · obtain ⟨A', c', he, _, hcells⟩ := PartsB.below HI.out.parts S3.out.below
            injection he with he1 he2 he3
            clear he2
            subst he1 he3
            obtain ⟨ba, oa, rfl, _, hca⟩ := hcells (by rw [HN.out]; omega)
            obtain ⟨⟨p, p2⟩, hpk⟩ : ∃ p, h.parts[k]? = some p := ⟨_, List.getElem?_eq_getElem (by rw [HN.out]; exact hkn)⟩
            have HPN := hid (HI.out.nums _ (List.mem_of_getElem? hpk))
            have HRS := hid (nqR_succ hpk)
            clear hcells hca
            go_wp2_with fail
            have S4 := hid S3.out.drew
            clear S3 k14
            obtain ⟨A', c', he, _, hcells⟩ := PartsB.below HI.out.parts S4.out.below
            injection he with he1 he2 he3
            clear he2
            subst he1 he3
            obtain ⟨ba', oa', he, hba, hca⟩ := hcells (by rw [HN.out]; omega)
            injection he with he
            injection he with he1 he2
            subst he1 he2
            obtain ⟨a0, a1⟩ := hca k _ hpk
            dsimp only at a0 a1
            rw [show 2 * k = k * 2 by omega] at a0 a1
            have C14 := hid (fun V (hV : Below (w.heap.size + 1) wr.drew V) => (hV.cell (p := ⟨w.heap.size, 14, none⟩) (Nat.lt_succ_self _)).trans (HB.cell S4.out.box (i := 14) (v := .slice (some ⟨ba, oa, none⟩) n c) rfl))
            have CA0 := hid (fun V (hV : Below (w.heap.size + 1) wr.drew V) => (hV.cell (p := ⟨ba, oa + k * 2, none⟩) (Nat.lt_succ_of_lt hba)).trans a0)
            have CA1 := hid (fun V (hV : Below (w.heap.size + 1) wr.drew V) => (hV.cell (p := ⟨ba, oa + k * 2 + 1, none⟩) (Nat.lt_succ_of_lt hba)).trans a1)
            have hS0 : Below (w.heap.size + 1) wr.drew wr.drew := Below.refl _ _
            clear hcells hca hpk a0 a1 hba
            refine wp_region_held_drew (S := fun U => Below (w.heap.size + 1) wr.drew U) (by kernel_rfl) hS0 (fun hS => ?_)
            clear hS0
            generalize hSV : wr.drew = V at *
            clear hSV
            refine takeH (i := 0) (v := ?_) 63 rfl rfl (by kernel_rfl) (by kernel_rfl) (by kernel_rfl) (fun _ _ _ h => h) (by rfl) ?hy0 hS ?rest0
            case hy0 => (intro W hW; clear hW; go_simp; first | done | with_reducible rfl)
            try simp only [Act.put, List.setIfInBounds_toArray, List.set_cons_zero, List.set_cons_succ]
            refine takeH (i := 1) (v := ?_) 64 rfl rfl (by kernel_rfl) (by kernel_rfl) (by kernel_rfl) (fun _ _ _ h => h) (by rfl) ?hy1 hS ?rest1
            case hy1 => (intro W hW; clear hW; go_simp; first | done | with_reducible rfl)
            try simp only [Act.put, List.setIfInBounds_toArray, List.set_cons_zero, List.set_cons_succ]
            refine takeH (i := 2) (v := ?_) 65 rfl rfl (by kernel_rfl) (by kernel_rfl) (by kernel_rfl) (fun _ _ _ h => h) (by rfl) ?hy2 hS ?rest2
            case hy2 => (intro W hW; have f0 := C14.out W hW; clear hW; go_simp; first | done | with_reducible rfl)
            try simp only [Act.put, List.setIfInBounds_toArray, List.set_cons_zero, List.set_cons_succ]
            refine takeH (i := 3) (v := ?_) 66 rfl rfl (by kernel_rfl) (by kernel_rfl) (by kernel_rfl) (fun _ _ _ h => h) (by rfl) ?hy3 hS ?rest3
            case hy3 => (intro W hW; clear hW; go_simp; first | done | with_reducible rfl)
            try simp only [Act.put, List.setIfInBounds_toArray, List.set_cons_zero, List.set_cons_succ]
            refine takeH (i := 4) (v := ?_) 67 rfl rfl (by kernel_rfl) (by kernel_rfl) (by kernel_rfl) (fun _ _ _ h => h) (by rfl) ?hy4 hS ?rest4
            case hy4 => (intro W hW; clear hW; go_simp; first | done | with_reducible rfl)
            try simp only [Act.put, List.setIfInBounds_toArray, List.set_cons_zero, List.set_cons_succ]
            refine takeH (i := 5) (v := ?_) 68 rfl rfl (by kernel_rfl) (by kernel_rfl) (by kernel_rfl) (fun _ _ _ h => h) (by rfl) ?hy5 hS ?rest5
            case hy5 => (intro W hW; clear hW; go_simp; first | done | with_reducible rfl)
            try simp only [Act.put, List.setIfInBounds_toArray, List.set_cons_zero, List.set_cons_succ]
            refine takeH (i := 6) (v := ?_) 69 rfl rfl (by kernel_rfl) (by kernel_rfl) (by kernel_rfl) (fun _ _ _ h => h) (by rfl) ?hy6 hS ?rest6
            case hy6 => (intro W hW; have f0 := CA0.out W hW; clear hW; go_simp; first | done | with_reducible rfl)
            try simp only [Act.put, List.setIfInBounds_toArray, List.set_cons_zero, List.set_cons_succ]
            refine takeH (i := 7) (v := ?_) 70 rfl rfl (by kernel_rfl) (by kernel_rfl) (by kernel_rfl) (fun _ _ _ h => h) (by rfl) ?hy7 hS ?rest7
            case hy7 => (intro W hW; clear hW; go_simp; first | done | with_reducible rfl)
            try simp only [Act.put, List.setIfInBounds_toArray, List.set_cons_zero, List.set_cons_succ]
            refine takeH (i := 8) (v := ?_) 71 rfl rfl (by kernel_rfl) (by kernel_rfl) (by kernel_rfl) (fun _ _ _ h => h) (by rfl) ?hy8 hS ?rest8
            case hy8 => (intro W hW; have f0 := C14.out W hW; clear hW; go_simp; first | done | with_reducible rfl)
            try simp only [Act.put, List.setIfInBounds_toArray, List.set_cons_zero, List.set_cons_succ]
            refine takeH (i := 9) (v := ?_) 72 rfl rfl (by kernel_rfl) (by kernel_rfl) (by kernel_rfl) (fun _ _ _ h => h) (by rfl) ?hy9 hS ?rest9
            case hy9 => (intro W hW; clear hW; go_simp; first | done | with_reducible rfl)
            try simp only [Act.put, List.setIfInBounds_toArray, List.set_cons_zero, List.set_cons_succ]
            refine takeH (i := 10) (v := ?_) 73 rfl rfl (by kernel_rfl) (by kernel_rfl) (by kernel_rfl) (fun _ _ _ h => h) (by rfl) ?hy10 hS ?rest10
            case hy10 => (intro W hW; clear hW; go_simp; first | done | with_reducible rfl)
            try simp only [Act.put, List.setIfInBounds_toArray, List.set_cons_zero, List.set_cons_succ]
            refine takeH (i := 11) (v := ?_) 74 rfl rfl (by kernel_rfl) (by kernel_rfl) (by kernel_rfl) (fun _ _ _ h => h) (by rfl) ?hy11 hS ?rest11
            case hy11 => (intro W hW; clear hW; go_simp; first | done | with_reducible rfl)
            try simp only [Act.put, List.setIfInBounds_toArray, List.set_cons_zero, List.set_cons_succ]
            refine takeH (i := 12) (v := ?_) 75 rfl rfl (by kernel_rfl) (by kernel_rfl) (by kernel_rfl) (fun _ _ _ h => h) (by rfl) ?hy12 hS ?rest12
            case hy12 => (intro W hW; have f0 := CA1.out W hW; clear hW; go_simp; first | done | with_reducible rfl)
            try simp only [Act.put, List.setIfInBounds_toArray, List.set_cons_zero, List.set_cons_succ]
            refine loneH (i := 13) 76 rfl rfl (by kernel_rfl) (by rfl) (fun K hK => ?_)
            go_simp
            refine hK.out _ _ (hS.alloc S4.out.base _) (fun hS => ?_)
            clear hK K
            try simp only [Act.put, List.setIfInBounds_toArray, List.set_cons_zero, List.set_cons_succ]
            refine loneH (i := 14) 77 rfl rfl (by kernel_rfl) (by rfl) (fun K hK => ?_)
            refine wp_appI (.tmp 63) (.tmp 76) rfl (w.heap.size + 1) _ _ [p, p2] _ rfl 2 rfl (by simp [Act.eval]) S4.out.l S4.out.base (by simp [Act.eval]) (S4.out.len (m := 2) _ (by omega)) ?_
            intro v1 w1 o1 g1 c1
            refine hK.out _ _ (hS.trans (grown_low g1.out (S4.out.l.alloc _) (Nat.le_refl _) (by simp; exact Nat.le_of_succ_le S4.out.base))) (fun hS => ?_)
            clear hK K
            try simp only [Act.put, List.setIfInBounds_toArray, List.set_cons_zero, List.set_cons_succ]
            refine takeH (i := 15) (v := ?_) 6 rfl rfl (by kernel_rfl) (by kernel_rfl) (by kernel_rfl) (fun _ _ _ h => h) (by rfl) ?hy15 hS ?rest15
            case hy15 => (intro W hW; clear hW; go_simp; first | done | with_reducible rfl)
            try simp only [Act.put, List.setIfInBounds_toArray, List.set_cons_zero, List.set_cons_succ]
            refine wpAnyH_done (by kernel_rfl) ?_ _
            try simp only [Act.put, List.setIfInBounds_toArray, List.set_cons_zero, List.set_cons_succ]
            go_wp2_with (first
              | (refine wpList_appI rfl (.tmp 78) (.tmp 85) rfl (w.heap.size + 1) _ _ [386 + 24 * (k : Int), 398 + 24 * (k : Int)] _ rfl 2 rfl (by simp [Act.eval]) (S4.out.a1 g1.out) (S4.out.b1 g1.out) (by simp [Act.eval]) (S4.out.len (m := 2) _ (by omega)) ?_; intro v2 w2 o2 g2 c2)
              | (refine wpList_appI rfl (.tmp 87) (.tmp 88) rfl (w.heap.size + 1) _ _ [12, 12] _ rfl 2 rfl (by simp [Act.eval]) (S4.out.d2 g1.out g2.out) (S4.out.b2 g1.out g2.out) (by simp [Act.eval]) (S4.out.len (m := 2) _ (by omega)) ?_; intro v3 w3 o3 g3 c3))
            go_roundw
            case rel =>
             refine ⟨k + 1, (by go_num), hkn, ?_⟩
             rw [HRS.out]
             exact (S4.out.more [(p, 386 + 24 * k, 12), (p2, 398 + 24 * k, 12)] rfl (by simp [fT]) rfl o1.out g1.out c1.out o2.out g2.out c2.out o3.out g3.out c3.out (by
              intro x hx
              simp only [List.mem_cons, List.not_mem_nil, or_false] at hx
              have hk3 : k ≤ 3 := by have := H4.out; omega
              rcases hx with rfl | rfl
              · exact ⟨HPN.out.1, show 386 + 24 * k + 12 ≤ 512 by omega, Nat.le_refl _⟩
              · exact ⟨HPN.out.2, show 398 + 24 * k + 12 ≤ 512 by omega, Nat.le_refl _⟩)).mono (show 8 + 2 * k + 2 ≤ 8 + 2 * (k + 1) by omega)
            case measure => simp [RowKit.intOf]; omega
          · go_wp2_with fail
            go_meet
            case rel =>
              rw [HQ.out, if_pos (by trivial)]
              obtain rfl : k = n := by omega
              exact S3.out.mono (by have := H4.out; omega)
    case rest =>
      clear k6 k16 S1
      have s2 := hcut
      clear hcut
      have HNq := hid (rfl : M.nq h = M.nq h)
      generalize hq2 : M.nq h = q2 at s2
      have HQ2 := hid hq2
      clear hq2
      obtain ⟨gl, cl, ga, ca, gd, cd, rfl, rfl, rfl, HC⟩ := s2.forms g HX.out.lt
      have S2 := hid s2
      have HXD := hid (BX.below HX.out s2.below HX.out.lt)
      have HFit := hid s2.fit
      have h16 := s2.few
      have HUD := hid s2.below
      clear s2 S2
      generalize hnq : q2.length = nq at *
      have HNQ := hid hnq
      clear hnq
      go_wp2_with fail
      go_loopw [0, 10] (fun b i wr => ∃ k : Nat, b = .slice (some ⟨g, 0, none⟩) 512 512 ∧ i = .int .i64 k ∧ k ≤ nq ∧ (∃ zk, Hid (BX wr g zk) ∧ Hid (M.dn zs0 (M.nq h) = M.dn zk ((M.nq h).drop k))) ∧ Hid (But g wc wr)) (fun _ i _ => nq - (RowKit.intOf i).toNat)
      case atStart => exact ⟨0, rfl, rfl, Nat.zero_le _, ⟨zs0, HXD, hid rfl⟩, hid (But.refl _ _)⟩
      case round =>
        clear HXD
        obtain ⟨k, rfl, rfl, hk, ⟨zk, HXr, HD⟩, HU⟩ := hrel
        by_cases hlt : k < nq
        · obtain ⟨⟨z, a, m⟩, hq⟩ : ∃ x, q2[k]? = some x := ⟨_, List.getElem?_eq_getElem (by rw [HNQ.out]; exact hlt)⟩
          obtain ⟨hz, ham, hm⟩ := HFit.out _ (List.mem_of_getElem? hq)
          dsimp only at hz ham hm
          have E5 := hid (show decide (k < nq) = true by rw [decide_eq_true_eq]; omega)
          have HLT := hid hlt
          go_wp2_with fail
          try simp only [E5.out]
          clear E5 hlt
          have HXd := hid HXr.out.drew
          have HUd := hid HU.out.drew
          clear HXr HU
          have HC1 := hid (fun V (hV : But g wc V ∧ BX V g zk) => (HC.out V hV.1 k _ hq).1)
          have HC2 := hid (fun V (hV : But g wc V ∧ BX V g zk) => (HC.out V hV.1 k _ hq).2.2)
          have HC3 := hid (fun V (hV : But g wc V) => HC.out V hV k _ hq)
          have HDk := hid (show M.dn zs0 (M.nq h) = M.dn zk ((z, a, m) :: (M.nq h).drop (k + 1)) by
            rw [← HQ2.out] at hq
            obtain ⟨hq1, hq2⟩ := List.getElem?_eq_some_iff.1 hq
            rw [HD.out, List.drop_eq_getElem_cons hq1, hq2])
          dsimp only at HC1 HC2 HC3
          have HZ := hid hz
          clear hq
          refine wp_region_held_drew (S := fun V => But g wc V ∧ BX V g zk) (by kernel_rfl) ⟨HUd.out, HXd.out⟩ (fun hS => ?_)
          refine takeH (i := 0) (v := ?_) 97 rfl rfl (by kernel_rfl) (by kernel_rfl) (by kernel_rfl) (fun _ _ _ h => h) (by rfl) ?hy0d hS ?rest0d
          case hy0d => (intro W hW; clear hW; go_simp; first | done | with_reducible rfl)
          try simp only [Act.put, List.setIfInBounds_toArray, List.set_cons_zero, List.set_cons_succ]
          refine takeH (i := 1) (v := ?_) 98 rfl rfl (by kernel_rfl) (by kernel_rfl) (by kernel_rfl) (fun _ _ _ h => h) (by rfl) ?hy1d hS ?rest1d
          case hy1d => (intro W hW; clear hW; go_simp; first | done | with_reducible rfl)
          try simp only [Act.put, List.setIfInBounds_toArray, List.set_cons_zero, List.set_cons_succ]
          refine takeH (i := 2) (v := ?_) 99 rfl rfl (by kernel_rfl) (by kernel_rfl) (by kernel_rfl) (fun _ _ _ h => h) (by rfl) ?hy2d hS ?rest2d
          case hy2d => (intro W hW; have f0 := HLT.out; clear hW; go_simp; first | done | with_reducible rfl)
          try simp only [Act.put, List.setIfInBounds_toArray, List.set_cons_zero, List.set_cons_succ]
          refine takeH (i := 3) (v := ?_) 100 rfl rfl (by kernel_rfl) (by kernel_rfl) (by kernel_rfl) (fun _ _ _ h => h) (by rfl) ?hy3d hS ?rest3d
          case hy3d => (intro W hW; have f0 := HC1.out W hW; clear hW; go_simp; first | done | with_reducible rfl)
          try simp only [Act.put, List.setIfInBounds_toArray, List.set_cons_zero, List.set_cons_succ]
          refine takeH (i := 4) (v := ?_) 101 rfl rfl (by kernel_rfl) (by kernel_rfl) (by kernel_rfl) (fun _ _ _ h => h) (by rfl) ?hy4d hS ?rest4d
          case hy4d => (intro W hW; clear hW; go_simp; first | done | with_reducible rfl)
          try simp only [Act.put, List.setIfInBounds_toArray, List.set_cons_zero, List.set_cons_succ]
          refine takeH (i := 5) (v := ?_) 102 rfl rfl (by kernel_rfl) (by kernel_rfl) (by kernel_rfl) (fun _ _ _ h => h) (by rfl) ?hy5d hS ?rest5d
          case hy5d => (intro W hW; clear hW; go_simp; first | done | with_reducible rfl)
          try simp only [Act.put, List.setIfInBounds_toArray, List.set_cons_zero, List.set_cons_succ]
          refine takeH (i := 6) (v := ?_) 103 rfl rfl (by kernel_rfl) (by kernel_rfl) (by kernel_rfl) (fun _ _ _ h => h) (by rfl) ?hy6d hS ?rest6d
          case hy6d => (intro W hW; have f0 := HLT.out; clear hW; go_simp; first | done | with_reducible rfl)
          try simp only [Act.put, List.setIfInBounds_toArray, List.set_cons_zero, List.set_cons_succ]
          refine takeH (i := 7) (v := ?_) 104 rfl rfl (by kernel_rfl) (by kernel_rfl) (by kernel_rfl) (fun _ _ _ h => h) (by rfl) ?hy7d hS ?rest7d
          case hy7d => (intro W hW; have f0 := HC2.out W hW; clear hW; go_simp; first | done | with_reducible rfl)
          try simp only [Act.put, List.setIfInBounds_toArray, List.set_cons_zero, List.set_cons_succ]
          refine loneH (i := 8) 105 rfl rfl (by kernel_rfl) (by rfl) (fun K hK => ?_)
          go_simp
          generalize hSV : World.drew wr = V at *
          (with_reducible refine (putRef_own z m _ HZ.out).mono ?_)
          rintro e w1 ⟨A1, n1, rfl, hrd, b1, hown⟩
          have HNE := hid (fun b off (e : A1 = some ⟨b, off, none⟩) => (Nat.ne_of_gt (Nat.lt_of_lt_of_le hS.2.lt (hown b off e)) : b ≠ g))
          clear hown
          have HX1 := hid (BX.below hS.2 b1 hS.2.lt)
          have HU1 := hid (hS.1.trans (But.of_below b1))
          clear hS
          refine hK.out _ _ ⟨HU1.out, HX1.out⟩ (fun hS => ?_)
          clear hK K
          try simp only [Act.put, List.setIfInBounds_toArray, List.set_cons_zero, List.set_cons_succ]
          refine takeH (i := 9) (v := ?_) 96 rfl rfl (by kernel_rfl) (by kernel_rfl) (by kernel_rfl) (fun _ _ _ h => h) (by rfl) ?hy9d hS ?rest9d
          case hy9d => (intro W hW; clear hW; go_simp; first | done | with_reducible rfl)
          try simp only [Act.put, List.setIfInBounds_toArray, List.set_cons_zero, List.set_cons_succ]
          refine takeH (i := 10) (v := ?_) 106 rfl rfl (by kernel_rfl) (by kernel_rfl) (by kernel_rfl) (fun _ _ _ h => h) (by rfl) ?hy10d hS ?rest10d
          case hy10d => (intro W hW; clear hW; go_simp; first | done | with_reducible rfl)
          try simp only [Act.put, List.setIfInBounds_toArray, List.set_cons_zero, List.set_cons_succ]
          refine takeH (i := 11) (v := ?_) 107 rfl rfl (by kernel_rfl) (by kernel_rfl) (by kernel_rfl) (fun _ _ _ h => h) (by rfl) ?hy11d hS ?rest11d
          case hy11d => (intro W hW; clear hW; go_simp; first | done | with_reducible rfl)
          try simp only [Act.put, List.setIfInBounds_toArray, List.set_cons_zero, List.set_cons_succ]
          refine takeH (i := 12) (v := ?_) 11 rfl rfl (by kernel_rfl) (by kernel_rfl) (by kernel_rfl) (fun _ _ _ h => h) (by rfl) ?hy12d hS ?rest12d
          case hy12d => (intro W hW; clear hW; go_simp; first | done | with_reducible rfl)
          try simp only [Act.put, List.setIfInBounds_toArray, List.set_cons_zero, List.set_cons_succ]
          refine takeH (i := 13) (v := ?_) 12 rfl rfl (by kernel_rfl) (by kernel_rfl) (by kernel_rfl) (fun _ _ _ h => h) (by rfl) ?hy13d hS ?rest13d
          case hy13d => (intro W hW; clear hW; go_simp; first | done | with_reducible rfl)
          try simp only [Act.put, List.setIfInBounds_toArray, List.set_cons_zero, List.set_cons_succ]
          refine wpAnyH_done (by kernel_rfl) ?_ _
          try simp only [Act.put, List.setIfInBounds_toArray, List.set_cons_zero, List.set_cons_succ]
          obtain ⟨c1, c2, c3⟩ := HC3.out w1 HU1.out
          have HNo := hid (fun (hd : M.dOk (z, a, m) = false) => (by
            refine ⟨?_, (But.of_below HUD.out).trans HU1.out⟩
            rw [HDk.out]
            show (match (if M.dOk (z, a, m) = true then _ else none : Option (List Int)) with | none => _ | some zs => _)
            rw [hd, if_neg (by decide)] : LaidX g (M.dn zs0 (M.nq h)) w (.returned (.tuple #[.slice none 0 0, .bool false])) w1))
          cases hp : M.putFits z m with
          | false =>
            have HN1 := hid (HNo.out (by unfold M.dOk; rw [hp]; rfl))
            clear hrd HNo
            go_wp2
            go_ret2
            exact HN1.out
          | true =>
            have hn1 : n1 = m := by have := hrd.len; rw [putR_len hp] at this; exact this.symm
            subst hn1
            have HR := hid hrd
            have HP := hid hp
            clear hrd hp hz
            have HCL := hid (layX_any g a A1 n1 n1 zk (M.putR z n1) w1 HX1.out HR.out HNE.out ham)
            rcases (by omega : (¬ z < 0) ∨ (z < 0 ∧ a = 136) ∨ (z < 0 ∧ a ≠ 136)) with hz0 | ⟨hz0, ha⟩ | ⟨hz0, ha⟩
            case inr.inr =>
              have HN1 := hid (HNo.out (by unfold M.dOk; rw [HP.out, decide_eq_false (by omega), Bool.false_or, Bool.true_and, beq_eq_false_iff_ne]; exact ha))
              have ha1 : ((a : Int) == 136) = false := by rw [beq_eq_false_iff_ne]; omega
              have ha2 : ((a : Int) != 136) = true := by rw [bne_iff_ne]; omega
              clear ha HNo
              go_wp2
              go_ret2
              exact HN1.out
            all_goals
              have HT := hid (show M.dn zs0 (M.nq h) = M.dn (splice zk a (M.putR z n1)) ((M.nq h).drop (k + 1)) by
                rw [HDk.out]
                show (if M.dOk (z, a, n1) = true then _ else none) = _
                rw [if_pos (by unfold M.dOk; rw [HP.out]; simp; omega)])
            case' inl => skip
            case' inr.inl =>
              have ha1 : ((a : Int) == 136) = true := by rw [beq_iff_eq]; omega
              have ha2 : ((a : Int) != 136) = false := by rw [bne_eq_false_iff_eq]; omega
              clear ha
            all_goals
              clear HNo
              go_wp2_with fail
              (with_reducible refine HCL.out.mono ?_)
              rintro e w2 ⟨rfl, hx2, hu2⟩
              have HX2 := hid hx2
              have HU2 := hid (HU1.out.trans hu2)
              clear hx2 hu2 c1 c2 c3 HX1 HU1 HCL HR
              go_wp2_with fail
              go_roundw
              case rel => exact ⟨k + 1, rfl, (by go_num), HLT.out, ⟨_, HX2, HT⟩, HU2⟩
              case measure => have := HLT.out; simp [RowKit.intOf]; omega
        · obtain rfl : k = nq := by omega
          go_wp2
          go_ret2
          refine ⟨?_, (But.of_below HUD.out).trans HU.out⟩
          rw [HD.out, List.drop_of_length_le (by rw [HQ2.out, HNQ.out]; exact Nat.le_refl _)]
          exact ⟨rfl, HXr.out⟩
end Go.Proofs.YtgfihdfncddpaaaGreatDoor.Hd

/-! The document's Known, kind, magic and Way. -/
namespace Go.Proofs.YtgfihdfncddpaaaGreatDoor.Hd
open Go.RowKit Go.Lib
theorem below_drwR {B : Nat} {a w : World} (h : Below B a w) : Below B a w.drew := ⟨h.os, h.tape, h.output, h.size, h.block⟩

set_option maxHeartbeats 1000000 in
theorem refKnown_any (c : Int) (w : World) : Calls Tryz.prog 32 #[.int .u8 c] w fun e w' => e = .returned (.bool (M.known c)) ∧ w = w' := by
  go_enter Tryz.func32, Tryz.ntmps32
  go_wp2
  all_goals
    go_ret
    refine ⟨ret_bool (Bool.eq_iff_iff.2 ?_), rfl⟩
    unfold M.known
    simp at *
    try omega
set_option maxHeartbeats 1000000 in
theorem magic_any (k : Nat) (hk : k < 3) (w : World) : Calls Tryz.prog 37 #[.int .i64 k] w fun e w' => e = .returned (.string (mgs k)) ∧ Below w.heap.size w w' := by
  have h3 : k = 0 ∨ k = 1 ∨ k = 2 := by omega
  rcases h3 with rfl | rfl | rfl
  all_goals
    clear hk
    go_enter Tryz.func37, Tryz.ntmps37
    go_wp2
    go_ret
    exact ⟨rfl, (Below.refl _ _).alloc (Nat.le_refl _) _⟩

end Go.Proofs.YtgfihdfncddpaaaGreatDoor.Hd

/-! The document's Print, as far as its bytes are bytes. -/
namespace Go.Proofs.YtgfihdfncddpaaaGreatDoor.Hd
open Go.RowKit Go.Lib
attribute [local go_sem ↓] run_make512
theorem HIn.box {w : World} {h : M.Hdr} {pv : Value} (hi : HIn w h pv) {W : World} (hb : Below w.heap.size w W) : HIn W h pv :=
  ⟨PartsB.mono (PartsB.below hi.parts hb) hb.size, hi.nums, hi.kind, hi.ints, hi.texts⟩
theorem HB.all {w : World} {g : Nat} {h : M.Hdr} {pv : Value} (hb : HB w g h pv) : w.cell? ⟨g, 0, none⟩ = some (.string h.name) ∧ w.cell? ⟨g, 1, none⟩ = some (.int .i64 h.mode) ∧ w.cell? ⟨g, 2, none⟩ = some (.int .i64 h.uid) ∧ w.cell? ⟨g, 3, none⟩ = some (.int .i64 h.gid) ∧ w.cell? ⟨g, 4, none⟩ = some (.int .i64 h.size) ∧ w.cell? ⟨g, 5, none⟩ = some (.int .i64 h.mtime) ∧ w.cell? ⟨g, 6, none⟩ = some (.int .u8 h.kind) ∧ w.cell? ⟨g, 7, none⟩ = some (.string h.link) ∧ w.cell? ⟨g, 8, none⟩ = some (.int .i64 h.way) ∧ w.cell? ⟨g, 9, none⟩ = some (.string h.user) ∧ w.cell? ⟨g, 10, none⟩ = some (.string h.group) ∧ w.cell? ⟨g, 11, none⟩ = some (.int .i64 h.major) ∧ w.cell? ⟨g, 12, none⟩ = some (.int .i64 h.minor) ∧ w.cell? ⟨g, 13, none⟩ = some (.string h.pre) ∧ w.cell? ⟨g, 14, none⟩ = some (pv) ∧ w.cell? ⟨g, 15, none⟩ = some (.bool h.more) ∧ w.cell? ⟨g, 16, none⟩ = some (.int .i64 h.real) :=
  ⟨hb.cell rfl, hb.cell rfl, hb.cell rfl, hb.cell rfl, hb.cell rfl, hb.cell rfl, hb.cell rfl, hb.cell rfl, hb.cell rfl, hb.cell rfl, hb.cell rfl, hb.cell rfl, hb.cell rfl, hb.cell rfl, hb.cell rfl, hb.cell rfl, hb.cell rfl⟩
theorem mgs_size {k : Nat} (h : k < 3) : (mgs k).size = 8 := by
  have h3 : k = 0 ∨ k = 1 ∨ k = 2 := by omega
  rcases h3 with rfl | rfl | rfl <;> rfl
theorem LaidTo.one {g : Nat} {w w' : World} {e : Ending} (h : LaidTo g w e w') : ∃ v b, e = .returned (.tuple #[v, .bool b]) ∧ (b = true → v = .slice (some ⟨g, 0, none⟩) 512 512) ∧ B512 w' g ∧ But g w w' := by
  obtain ⟨rfl | rfl, hx, hu⟩ := h
  · exact ⟨.slice none 0 0, false, rfl, (fun h => nomatch h), hx, hu⟩
  · exact ⟨_, true, rfl, (fun _ => rfl), hx, hu⟩
/-- The block, the header's variable and what it tells. -/
structure PT (w W : World) (g : Nat) (h : M.Hdr) (pv : Value) : Prop where
  b : B512 W g
  low : w.heap.size < g
  box : HB W w.heap.size h pv
  hin : HIn W h pv
  below : Below w.heap.size w W
theorem PT.later {w W W' : World} {g : Nat} {h : M.Hdr} {pv : Value} (p : PT w W g h pv) (hi : HIn w h pv) (hb : Below W.heap.size W W') : PT w W' g h pv :=
  ⟨p.b.below hb p.b.lt, p.low, HB.below p.box hb (HB.lt p.box), p.hin.box hb, p.below.trans (hb.mono p.below.size)⟩
theorem PT.but {w W W' : World} {g : Nat} {h : M.Hdr} {pv : Value} (p : PT w W g h pv) (hi : HIn w h pv) (hx : B512 W' g) (hu : But g W W') : PT w W' g h pv :=
  have hb : Below w.heap.size w W' := p.below.trans (hu.below p.below.size (Nat.le_of_lt p.low))
  ⟨hx, p.low, HB.of_block p.box (hu.block _ (HB.lt p.box) (Nat.ne_of_lt p.low)), hi.box hb, hb⟩


end Go.Proofs.YtgfihdfncddpaaaGreatDoor.Hd

/-! The document's Print, byte by byte. -/
namespace Go.Proofs.YtgfihdfncddpaaaGreatDoor.Hd
open Go.RowKit Go.Lib
attribute [local go_sem ↓] run_make512
/-- What the document's Print answers. -/
def PrintX (h : M.Hdr) (w : World) (e : Ending) (w' : World) : Prop :=
  (match M.dprint h with
    | none => ∃ n : Int, n ≠ 0 ∧ e = .returned (.tuple #[.slice none 0 0, .int .i64 n])
    | some zs => ∃ g, e = .returned (.tuple #[.slice (some ⟨g, 0, none⟩) 512 512, .int .i64 0]) ∧ w.heap.size ≤ g ∧ BX w' g zs) ∧ Below w.heap.size w w'
theorem PrintX.no {h : M.Hdr} {w w' : World} {n : Int} (e : M.dprint h = none) (hn : n ≠ 0) (hb : Below w.heap.size w w') : PrintX h w (.returned (.tuple #[.slice none 0 0, .int .i64 n])) w' := by
  unfold PrintX
  rw [e]
  exact ⟨⟨n, hn, rfl⟩, hb⟩
theorem PrintX.yes {h : M.Hdr} {w w' : World} {g : Nat} {zs : List Int} (e : M.dprint h = some zs) (hg : w.heap.size ≤ g) (hx : BX w' g zs) (hb : Below w.heap.size w w') : PrintX h w (.returned (.tuple #[.slice (some ⟨g, 0, none⟩) 512 512, .int .i64 0])) w' := by
  unfold PrintX
  rw [e]
  exact ⟨⟨g, rfl, hg, hx⟩, hb⟩
theorem PrintX.one {h : M.Hdr} {w w' : World} {e : Ending} (hp : PrintX h w e w') : ∃ v n, e = .returned (.tuple #[v, .int .i64 n]) ∧ (n = 0 → ∃ g zs, v = .slice (some ⟨g, 0, none⟩) 512 512 ∧ w.heap.size ≤ g ∧ BX w' g zs ∧ M.hprint h = (0, zs)) ∧ (n ≠ 0 → (M.hprint h).1 ≠ 0) ∧ Below w.heap.size w w' := by
  obtain ⟨h1, hb⟩ := hp
  cases hd : M.dprint h with
  | none =>
    rw [hd] at h1
    obtain ⟨n, hn, rfl⟩ := h1
    exact ⟨_, n, rfl, fun e => absurd e hn, fun _ => M.dprint_none hd, hb⟩
  | some zs =>
    rw [hd] at h1
    obtain ⟨g, rfl, hg, hx⟩ := h1
    exact ⟨_, 0, rfl, fun _ => ⟨g, zs, rfl, hg, hx, M.of_dprint hd⟩, fun e => absurd rfl e, hb⟩
theorem LaidX.one {g : Nat} {o : Option (List Int)} {w w' : World} {e : Ending} (h : LaidX g o w e w') : ∃ v b, e = .returned (.tuple #[v, .bool b]) ∧ (b = true → v = .slice (some ⟨g, 0, none⟩) 512 512 ∧ ∃ zs, o = some zs ∧ BX w' g zs) ∧ (b = false → o = none) ∧ But g w w' := by
  obtain ⟨h1, hu⟩ := h
  cases o with
  | none => exact ⟨_, false, h1, (fun h => nomatch h), (fun _ => rfl), hu⟩
  | some zs => exact ⟨_, true, h1.1, (fun _ => ⟨rfl, zs, rfl, h1.2⟩), (fun h => nomatch h), hu⟩
/-- The header's variable and what it tells. -/
structure PB (w W : World) (g : Nat) (h : M.Hdr) (pv : Value) : Prop where
  low : w.heap.size < g
  box : HB W w.heap.size h pv
  hin : HIn W h pv
  below : Below w.heap.size w W
/-- The block with its bytes, too. -/
structure PX (w W : World) (g : Nat) (h : M.Hdr) (pv : Value) (zs : List Int) : Prop where
  b : BX W g zs
  low : w.heap.size < g
  box : HB W w.heap.size h pv
  hin : HIn W h pv
  below : Below w.heap.size w W
theorem PB.with_ {w W : World} {g : Nat} {h : M.Hdr} {pv : Value} {zs : List Int} (p : PB w W g h pv) (hb : BX W g zs) : PX w W g h pv zs := ⟨hb, p.low, p.box, p.hin, p.below⟩
theorem PX.later {w W W' : World} {g : Nat} {h : M.Hdr} {pv : Value} {zs : List Int} (p : PX w W g h pv zs) (hi : HIn w h pv) (hb : Below W.heap.size W W') : PX w W' g h pv zs :=
  ⟨p.b.below hb p.b.lt, p.low, HB.below p.box hb (HB.lt p.box), p.hin.box hb, p.below.trans (hb.mono p.below.size)⟩
theorem PX.bare {w W W' : World} {g : Nat} {h : M.Hdr} {pv : Value} {zs : List Int} (p : PX w W g h pv zs) (hi : HIn w h pv) (hu : But g W W') : PB w W' g h pv :=
  have hb : Below w.heap.size w W' := p.below.trans (hu.below p.below.size (Nat.le_of_lt p.low))
  ⟨p.low, HB.of_block p.box (hu.block _ (HB.lt p.box) (Nat.ne_of_lt p.low)), hi.box hb, hb⟩
theorem PX.but {w W W' : World} {g : Nat} {h : M.Hdr} {pv : Value} {zs zs' : List Int} (p : PX w W g h pv zs) (hi : HIn w h pv) (hx : BX W' g zs') (hu : But g W W') : PX w W' g h pv zs' := (p.bare hi hu).with_ hx
theorem conv_bytesX (w : World) (s : ByteArray) : ∃ c w', Sem.run Tryz.prog (convert 9 22 (.string s)) w = .ok (.slice (some ⟨w.heap.size, 0, none⟩) s.size c) w' ∧ Below w.heap.size w w' ∧ Rd w' w'.heap.size (some ⟨w.heap.size, 0, none⟩) s.size (S.ints s.data.toList) := by
  refine ⟨_, _, run_bytes_of_string w _ _ 5 s Tryz.underlying9 Tryz.underlying22 Tryz.underlying5, (below_drwR (Below.refl _ _)).alloc (Nat.le_refl _) _, by rw [S.ints_length]; rfl, S.ints_bd _, fun _ => ⟨w.heap.size, 0, rfl, by rw [World.size_alloc]; exact Nat.lt_succ_self _, fun j z hj => ?_⟩⟩
  have hb := fun fr => heap_alloc_new w.drew (.cells (bytesRow s (grownCap w s.size 0 5)) 5 fr)
  obtain ⟨hl', hz⟩ := List.getElem?_eq_some_iff.1 hj
  have hl : j < s.data.size := by rw [S.ints_length] at hl'; exact hl'
  rw [show (w.heap.size : Nat) = w.drew.heap.size from rfl, cell_of_row _ _ _ _ _ _ (hb _), Nat.zero_add]
  unfold bytesRow
  rw [Array.getElem?_append_left (by simpa using hl), Array.getElem?_map, Array.getElem?_eq_getElem hl]
  have hj' : (s.data.toList.map fun b => (b.toNat : Int))[j]? = some z := hj
  have hl2 : j < s.data.toList.length := hl
  rw [List.getElem?_map, List.getElem?_eq_getElem hl2] at hj'
  have hz2 := Option.some.inj hj'
  rw [← hz2]
  rfl
theorem mgs_ints {k : Nat} (h : k < 3) : S.ints (mgs k).data.toList = M.magic k := by
  have h3 : k = 0 ∨ k = 1 ∨ k = 2 := by omega
  rcases h3 with rfl | rfl | rfl <;> rfl
theorem seal_bx {w : World} {g : Nat} {zs : List Int} (hb : BX w g zs) : Calls Tryz.prog 38 #[.slice (some ⟨g, 0, none⟩) 512 512] w fun e w' => ∃ g', e = .returned (.slice (some ⟨g', 0, none⟩) 512 512) ∧ w.heap.size ≤ g' ∧ BX w' g' (M.sld zs) ∧ Below w.heap.size w w' := by
  have hr := hb.rd (B := w.heap.size) hb.lt
  refine (refSeal_any _ 512 512 zs w _ hr (Nat.le_refl _) (by decide)).mono ?_
  rintro e w' ⟨g', rfl, hg, ha', hb'⟩
  exact ⟨g', rfl, hg, ⟨M.sld_len _, M.sld_bd hb.bd, ha'⟩, hb'⟩

set_option maxRecDepth 100000 in
set_option maxHeartbeats 4000000 in
theorem refPrintX_any (h : M.Hdr) (A : Option Addr) (c : Nat) (w : World) (hi : HIn w h (.slice A h.parts.length c)) (hfew : h.parts.length ≤ 1000) (hway : 0 ≤ h.way ∧ h.way ≤ 2) :
    Calls Tryz.prog 9 #[.agg (hcells h (.slice A h.parts.length c))] w (PrintX h w) := by
  have bA : Below w.heap.size w (w.alloc (.cells (hcells h (.slice A h.parts.length c)) 31)) := (Below.refl _ _).alloc (Nat.le_refl _) _
  have BA := hid bA
  have HI := hid hi
  have HFew := hid hfew
  have HWay := hid hway
  have HBx := hid (HB.new w h (.slice A h.parts.length c))
  clear hi hfew hway bA
  have HDP := hid (rfl : M.dprint h = M.dprint h)
  generalize hn : h.parts.length = n at *
  have HN := hid hn
  clear hn
  have k6 := HB.cell HBx.out (i := 6) (v := .int .u8 h.kind) rfl
  have k8 := HB.cell HBx.out (i := 8) (v := .int .i64 h.way) rfl
  go_enter Tryz.func9, Tryz.ntmps9
  go_upto_region 1 with fail
  have HLd := hid (fun V (hV : Below (w.heap.size + 1) (w.alloc (.cells (hcells h (.slice A n c)) 31)) V) => HB.all (HB.below HBx.out hV (Nat.lt_succ_self _)))
  generalize World.alloc w _ = W at *
  have HSz := hid (HB.lt HBx.out)
  go_cut [21] from 8 to 20 (fun v wx => v = .bool (!(M.known h.kind && M.may h.kind h.way)) ∧ W = wx)
  case first =>
    go_wp2_with fail
    (with_reducible refine (refKnown_any h.kind W).mono ?_)
    rintro e w1 ⟨rfl, rfl⟩
    cases hkn : M.known h.kind
    all_goals
      go_wp2_with fail
      all_goals
        go_meet
        case rel =>
          refine ⟨congrArg Value.bool ?_, rfl⟩
          unfold M.may
          try rw [hkn]
          try simp [*]
          try rfl
  case rest =>
    clear k6 k8
    obtain ⟨rfl, rfl⟩ := hcut
    cases hk1 : (M.known h.kind && M.may h.kind h.way) with
    | false =>
      have HE := hid (show M.dprint h = none by unfold M.dprint; rw [hk1, if_neg Bool.false_ne_true])
      clear hk1
      rw [show (!false) = true from rfl]
      go_wp2
      go_ret2
      exact PrintX.no HE.out (by decide) BA.out
    | true =>
      have HK1 := hid hk1
      clear hk1
      rw [show (!true) = false from rfl]
      go_wp2_with fail
      refine wp_region_held_drew (S := fun V => Below (w.heap.size + 1) W V) (by kernel_rfl) (below_drwR (Below.refl _ _)) (fun hS => ?_)
      refine takeH (i := 1) (v := ?_) 24 rfl rfl (by kernel_rfl) (by kernel_rfl) (by kernel_rfl) (fun _ _ _ h => h) (by rfl) ?hy1 hS ?rest1
      case hy1 => (intro W hW; have f0 := HLd.out W hW; clear hW; go_simp; first | done | with_reducible rfl)
      try simp only [Act.put, List.setIfInBounds_toArray, List.set_cons_zero, List.set_cons_succ]
      refine loneH (i := 0) 23 rfl rfl (by kernel_rfl) (by rfl) (fun K hK => ?_)
      go_simp
      refine hK.out _ _ (hS.alloc (Nat.le_trans HSz.out hS.size) _) (fun hS => ?_)
      clear hK K
      try simp only [Act.put, List.setIfInBounds_toArray, List.set_cons_zero, List.set_cons_succ]
      generalize hSV : (World.alloc W (.cells (bcells (nils 512)).toArray 5)).drew = V at *
      have P0 : Hid (PX w V W.heap.size h (.slice A n c) (nils 512)) := hid (by
        subst hSV
        exact ⟨(BX.new W).drew, HSz.out, HB.below HBx.out hS (Nat.lt_succ_self _), HI.out.box (BA.out.trans (hS.mono (Nat.le_succ _))), BA.out.trans (hS.mono (Nat.le_succ _))⟩)
      clear hSV
      refine loneH (i := 2) 25 rfl rfl (by kernel_rfl) (by rfl) (fun K hK => ?_)
      go_simp
      refine (show Calls Tryz.prog 33 _ V (LaidX W.heap.size (M.dt (nils 512) (M.tq h)) V) from refTextsX_any W.heap.size (nils 512) h A n c V P0.out.b HI.out.texts).mono ?_
      intro e w1 ht
      obtain ⟨v, b, rfl, hv, hno, hu1⟩ := ht.one
      have P1 := hid (P0.out.bare HI.out hu1)
      have HNO := hid hno
      have HU1 := hid hu1
      have HV1 := hid hv
      clear ht hv hno hu1
      refine hK.out _ _ (hS.trans (HU1.out.below (Nat.le_trans HSz.out hS.size) HSz.out)) (fun hS => ?_)
      clear hK K
      try simp only [Act.put, List.setIfInBounds_toArray, List.set_cons_zero, List.set_cons_succ]
      refine takeH (i := 3) (v := ?_) 22 rfl rfl (by kernel_rfl) (by kernel_rfl) (by kernel_rfl) (fun _ _ _ h => h) (by rfl) ?hy3 hS ?rest3
      case hy3 => (intro W hW; clear hW; go_simp; first | done | with_reducible rfl)
      try simp only [Act.put, List.setIfInBounds_toArray, List.set_cons_zero, List.set_cons_succ]
      refine takeH (i := 4) (v := ?_) 26 rfl rfl (by kernel_rfl) (by kernel_rfl) (by kernel_rfl) (fun _ _ _ h => h) (by rfl) ?hy4 hS ?rest4
      case hy4 => (intro W hW; clear hW; go_simp; first | done | with_reducible rfl)
      try simp only [Act.put, List.setIfInBounds_toArray, List.set_cons_zero, List.set_cons_succ]
      refine takeH (i := 5) (v := ?_) 27 rfl rfl (by kernel_rfl) (by kernel_rfl) (by kernel_rfl) (fun _ _ _ h => h) (by rfl) ?hy5 hS ?rest5
      case hy5 => (intro W hW; clear hW; go_simp; first | done | with_reducible rfl)
      try simp only [Act.put, List.setIfInBounds_toArray, List.set_cons_zero, List.set_cons_succ]
      refine takeH (i := 6) (v := ?_) 4 rfl rfl (by kernel_rfl) (by kernel_rfl) (by kernel_rfl) (fun _ _ _ h => h) (by rfl) ?hy6 hS ?rest6
      case hy6 => (intro W hW; clear hW; go_simp; first | done | with_reducible rfl)
      try simp only [Act.put, List.setIfInBounds_toArray, List.set_cons_zero, List.set_cons_succ]
      refine takeH (i := 7) (v := ?_) 5 rfl rfl (by kernel_rfl) (by kernel_rfl) (by kernel_rfl) (fun _ _ _ h => h) (by rfl) ?hy7 hS ?rest7
      case hy7 => (intro W hW; clear hW; go_simp; first | done | with_reducible rfl)
      try simp only [Act.put, List.setIfInBounds_toArray, List.set_cons_zero, List.set_cons_succ]
      refine wpAnyH_done (by kernel_rfl) ?_ _
      try simp only [Act.put, List.setIfInBounds_toArray, List.set_cons_zero, List.set_cons_succ]
      clear hS P0 HU1 HLd
      cases b with
      | false =>
        have HE := hid (show M.dprint h = none by unfold M.dprint; rw [HK1.out, if_pos rfl, HNO.out rfl]; rfl)
        go_wp2
        go_ret2
        exact PrintX.no HE.out (by decide) P1.out.below
      | true =>
        obtain ⟨rfl, zt, hzt, hbt⟩ := HV1.out rfl
        clear HV1 HNO
        have HZT := hid hzt
        have P1 := hid (P1.out.with_ hbt)
        clear hzt hbt
        generalize W.heap.size = g at *
        have HB1 := hid P1.out.box
        go_wp2_with (refine wpList_load_row rfl 31 (.tmp 1) rfl w.heap.size (by rfl) 31 (hcells h (.slice A n c)) (0, 0) _ HB1.out Tryz.underlying31 rfl hdr_size ?_)
        have HFt := hid (refFitsX_any h A c w1 (by rw [HN.out]; exact P1.out.hin) (by rw [HN.out]; exact HFew.out))
        rw [HN.out] at HFt
        refine HFt.out.mono ?_
        rintro e w2 ⟨rfl, bl2⟩
        have P2 := hid (P1.out.later HI.out bl2)
        clear P1 HB1 HFt bl2
        cases hft : M.fits h with
        | false =>
          have HE := hid (show M.dprint h = none by unfold M.dprint; rw [HK1.out, if_pos rfl, HZT.out, Option.bind_some, hft, if_neg Bool.false_ne_true])
          clear hft
          go_wp2_with fail
          go_ret2
          exact PrintX.no HE.out (by decide) P2.out.below
        | true =>
          have HFT := hid hft
          have H4 := hid (show n ≤ 4 by have := (M.f1_iff.1 (M.fits_iff.1 hft).1).2.2.2.2; rw [HN.out] at this; exact this)
          clear hft
          have HB2 := hid P2.out.box
          go_wp2_with (refine wpList_load_row rfl 31 (.tmp 1) rfl w.heap.size (by rfl) 31 (hcells h (.slice A n c)) (0, 0) _ HB2.out Tryz.underlying31 rfl hdr_size ?_)
          have HNb := hid (refNumbersX_any g zt h A c w2 P2.out.b (by rw [HN.out]; exact P2.out.hin) (by rw [HN.out]; exact H4.out))
          rw [HN.out] at HNb
          refine HNb.out.mono ?_
          intro e w3 ht
          obtain ⟨v3, b3, rfl, hv3, hno3, hu3⟩ := ht.one
          have P3 := hid (P2.out.bare HI.out hu3)
          clear ht hu3 P2 HB2 HNb
          cases b3 with
          | false =>
            have HE := hid (show M.dprint h = none by unfold M.dprint; rw [HK1.out, if_pos rfl, HZT.out, Option.bind_some, HFT.out, if_pos rfl, hno3 rfl]; rfl)
            clear hno3
            go_wp2_with fail
            go_ret2
            exact PrintX.no HE.out (by decide) P3.out.below
          | true =>
            obtain ⟨rfl, zn, hzn, hbn⟩ := hv3 rfl
            have HE := hid (show M.dprint h = some (M.sld (if h.more = true then (splice (zn.set 156 h.kind) 257 (M.magic h.way.toNat)).set 482 1 else splice (zn.set 156 h.kind) 257 (M.magic h.way.toNat))) by
              unfold M.dprint
              rw [HK1.out, if_pos rfl, HZT.out, Option.bind_some, HFT.out, if_pos rfl, hzn]
              rfl)
            have P3 := hid (P3.out.with_ hbn)
            clear hv3 hzn hbn hno3
            have k6 := HB.cell P3.out.box (i := 6) (v := .int .u8 h.kind) rfl
            obtain ⟨z, c156, f156⟩ := P3.out.b.at_ (i := 156) (by decide)
            go_upto_region 12 with fail
            have P4 := hid (P3.out.but HI.out (P3.out.b.set 156 HI.out.kind) (But.set g w3 156 (.int .u8 h.kind)))
            generalize w3.setCell _ _ = w4 at *
            clear k6 c156 f156 P3
            obtain ⟨wn, hwn⟩ : ∃ wn : Nat, (wn : Int) = h.way := ⟨h.way.toNat, by have := HWay.out.1; omega⟩
            have HW3 := hid (show wn < 3 by have := HWay.out.2; omega)
            have HWN := hid (show h.way.toNat = wn by omega)
            have k8 : w4.cell? ⟨w.heap.size, 8, none⟩ = some (.int .i64 (wn : Int)) := by rw [hwn]; exact HB.cell P4.out.box (i := 8) rfl
            clear hwn
            go_wp2_with fail
            (with_reducible refine (magic_any wn HW3.out w4).mono ?_)
            rintro e w5 ⟨rfl, b5⟩
            have P5 := hid (P4.out.later HI.out b5)
            clear P4 k8 b5
            have hsz := mgs_size HW3.out
            have HMG := hid (mgs_ints HW3.out)
            generalize mgs wn = mt at *
            obtain ⟨cc, w6, hcv, b6, hr6⟩ := conv_bytesX w5 mt
            rw [hsz] at hcv hr6
            have HR6 := hid hr6
            have P6 := hid (P5.out.later HI.out b6)
            have HL7 := hid (show Calls Tryz.prog 36 #[.slice (some ⟨g, 0, none⟩) 512 512, .int .i64 257, .slice (some ⟨w5.heap.size, 0, none⟩) 8 cc] w6 (fun e w' => e = .returned (.slice (some ⟨g, 0, none⟩) 512 512) ∧ BX w' g (splice (zn.set 156 h.kind) 257 (M.magic wn)) ∧ But g w6 w') from HMG.out ▸ layX_any g 257 _ 8 cc _ _ w6 P6.out.b HR6.out (fun b off e => by injection e with e; injection e with e; exact e ▸ Nat.ne_of_gt P5.out.b.lt) (by decide))
            clear hsz hr6 b6
            go_wp2_with fail
            clear hcv
            (with_reducible refine HL7.out.mono ?_)
            rintro e w7 ⟨rfl, hx7, hu7⟩
            have P7 := hid (P6.out.but HI.out hx7 hu7)
            clear hx7 hu7 P6 P5 HR6
            have k15 := HB.cell P7.out.box (i := 15) (v := .bool h.more) rfl
            generalize h.more = bm at k15 HE
            rw [HWN.out] at HE
            obtain ⟨z, c482, f482⟩ := P7.out.b.at_ (i := 482) (by decide)
            have P8 := hid (P7.out.but HI.out (P7.out.b.set 482 (v := 1) (by decide)) (But.set g w7 482 (.int .u8 1)))
            cases bm with
            | false =>
              clear P8
              have HSl := hid (seal_bx P7.out.b)
              go_wp2_with fail
              (with_reducible refine HSl.out.mono ?_)
              rintro e w9 ⟨g9, rfl, hg9, hb9, b9⟩
              clear c482 f482 k15
              go_wp2_with fail
              go_ret2
              exact PrintX.yes (by rw [HE.out, if_neg Bool.false_ne_true]) (Nat.le_trans P7.out.below.size hg9) hb9 (P7.out.below.trans (b9.mono P7.out.below.size))
            | true =>
              go_upto_region 15 with fail
              generalize w7.setCell _ _ = w8 at *
              have HSl := hid (seal_bx P8.out.b)
              go_wp2_with fail
              (with_reducible refine HSl.out.mono ?_)
              rintro e w9 ⟨g9, rfl, hg9, hb9, b9⟩
              clear c482 f482 k15
              go_wp2_with fail
              go_ret2
              exact PrintX.yes (by rw [HE.out, if_pos (by trivial)]) (Nat.le_trans P8.out.below.size hg9) hb9 (P8.out.below.trans (b9.mono P8.out.below.size))
end Go.Proofs.YtgfihdfncddpaaaGreatDoor.Hd
