/-
  Texts of one chapter, merged.
-/
import Derived.Test.YtcedcfagfklohaaKhNumZ
import Derived.Test.YtcedcfagfklohaaKhHUtfRef
import Derived.Laws.BytesString
import Derived.Laws.IdiomStrings
import Derived.Laws.MakeOwn
import Derived.Deep.OwnRows
import Derived.Deep.WholeRow
import Derived.Lib.BufferWrite
import Derived.Lib.SlBytesConst
import Derived.Lib.Bytes
import Derived.LoopTactic
set_option linter.unusedVariables false
set_option linter.unusedSimpArgs false
namespace Go.Proofs.Ytcedcfagfklohaa.Hd.S
open Go.RowKit Go.Shelf

/-- Bytes as numbers. -/
def ints (l : List UInt8) : List Int := l.map fun b => (b.toNat : Int)
theorem ints_length (l : List UInt8) : (ints l).length = l.length := by simp [ints]
theorem ints_bd (l : List UInt8) : ∀ z ∈ ints l, 0 ≤ z ∧ z ≤ 255 := by
  intro z hz
  obtain ⟨b, _, rfl⟩ := List.mem_map.1 hz
  have := UInt8.toNat_lt b
  omega
theorem ints_take (l : List UInt8) (k : Nat) : (ints l).take k = ints (l.take k) := by simp [ints, List.map_take]
theorem ints_drop (l : List UInt8) (k : Nat) : (ints l).drop k = ints (l.drop k) := by simp [ints, List.map_drop]
theorem ints_at {l : List UInt8} {k : Nat} (h : k < l.length) : (ints l)[k]? = some ((l[k]).toNat : Int) := by simp [ints, h]

/-- The text of bytes. -/
def strOf (zs : List Int) : ByteArray := zs.foldl (fun r n => r.push (UInt8.ofNat n.toNat)) ByteArray.empty

theorem strOf_ints (l : List UInt8) : strOf (ints l) = ⟨l.toArray⟩ := by
  have key : ∀ (l : List UInt8) (r : ByteArray), (ints l).foldl (fun r n => r.push (UInt8.ofNat n.toNat)) r = ⟨(r.data.toList ++ l).toArray⟩ := by
    intro l
    induction l with
    | nil => intro r; simp [ints]
    | cons c l ih =>
      intro r
      have e : ints (c :: l) = (c.toNat : Int) :: ints l := rfl
      rw [e, List.foldl_cons, ih]
      simp [ByteArray.push]
  unfold strOf
  rw [key]
  rfl

theorem run_str {w : World} {B n : Nat} {A : Option Addr} {zs : List Int} (h : Rd w B A n zs) (c : Nat) :
    (convert 22 9 (.slice A n c)).run Try.prog w = .ok (.string (strOf zs)) w := by
  rw [run_convert_bytes_string w 22 9 5 A n c Try.underlying22 Try.underlying5 Try.underlying9]
  have hlen := h.len
  cases A with
  | none =>
    have h0 : n = 0 := by
      rcases Nat.eq_zero_or_pos n with h0 | h0
      · exact h0
      · obtain ⟨b, off, e, _⟩ := h.2.2 h0
        cases e
    subst h0
    have hz : zs = [] := List.eq_nil_of_length_eq_zero hlen
    subst hz
    simp [Conv.bytesToString, strOf]
  | some a =>
    subst hlen
    have hl := run_loadCells_list (P := Try.prog) w a (zs.map (Value.int .u8)) (fun j v hj => by
      rw [List.getElem?_map] at hj
      cases hz : zs[j]? with
      | none => rw [hz] at hj; cases hj
      | some z =>
        rw [hz] at hj
        injection hj with hj
        subst hj
        have hlt : j < zs.length := (List.getElem?_eq_some_iff.1 hz).1
        obtain ⟨b, off, e, _, hc⟩ := h.2.2 (by omega)
        injection e with e
        subst e
        have hcj := hc j z hz
        unfold Addr.add
        split
        · rename_i h0
          subst h0
          exact hcj
        · exact hcj)
    simp only [List.length_map] at hl
    exact run_bytesToString w a zs.length c zs hl

theorem run_text {w : World} {B n : Nat} {A : Option Addr} {l : List UInt8} (h : Rd w B A n (ints l)) (c : Nat) :
    (convert 22 9 (.slice A n c)).run Try.prog w = .ok (.string ⟨l.toArray⟩) w := by rw [run_str h, strOf_ints]

/-- A new block of bytes. -/
theorem Rd.new (w : World) (t : TypeId) (l : List UInt8) : Rd (w.alloc (.cells (Lib.byteCells l).toArray t)) (w.heap.size + 1) (some ⟨w.heap.size, 0, none⟩) l.length (ints l) := by
  refine ⟨ints_length l, ints_bd l, fun _ => ⟨_, 0, rfl, Nat.lt_succ_self _, fun j z hj => ?_⟩⟩
  have hb : (w.alloc (.cells (Lib.byteCells l).toArray t)).heap[w.heap.size]? = some (.cells (Lib.byteCells l).toArray t (0, 0)) := heap_alloc_new w _
  rw [cell_of_row _ _ _ _ _ _ hb, Nat.zero_add]
  unfold ints at hj
  rw [List.getElem?_map] at hj
  cases hx : l[j]? with
  | none => rw [hx] at hj; cases hj
  | some x =>
    rw [hx] at hj
    injection hj with hj
    subst hj
    simp [Lib.byteCells, hx]

namespace M
/-- A text so wide. -/
def put (l : List UInt8) (n : Int) : Option (List UInt8) := if (l.length : Int) ≤ n ∧ ¬ (0 : UInt8) ∈ l then some (l ++ List.replicate (n.toNat - l.length) 0) else none
/-- Up to a nought. -/
def cut : List UInt8 → List UInt8
  | [] => []
  | c :: l => if c = 0 then [] else c :: cut l
theorem zcut_none {l : List UInt8} (h : ¬ (0 : UInt8) ∈ l) : cut l = l := by
  induction l with
  | nil => rfl
  | cons c l ih =>
    rw [List.mem_cons, not_or] at h
    rw [cut, if_neg (fun e => h.1 e.symm), ih h.2]
theorem zcut_some {l : List UInt8} {k : Nat} (hk : k < l.length) (h : ¬ (0 : UInt8) ∈ l.take k) (h0 : l[k] = 0) : cut l = l.take k := by
  induction l generalizing k with
  | nil => simp at hk
  | cons c l ih =>
    cases k with
    | zero =>
      simp at h0
      simp [cut, h0]
    | succ k =>
      rw [List.take_succ_cons, List.mem_cons, not_or] at h
      simp at h0 hk
      rw [cut, if_neg (fun e => h.1 e.symm), List.take_succ_cons, ih hk h.2 h0]
theorem cut_append {l : List UInt8} (h : ¬ (0 : UInt8) ∈ l) (n : Nat) : cut (l ++ List.replicate n 0) = l := by
  induction l with
  | nil => cases n <;> simp [cut, List.replicate_succ]
  | cons c l ih =>
    rw [List.mem_cons, not_or] at h
    rw [List.cons_append, cut, if_neg (fun e => h.1 e.symm), ih h.2]
theorem cut_eq {l : List UInt8} : cut l = l ↔ ¬ (0 : UInt8) ∈ l := by
  refine ⟨fun h => ?_, zcut_none⟩
  induction l with
  | nil => simp
  | cons c l ih =>
    rw [cut] at h
    split at h
    · cases h
    · rename_i hc
      injection h with _ h
      rw [List.mem_cons, not_or]
      exact ⟨fun e => hc e.symm, ih h⟩
end M

/-- What Put answers: the bytes, or nil, and whether there are some. -/
def PutIs (w : World) (r : Option (List UInt8)) (e : Ending) (w' : World) : Prop :=
  ∃ A n c, e = .returned (.tuple #[.slice A n c, .bool r.isSome]) ∧ n ≤ c ∧ c ≤ 100000 ∧ Rd w' w'.heap.size A n (ints (r.getD [])) ∧ Below w.heap.size w w' ∧ (A = none → c = 0)
theorem PutIs.no {w w' : World} (h : Below w.heap.size w w') : PutIs w none (.returned (.tuple #[.slice none 0 0, .bool false])) w' :=
  ⟨none, 0, 0, rfl, Nat.le_refl _, by omega, Rd.none_, h, fun _ => rfl⟩

theorem u8_info : (Try.prog.info? 5).map (fun i => (i.zero, i.size, i.bytes)) = some (some (.int .u8 0), 1, 1) := by kernel_rfl
theorem u8_size : (Try.prog.info? 5).map (·.size) = some 1 := by kernel_rfl

theorem indexByte_zero : ∀ (l : List UInt8), (0 : UInt8) ∈ l ↔ 0 ≤ Lib.indexByte l 0
  | [] => by simp [Lib.indexByte]
  | b :: l => by
    have ih := indexByte_zero l
    have hge := (M.indexByte_ge l 0).1
    have e : Lib.indexByte (b :: l) 0 = if b == 0 then 0 else if Lib.indexByte l 0 == -1 then -1 else Lib.indexByte l 0 + 1 := rfl
    rw [List.mem_cons, ih, e]
    clear e
    by_cases hb : b = 0
    · simp [hb]
    · have h1 : (b == 0) = false := by simpa using hb
      rw [h1]
      simp only [Bool.false_eq_true, if_false]
      have h2 : ¬ (0 : UInt8) = b := fun e => hb e.symm
      by_cases h3 : Lib.indexByte l 0 = -1
      · rw [h3]; simp [h2]
      · have h4 : (Lib.indexByte l 0 == -1) = false := by simpa using h3
        rw [h4]
        simp only [Bool.false_eq_true, if_false]
        constructor
        · rintro (e | e)
          · exact absurd e h2
          · omega
        · intro _
          exact .inr (by omega)

theorem put_row (s : ByteArray) (N : Nat) :
    (List.take 0 (madeCells #[Value.int .u8 0] N).toList ++ Lib.byteCells s.data.toList ++ (madeCells #[Value.int .u8 0] N).toList.drop (0 + s.size)).toArray = (Lib.byteCells (s.data.toList ++ List.replicate (N - s.size) 0)).toArray := by
  rw [toList_madeCells_one, List.take_zero, List.nil_append, Nat.zero_add, List.drop_replicate]
  congr 1
  simp [Lib.byteCells]

end Go.Proofs.Ytcedcfagfklohaa.Hd.S

namespace Go.Proofs.Ytcedcfagfklohaa.Hd.S
open Go.RowKit Go.Shelf

theorem zero_mem {l : List UInt8} {k : Nat} (h : k < l.length) : M.at' l k = 0 ↔ l[k] = 0 := by
  unfold M.at'
  rw [List.getD_eq_getElem?_getD, List.getElem?_eq_getElem h, Option.getD_some, ← UInt8.toNat_inj]
  rfl
theorem not_mem_take_succ {l : List UInt8} {k : Nat} (h : k < l.length) (h1 : ¬ (0 : UInt8) ∈ l.take k) (h2 : ¬ M.at' l k = 0) : ¬ (0 : UInt8) ∈ l.take (k + 1) := by
  rw [List.take_succ_eq_append_getElem h, List.mem_append, List.mem_singleton, not_or]
  exact ⟨h1, fun e => h2 ((zero_mem h).2 e.symm)⟩

/-- The row so far: k bytes of the text, noughts behind. -/
def rowTo (l : List UInt8) (k : Nat) (j : Nat) : Int := if j < k then M.at' l j else 0
/-- Block b is a row of N bytes, cell j holding g j. -/
def RowB (w : World) (b N : Nat) (g : Nat → Int) : Prop := w.rowIs b 5 N (fun j => .int .u8 (g j))
section
variable {w w' : World} {b N : Nat} {g h : Nat → Int}
theorem RowB.cell (r : RowB w b N g) {i : Nat} (hi : i < N) : w.cell? ⟨b, i, none⟩ = some (.int .u8 (g i)) := World.rowIs.cell r hi
theorem RowB.frozen (r : RowB w b N g) (i : Nat) : w.frozen? ⟨b, i, none⟩ = false := World.rowIs.frozen r i
theorem RowB.lt (r : RowB w b N g) : b < w.heap.size := World.rowIs.lt r
theorem RowB.to (r : RowB w b N g) (e : ∀ i, i < N → g i = h i) : RowB w b N h := World.rowIs.congr r fun i hi => by rw [e i hi]
theorem RowB.set (r : RowB w b N g) (i : Nat) (v : Int) : RowB (w.setCell ⟨b, i, none⟩ (.int .u8 v)) b N (fun j => if j = i then v else g j) :=
  (World.rowIs.set r i (.int .u8 v)).congr fun j _ => by
    show (if j = i then _ else _) = Value.int .u8 (if j = i then v else g j)
    split <;> rfl
theorem RowB.made (w : World) (N : Nat) : RowB (w.alloc (.cells (madeCells #[.int .u8 0] N) 5)) w.heap.size N (fun _ => 0) := World.rowIs_made w _ N _
end

theorem at_append_replicate (l : List UInt8) (n j : Nat) : (M.at' (l ++ List.replicate n 0) j : Int) = rowTo l l.length j := by
  unfold rowTo M.at'
  rw [List.getD_eq_getElem?_getD, List.getD_eq_getElem?_getD]
  split
  · rename_i h
    rw [List.getElem?_append_left h]
  · rename_i h
    rw [List.getElem?_append_right (by omega), List.getElem?_replicate]
    split <;> rfl

theorem RowB.rd {w : World} {b N : Nat} {l : List UInt8} (r : RowB w b N (fun j => M.at' l j)) (hl : l.length = N) : Rd w w.heap.size (some ⟨b, 0, none⟩) N (ints l) := by
  refine ⟨by rw [ints_length, hl], ints_bd l, fun _ => ⟨b, 0, rfl, r.lt, fun j z hz => ?_⟩⟩
  have hj : j < l.length := by
    have := (List.getElem?_eq_some_iff.1 hz).1
    rwa [ints_length] at this
  rw [ints_at hj] at hz
  injection hz with hz
  subst hz
  have := r.cell (i := j) (by omega)
  rw [Nat.zero_add, this]
  unfold M.at'
  rw [List.getD_eq_getElem?_getD, List.getElem?_eq_getElem hj]
  rfl

theorem below_drewN' {B : Nat} {a w : World} (h : Below B a w) (n : Nat) : Below B a (w.drewN n) := ⟨h.os, h.tape, h.output, h.size, h.block⟩

theorem take_cut {l : List UInt8} (h : 0 ≤ Lib.indexByte l 0) : M.cut l = l.take (Lib.indexByte l 0).toNat := by
  induction l with
  | nil => simp [Lib.indexByte] at h
  | cons c l ih =>
    have e : Lib.indexByte (c :: l) 0 = if c == 0 then 0 else if Lib.indexByte l 0 == -1 then -1 else Lib.indexByte l 0 + 1 := rfl
    rw [e] at h ⊢
    rw [M.cut]
    by_cases hc : c = 0
    · subst hc; simp
    · have h1 : (c == 0) = false := by simpa using hc
      rw [h1] at h ⊢
      simp only [Bool.false_eq_true, if_false] at h ⊢
      rw [if_neg hc]
      split at h
      · omega
      · rename_i h2
        rw [if_neg h2]
        have hge := (M.indexByte_ge l 0).1
        have h3 : Lib.indexByte l 0 ≠ -1 := by simpa using h2
        rw [ih (by omega), show (Lib.indexByte l 0 + 1).toNat = (Lib.indexByte l 0).toNat + 1 by omega, List.take_succ_cons]

theorem bytesOf_ints (l : List UInt8) : Lib.bytesOf (ints l) = l := by
  unfold Lib.bytesOf ints
  rw [List.map_map]
  conv => rhs; rw [← List.map_id l]
  refine List.map_congr_left fun b _ => ?_
  simp

end Go.Proofs.Ytcedcfagfklohaa.Hd.S
