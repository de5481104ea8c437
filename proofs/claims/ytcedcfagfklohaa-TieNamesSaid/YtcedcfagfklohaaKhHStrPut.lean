/-
  Bytes in memory as a list of bytes; 'string(b)'; str.Put and the document's.
-/
import Derived.Test.YtcedcfagfklohaaKhNumMem
import Derived.Test.YtcedcfagfklohaaKhHUtfRef
import Derived.Laws.BytesString
import Derived.Laws.IdiomStrings
import Derived.Laws.MakeOwn
import Derived.Deep.OwnRows
import Derived.Deep.WholeRow
import Derived.Lib.BufferWrite
import Derived.Lib.SlBytesConst
set_option linter.unusedVariables false
set_option linter.unusedSimpArgs false
namespace Go.Proofs.Ytcedcfagfklohaa.Hd.S
open Go.RowKit Go.Shelf

/-- Bytes as numbers. -/
def ints (l : List UInt8) : List Int := l.map fun b => (b.toNat : Int)
theorem ints_length (l : List UInt8) : (ints l).length = l.length := by simp [ints]
theorem ints_bd (l : List UInt8) : ∀ z ∈ ints l, 0 ≤ z ∧ z ≤ 255 := by
  intro z hz
  obtain ⟨b, _, rfl⟩ := List.mem_map.1 hz
  have := UInt8.toNat_lt b
  omega
theorem ints_take (l : List UInt8) (k : Nat) : (ints l).take k = ints (l.take k) := by simp [ints, List.map_take]
theorem ints_drop (l : List UInt8) (k : Nat) : (ints l).drop k = ints (l.drop k) := by simp [ints, List.map_drop]
theorem ints_at {l : List UInt8} {k : Nat} (h : k < l.length) : (ints l)[k]? = some ((l[k]).toNat : Int) := by simp [ints, h]

/-- The text of bytes. -/
def strOf (zs : List Int) : ByteArray := zs.foldl (fun r n => r.push (UInt8.ofNat n.toNat)) ByteArray.empty

theorem strOf_ints (l : List UInt8) : strOf (ints l) = ⟨l.toArray⟩ := by
  have key : ∀ (l : List UInt8) (r : ByteArray), (ints l).foldl (fun r n => r.push (UInt8.ofNat n.toNat)) r = ⟨(r.data.toList ++ l).toArray⟩ := by
    intro l
    induction l with
    | nil => intro r; simp [ints]
    | cons c l ih =>
      intro r
      have e : ints (c :: l) = (c.toNat : Int) :: ints l := rfl
      rw [e, List.foldl_cons, ih]
      simp [ByteArray.push]
  unfold strOf
  rw [key]
  rfl

theorem run_str {w : World} {B n : Nat} {A : Option Addr} {zs : List Int} (h : Rd w B A n zs) (c : Nat) :
    (convert 22 9 (.slice A n c)).run Try.prog w = .ok (.string (strOf zs)) w := by
  rw [run_convert_bytes_string w 22 9 5 A n c Try.underlying22 Try.underlying5 Try.underlying9]
  have hlen := h.len
  cases A with
  | none =>
    have h0 : n = 0 := by
      rcases Nat.eq_zero_or_pos n with h0 | h0
      · exact h0
      · obtain ⟨b, off, e, _⟩ := h.2.2 h0
        cases e
    subst h0
    have hz : zs = [] := List.eq_nil_of_length_eq_zero hlen
    subst hz
    simp [Conv.bytesToString, strOf]
  | some a =>
    subst hlen
    have hl := run_loadCells_list (P := Try.prog) w a (zs.map (Value.int .u8)) (fun j v hj => by
      rw [List.getElem?_map] at hj
      cases hz : zs[j]? with
      | none => rw [hz] at hj; cases hj
      | some z =>
        rw [hz] at hj
        injection hj with hj
        subst hj
        have hlt : j < zs.length := (List.getElem?_eq_some_iff.1 hz).1
        obtain ⟨b, off, e, _, hc⟩ := h.2.2 (by omega)
        injection e with e
        subst e
        have hcj := hc j z hz
        unfold Addr.add
        split
        · rename_i h0
          subst h0
          exact hcj
        · exact hcj)
    simp only [List.length_map] at hl
    exact run_bytesToString w a zs.length c zs hl

theorem run_text {w : World} {B n : Nat} {A : Option Addr} {l : List UInt8} (h : Rd w B A n (ints l)) (c : Nat) :
    (convert 22 9 (.slice A n c)).run Try.prog w = .ok (.string ⟨l.toArray⟩) w := by rw [run_str h, strOf_ints]

/-- A new block of bytes. -/
theorem Rd.new (w : World) (t : TypeId) (l : List UInt8) : Rd (w.alloc (.cells (Lib.byteCells l).toArray t)) (w.heap.size + 1) (some ⟨w.heap.size, 0, none⟩) l.length (ints l) := by
  refine ⟨ints_length l, ints_bd l, fun _ => ⟨_, 0, rfl, Nat.lt_succ_self _, fun j z hj => ?_⟩⟩
  have hb : (w.alloc (.cells (Lib.byteCells l).toArray t)).heap[w.heap.size]? = some (.cells (Lib.byteCells l).toArray t (0, 0)) := heap_alloc_new w _
  rw [cell_of_row _ _ _ _ _ _ hb, Nat.zero_add]
  unfold ints at hj
  rw [List.getElem?_map] at hj
  cases hx : l[j]? with
  | none => rw [hx] at hj; cases hj
  | some x =>
    rw [hx] at hj
    injection hj with hj
    subst hj
    simp [Lib.byteCells, hx]

namespace M
/-- A text so wide. -/
def put (l : List UInt8) (n : Int) : Option (List UInt8) := if (l.length : Int) ≤ n ∧ ¬ (0 : UInt8) ∈ l then some (l ++ List.replicate (n.toNat - l.length) 0) else none
/-- Up to a nought. -/
def cut : List UInt8 → List UInt8
  | [] => []
  | c :: l => if c = 0 then [] else c :: cut l
theorem zcut_none {l : List UInt8} (h : ¬ (0 : UInt8) ∈ l) : cut l = l := by
  induction l with
  | nil => rfl
  | cons c l ih =>
    rw [List.mem_cons, not_or] at h
    rw [cut, if_neg (fun e => h.1 e.symm), ih h.2]
theorem zcut_some {l : List UInt8} {k : Nat} (hk : k < l.length) (h : ¬ (0 : UInt8) ∈ l.take k) (h0 : l[k] = 0) : cut l = l.take k := by
  induction l generalizing k with
  | nil => simp at hk
  | cons c l ih =>
    cases k with
    | zero =>
      simp at h0
      simp [cut, h0]
    | succ k =>
      rw [List.take_succ_cons, List.mem_cons, not_or] at h
      simp at h0 hk
      rw [cut, if_neg (fun e => h.1 e.symm), List.take_succ_cons, ih hk h.2 h0]
theorem cut_append {l : List UInt8} (h : ¬ (0 : UInt8) ∈ l) (n : Nat) : cut (l ++ List.replicate n 0) = l := by
  induction l with
  | nil => cases n <;> simp [cut, List.replicate_succ]
  | cons c l ih =>
    rw [List.mem_cons, not_or] at h
    rw [List.cons_append, cut, if_neg (fun e => h.1 e.symm), ih h.2]
theorem cut_eq {l : List UInt8} : cut l = l ↔ ¬ (0 : UInt8) ∈ l := by
  refine ⟨fun h => ?_, zcut_none⟩
  induction l with
  | nil => simp
  | cons c l ih =>
    rw [cut] at h
    split at h
    · cases h
    · rename_i hc
      injection h with _ h
      rw [List.mem_cons, not_or]
      exact ⟨fun e => hc e.symm, ih h⟩
end M

/-- What Put answers: the bytes, or nil, and whether there are some. -/
def PutIs (w : World) (r : Option (List UInt8)) (e : Ending) (w' : World) : Prop :=
  ∃ A n c, e = .returned (.tuple #[.slice A n c, .bool r.isSome]) ∧ n ≤ c ∧ c ≤ 100000 ∧ Rd w' w'.heap.size A n (ints (r.getD [])) ∧ Below w.heap.size w w' ∧ (A = none → c = 0)
theorem PutIs.no {w w' : World} (h : Below w.heap.size w w') : PutIs w none (.returned (.tuple #[.slice none 0 0, .bool false])) w' :=
  ⟨none, 0, 0, rfl, Nat.le_refl _, by omega, Rd.none_, h, fun _ => rfl⟩

theorem u8_info : (Try.prog.info? 5).map (fun i => (i.zero, i.size, i.bytes)) = some (some (.int .u8 0), 1, 1) := by kernel_rfl
theorem u8_size : (Try.prog.info? 5).map (·.size) = some 1 := by kernel_rfl

theorem indexByte_zero : ∀ (l : List UInt8), (0 : UInt8) ∈ l ↔ 0 ≤ Lib.indexByte l 0
  | [] => by simp [Lib.indexByte]
  | b :: l => by
    have ih := indexByte_zero l
    have hge := (M.indexByte_ge l 0).1
    have e : Lib.indexByte (b :: l) 0 = if b == 0 then 0 else if Lib.indexByte l 0 == -1 then -1 else Lib.indexByte l 0 + 1 := rfl
    rw [List.mem_cons, ih, e]
    clear e
    by_cases hb : b = 0
    · simp [hb]
    · have h1 : (b == 0) = false := by simpa using hb
      rw [h1]
      simp only [Bool.false_eq_true, if_false]
      have h2 : ¬ (0 : UInt8) = b := fun e => hb e.symm
      by_cases h3 : Lib.indexByte l 0 = -1
      · rw [h3]; simp [h2]
      · have h4 : (Lib.indexByte l 0 == -1) = false := by simpa using h3
        rw [h4]
        simp only [Bool.false_eq_true, if_false]
        constructor
        · rintro (e | e)
          · exact absurd e h2
          · omega
        · intro _
          exact .inr (by omega)

theorem put_row (s : ByteArray) (N : Nat) :
    (List.take 0 (madeCells #[Value.int .u8 0] N).toList ++ Lib.byteCells s.data.toList ++ (madeCells #[Value.int .u8 0] N).toList.drop (0 + s.size)).toArray = (Lib.byteCells (s.data.toList ++ List.replicate (N - s.size) 0)).toArray := by
  rw [toList_madeCells_one, List.take_zero, List.nil_append, Nat.zero_add, List.drop_replicate]
  congr 1
  simp [Lib.byteCells]

end Go.Proofs.Ytcedcfagfklohaa.Hd.S
