/-
  Texts of one chapter, merged.
-/
import Derived.Test.YtkpnhggpcpjddaaGreatDoorHMa
import Derived.Test.YtkpnhggpcpjddaaGreatDoorShelf
import Derived.Lib.Hide
import Derived.WalkKit
import Derived.IntWalk
import Derived.LoopTactic
import Derived.Laws.BytesString
import Derived.Laws.IdiomStrings
import Derived.Laws.MakeOwn
import Derived.Deep.OwnRows
import Derived.Deep.WholeRow
import Derived.Lib.BufferWrite
import Derived.Lib.SlBytesConst
set_option linter.unusedVariables false
set_option linter.unusedSimpArgs false
/-! The document's Utf8 and Plain: what they answer, in plain words. -/
namespace Go.Proofs.YtkpnhggpcpjddaaGreatDoor.S
open Go.RowKit Go.Shelf

theorem at_eq (s : ByteArray) (k : Nat) (h : k < s.size) : M.at' s.data.toList k = (s[k]'h).toNat := by
  unfold M.at'
  rw [List.getD_eq_getElem?_getD, List.getElem?_eq_getElem (by simpa using h)]
  rfl

theorem len_eq (s : ByteArray) : s.data.toList.length = s.size := rfl



set_option maxHeartbeats 1000000 in
theorem tail_any (s : ByteArray) (k : Nat) (lo hi : Nat) (w : World) :
    Calls Tryz.prog 99 #[.string s, .int .i64 k, .int .u8 lo, .int .u8 hi] w fun e w' => e = .returned (.bool (M.tail s.data.toList k lo hi)) ∧ w = w' := by
  by_cases h1 : k < s.size
  · have hat := at_eq s k h1
    have HA := Lib.hid hat; clear hat
    go_enter Tryz.func99, Tryz.ntmps99
    go_wp2
    all_goals
      go_ret
      exact ⟨ret_bool (by unfold M.tail; rw [len_eq, HA.out]; simp [*]), rfl⟩
  · have hd : decide ((k : Int) < (s.size : Int)) = false := by rw [decide_eq_false_iff_not]; omega
    go_enter Tryz.func99, Tryz.ntmps99
    go_wp2
    go_ret
    exact ⟨ret_bool (by unfold M.tail; rw [len_eq]; simp [h1]), rfl⟩

theorem tail_1_128_191 (s : ByteArray) (w : World) : Calls Tryz.prog 99 #[.string s, .int .i64 1, .int .u8 128, .int .u8 191] w fun e w' => e = .returned (.bool (M.tail s.data.toList 1 128 191)) ∧ w = w' :=
  tail_any s 1 128 191 w
theorem tail_2_128_191 (s : ByteArray) (w : World) : Calls Tryz.prog 99 #[.string s, .int .i64 2, .int .u8 128, .int .u8 191] w fun e w' => e = .returned (.bool (M.tail s.data.toList 2 128 191)) ∧ w = w' :=
  tail_any s 2 128 191 w
theorem tail_3_128_191 (s : ByteArray) (w : World) : Calls Tryz.prog 99 #[.string s, .int .i64 3, .int .u8 128, .int .u8 191] w fun e w' => e = .returned (.bool (M.tail s.data.toList 3 128 191)) ∧ w = w' :=
  tail_any s 3 128 191 w
theorem tail_1_160_191 (s : ByteArray) (w : World) : Calls Tryz.prog 99 #[.string s, .int .i64 1, .int .u8 160, .int .u8 191] w fun e w' => e = .returned (.bool (M.tail s.data.toList 1 160 191)) ∧ w = w' :=
  tail_any s 1 160 191 w
theorem tail_1_128_159 (s : ByteArray) (w : World) : Calls Tryz.prog 99 #[.string s, .int .i64 1, .int .u8 128, .int .u8 159] w fun e w' => e = .returned (.bool (M.tail s.data.toList 1 128 159)) ∧ w = w' :=
  tail_any s 1 128 159 w
theorem tail_1_144_191 (s : ByteArray) (w : World) : Calls Tryz.prog 99 #[.string s, .int .i64 1, .int .u8 144, .int .u8 191] w fun e w' => e = .returned (.bool (M.tail s.data.toList 1 144 191)) ∧ w = w' :=
  tail_any s 1 144 191 w
theorem tail_1_128_143 (s : ByteArray) (w : World) : Calls Tryz.prog 99 #[.string s, .int .i64 1, .int .u8 128, .int .u8 143] w fun e w' => e = .returned (.bool (M.tail s.data.toList 1 128 143)) ∧ w = w' :=
  tail_any s 1 128 143 w

theorem tail_false {l : List UInt8} {k lo hi : Nat} : M.tail l k lo hi = false ↔ ¬ (k < l.length ∧ lo ≤ M.at' l k ∧ M.at' l k ≤ hi) := by
  rw [← M.tail_iff]; cases M.tail l k lo hi <;> decide

theorem ret_nat {a b : Nat} {w w' : World} (h : a = b) (hw : w = w') : Ending.returned (.int .i64 (a : Int)) = .returned (.int .i64 (b : Int)) ∧ w = w' := ⟨by rw [h], hw⟩

set_option maxRecDepth 100000 in
set_option maxHeartbeats 4000000 in
theorem long_any (s : ByteArray) (h0 : 0 < s.size) (w : World) :
    Calls Tryz.prog 79 #[.string s] w fun e w' => e = .returned (.int .i64 (M.long s.data.toList)) ∧ w = w' := by
  have hat := at_eq s 0 h0
  have hb : (s[0]'h0).toNat < 256 := UInt8.toNat_lt _
  have HA := Lib.hid hat; clear hat
  go_enter Tryz.func79, Tryz.ntmps79
  go_wp2_with (first
    | (go_at_call 99; ((with_reducible refine (tail_1_128_191 s _).mono ?_); rintro e w' ⟨rfl, rfl⟩))
    | (go_at_call 99; ((with_reducible refine (tail_2_128_191 s _).mono ?_); rintro e w' ⟨rfl, rfl⟩))
    | (go_at_call 99; ((with_reducible refine (tail_3_128_191 s _).mono ?_); rintro e w' ⟨rfl, rfl⟩))
    | (go_at_call 99; ((with_reducible refine (tail_1_160_191 s _).mono ?_); rintro e w' ⟨rfl, rfl⟩))
    | (go_at_call 99; ((with_reducible refine (tail_1_128_159 s _).mono ?_); rintro e w' ⟨rfl, rfl⟩))
    | (go_at_call 99; ((with_reducible refine (tail_1_144_191 s _).mono ?_); rintro e w' ⟨rfl, rfl⟩))
    | (go_at_call 99; ((with_reducible refine (tail_1_128_143 s _).mono ?_); rintro e w' ⟨rfl, rfl⟩)))
  all_goals
    go_ret
    refine ret_nat (a := _) ?_ rfl
    have h0' := HA.out
    have hk := M.lo_hi (M.at' s.data.toList 0)
    rw [M.long_prop]
    simp only [M.tail_iff, tail_false, beq_iff_eq, beq_eq_false_iff_ne, ne_eq] at *
    clear HA
    repeat' split
    all_goals omega
end Go.Proofs.YtkpnhggpcpjddaaGreatDoor.S

/-! Bytes in memory as a list of bytes; 'string(b)'; str.Put and the document's. -/
namespace Go.Proofs.YtkpnhggpcpjddaaGreatDoor.S
open Go.RowKit Go.Shelf

/-- Bytes as numbers. -/
def ints (l : List UInt8) : List Int := l.map fun b => (b.toNat : Int)
theorem ints_length (l : List UInt8) : (ints l).length = l.length := by simp [ints]
theorem ints_bd (l : List UInt8) : ∀ z ∈ ints l, 0 ≤ z ∧ z ≤ 255 := by
  intro z hz
  obtain ⟨b, _, rfl⟩ := List.mem_map.1 hz
  have := UInt8.toNat_lt b
  omega
theorem ints_take (l : List UInt8) (k : Nat) : (ints l).take k = ints (l.take k) := by simp [ints, List.map_take]
theorem ints_drop (l : List UInt8) (k : Nat) : (ints l).drop k = ints (l.drop k) := by simp [ints, List.map_drop]
theorem ints_at {l : List UInt8} {k : Nat} (h : k < l.length) : (ints l)[k]? = some ((l[k]).toNat : Int) := by simp [ints, h]

/-- The text of bytes. -/
def strOf (zs : List Int) : ByteArray := zs.foldl (fun r n => r.push (UInt8.ofNat n.toNat)) ByteArray.empty

theorem strOf_ints (l : List UInt8) : strOf (ints l) = ⟨l.toArray⟩ := by
  have key : ∀ (l : List UInt8) (r : ByteArray), (ints l).foldl (fun r n => r.push (UInt8.ofNat n.toNat)) r = ⟨(r.data.toList ++ l).toArray⟩ := by
    intro l
    induction l with
    | nil => intro r; simp [ints]
    | cons c l ih =>
      intro r
      have e : ints (c :: l) = (c.toNat : Int) :: ints l := rfl
      rw [e, List.foldl_cons, ih]
      simp [ByteArray.push]
  unfold strOf
  rw [key]
  rfl

theorem run_str {w : World} {B n : Nat} {A : Option Addr} {zs : List Int} (h : Rd w B A n zs) (c : Nat) :
    (convert 22 9 (.slice A n c)).run Tryz.prog w = .ok (.string (strOf zs)) w := by
  rw [run_convert_bytes_string w 22 9 5 A n c Tryz.underlying22 Tryz.underlying5 Tryz.underlying9]
  have hlen := h.len
  cases A with
  | none =>
    have h0 : n = 0 := by
      rcases Nat.eq_zero_or_pos n with h0 | h0
      · exact h0
      · obtain ⟨b, off, e, _⟩ := h.2.2 h0
        cases e
    subst h0
    have hz : zs = [] := List.eq_nil_of_length_eq_zero hlen
    subst hz
    simp [Conv.bytesToString, strOf]
  | some a =>
    subst hlen
    have hl := run_loadCells_list (P := Tryz.prog) w a (zs.map (Value.int .u8)) (fun j v hj => by
      rw [List.getElem?_map] at hj
      cases hz : zs[j]? with
      | none => rw [hz] at hj; cases hj
      | some z =>
        rw [hz] at hj
        injection hj with hj
        subst hj
        have hlt : j < zs.length := (List.getElem?_eq_some_iff.1 hz).1
        obtain ⟨b, off, e, _, hc⟩ := h.2.2 (by omega)
        injection e with e
        subst e
        have hcj := hc j z hz
        unfold Addr.add
        split
        · rename_i h0
          subst h0
          exact hcj
        · exact hcj)
    simp only [List.length_map] at hl
    exact run_bytesToString w a zs.length c zs hl

theorem run_text {w : World} {B n : Nat} {A : Option Addr} {l : List UInt8} (h : Rd w B A n (ints l)) (c : Nat) :
    (convert 22 9 (.slice A n c)).run Tryz.prog w = .ok (.string ⟨l.toArray⟩) w := by rw [run_str h, strOf_ints]

/-- A new block of bytes. -/
theorem Rd.new (w : World) (t : TypeId) (l : List UInt8) : Rd (w.alloc (.cells (Lib.byteCells l).toArray t)) (w.heap.size + 1) (some ⟨w.heap.size, 0, none⟩) l.length (ints l) := by
  refine ⟨ints_length l, ints_bd l, fun _ => ⟨_, 0, rfl, Nat.lt_succ_self _, fun j z hj => ?_⟩⟩
  have hb : (w.alloc (.cells (Lib.byteCells l).toArray t)).heap[w.heap.size]? = some (.cells (Lib.byteCells l).toArray t (0, 0)) := heap_alloc_new w _
  rw [cell_of_row _ _ _ _ _ _ hb, Nat.zero_add]
  unfold ints at hj
  rw [List.getElem?_map] at hj
  cases hx : l[j]? with
  | none => rw [hx] at hj; cases hj
  | some x =>
    rw [hx] at hj
    injection hj with hj
    subst hj
    simp [Lib.byteCells, hx]

namespace M
/-- A text so wide. -/
def put (l : List UInt8) (n : Int) : Option (List UInt8) := if (l.length : Int) ≤ n ∧ ¬ (0 : UInt8) ∈ l then some (l ++ List.replicate (n.toNat - l.length) 0) else none
/-- Up to a nought. -/
def cut : List UInt8 → List UInt8
  | [] => []
  | c :: l => if c = 0 then [] else c :: cut l
theorem zcut_none {l : List UInt8} (h : ¬ (0 : UInt8) ∈ l) : cut l = l := by
  induction l with
  | nil => rfl
  | cons c l ih =>
    rw [List.mem_cons, not_or] at h
    rw [cut, if_neg (fun e => h.1 e.symm), ih h.2]
theorem zcut_some {l : List UInt8} {k : Nat} (hk : k < l.length) (h : ¬ (0 : UInt8) ∈ l.take k) (h0 : l[k] = 0) : cut l = l.take k := by
  induction l generalizing k with
  | nil => simp at hk
  | cons c l ih =>
    cases k with
    | zero =>
      simp at h0
      simp [cut, h0]
    | succ k =>
      rw [List.take_succ_cons, List.mem_cons, not_or] at h
      simp at h0 hk
      rw [cut, if_neg (fun e => h.1 e.symm), List.take_succ_cons, ih hk h.2 h0]
theorem cut_append {l : List UInt8} (h : ¬ (0 : UInt8) ∈ l) (n : Nat) : cut (l ++ List.replicate n 0) = l := by
  induction l with
  | nil => cases n <;> simp [cut, List.replicate_succ]
  | cons c l ih =>
    rw [List.mem_cons, not_or] at h
    rw [List.cons_append, cut, if_neg (fun e => h.1 e.symm), ih h.2]
theorem cut_eq {l : List UInt8} : cut l = l ↔ ¬ (0 : UInt8) ∈ l := by
  refine ⟨fun h => ?_, zcut_none⟩
  induction l with
  | nil => simp
  | cons c l ih =>
    rw [cut] at h
    split at h
    · cases h
    · rename_i hc
      injection h with _ h
      rw [List.mem_cons, not_or]
      exact ⟨fun e => hc e.symm, ih h⟩
end M

/-- What Put answers: the bytes, or nil, and whether there are some. -/
def PutIs (w : World) (r : Option (List UInt8)) (e : Ending) (w' : World) : Prop :=
  ∃ A n c, e = .returned (.tuple #[.slice A n c, .bool r.isSome]) ∧ n ≤ c ∧ c ≤ 100000 ∧ Rd w' w'.heap.size A n (ints (r.getD [])) ∧ Below w.heap.size w w' ∧ (A = none → c = 0)
theorem PutIs.no {w w' : World} (h : Below w.heap.size w w') : PutIs w none (.returned (.tuple #[.slice none 0 0, .bool false])) w' :=
  ⟨none, 0, 0, rfl, Nat.le_refl _, by omega, Rd.none_, h, fun _ => rfl⟩

theorem u8_info : (Tryz.prog.info? 5).map (fun i => (i.zero, i.size, i.bytes)) = some (some (.int .u8 0), 1, 1) := by kernel_rfl
theorem u8_size : (Tryz.prog.info? 5).map (·.size) = some 1 := by kernel_rfl

theorem indexByte_zero : ∀ (l : List UInt8), (0 : UInt8) ∈ l ↔ 0 ≤ Lib.indexByte l 0
  | [] => by simp [Lib.indexByte]
  | b :: l => by
    have ih := indexByte_zero l
    have hge := (M.indexByte_ge l 0).1
    have e : Lib.indexByte (b :: l) 0 = if b == 0 then 0 else if Lib.indexByte l 0 == -1 then -1 else Lib.indexByte l 0 + 1 := rfl
    rw [List.mem_cons, ih, e]
    clear e
    by_cases hb : b = 0
    · simp [hb]
    · have h1 : (b == 0) = false := by simpa using hb
      rw [h1]
      simp only [Bool.false_eq_true, if_false]
      have h2 : ¬ (0 : UInt8) = b := fun e => hb e.symm
      by_cases h3 : Lib.indexByte l 0 = -1
      · rw [h3]; simp [h2]
      · have h4 : (Lib.indexByte l 0 == -1) = false := by simpa using h3
        rw [h4]
        simp only [Bool.false_eq_true, if_false]
        constructor
        · rintro (e | e)
          · exact absurd e h2
          · omega
        · intro _
          exact .inr (by omega)

theorem put_row (s : ByteArray) (N : Nat) :
    (List.take 0 (madeCells #[Value.int .u8 0] N).toList ++ Lib.byteCells s.data.toList ++ (madeCells #[Value.int .u8 0] N).toList.drop (0 + s.size)).toArray = (Lib.byteCells (s.data.toList ++ List.replicate (N - s.size) 0)).toArray := by
  rw [toList_madeCells_one, List.take_zero, List.nil_append, Nat.zero_add, List.drop_replicate]
  congr 1
  simp [Lib.byteCells]

end Go.Proofs.YtkpnhggpcpjddaaGreatDoor.S

/-! The document's Put; str.Cut and the document's. -/
namespace Go.Proofs.YtkpnhggpcpjddaaGreatDoor.S
open Go.RowKit Go.Shelf

theorem zero_mem {l : List UInt8} {k : Nat} (h : k < l.length) : M.at' l k = 0 ↔ l[k] = 0 := by
  unfold M.at'
  rw [List.getD_eq_getElem?_getD, List.getElem?_eq_getElem h, Option.getD_some, ← UInt8.toNat_inj]
  rfl
theorem not_mem_take_succ {l : List UInt8} {k : Nat} (h : k < l.length) (h1 : ¬ (0 : UInt8) ∈ l.take k) (h2 : ¬ M.at' l k = 0) : ¬ (0 : UInt8) ∈ l.take (k + 1) := by
  rw [List.take_succ_eq_append_getElem h, List.mem_append, List.mem_singleton, not_or]
  exact ⟨h1, fun e => h2 ((zero_mem h).2 e.symm)⟩

/-- The row so far: k bytes of the text, noughts behind. -/
def rowTo (l : List UInt8) (k : Nat) (j : Nat) : Int := if j < k then M.at' l j else 0
/-- Block b is a row of N bytes, cell j holding g j. -/
def RowB (w : World) (b N : Nat) (g : Nat → Int) : Prop := w.rowIs b 5 N (fun j => .int .u8 (g j))
section
variable {w w' : World} {b N : Nat} {g h : Nat → Int}
theorem RowB.cell (r : RowB w b N g) {i : Nat} (hi : i < N) : w.cell? ⟨b, i, none⟩ = some (.int .u8 (g i)) := World.rowIs.cell r hi
theorem RowB.frozen (r : RowB w b N g) (i : Nat) : w.frozen? ⟨b, i, none⟩ = false := World.rowIs.frozen r i
theorem RowB.lt (r : RowB w b N g) : b < w.heap.size := World.rowIs.lt r
theorem RowB.to (r : RowB w b N g) (e : ∀ i, i < N → g i = h i) : RowB w b N h := World.rowIs.congr r fun i hi => by rw [e i hi]
theorem RowB.set (r : RowB w b N g) (i : Nat) (v : Int) : RowB (w.setCell ⟨b, i, none⟩ (.int .u8 v)) b N (fun j => if j = i then v else g j) :=
  (World.rowIs.set r i (.int .u8 v)).congr fun j _ => by
    show (if j = i then _ else _) = Value.int .u8 (if j = i then v else g j)
    split <;> rfl
theorem RowB.made (w : World) (N : Nat) : RowB (w.alloc (.cells (madeCells #[.int .u8 0] N) 5)) w.heap.size N (fun _ => 0) := World.rowIs_made w _ N _
end

theorem at_append_replicate (l : List UInt8) (n j : Nat) : (M.at' (l ++ List.replicate n 0) j : Int) = rowTo l l.length j := by
  unfold rowTo M.at'
  rw [List.getD_eq_getElem?_getD, List.getD_eq_getElem?_getD]
  split
  · rename_i h
    rw [List.getElem?_append_left h]
  · rename_i h
    rw [List.getElem?_append_right (by omega), List.getElem?_replicate]
    split <;> rfl

theorem RowB.rd {w : World} {b N : Nat} {l : List UInt8} (r : RowB w b N (fun j => M.at' l j)) (hl : l.length = N) : Rd w w.heap.size (some ⟨b, 0, none⟩) N (ints l) := by
  refine ⟨by rw [ints_length, hl], ints_bd l, fun _ => ⟨b, 0, rfl, r.lt, fun j z hz => ?_⟩⟩
  have hj : j < l.length := by
    have := (List.getElem?_eq_some_iff.1 hz).1
    rwa [ints_length] at this
  rw [ints_at hj] at hz
  injection hz with hz
  subst hz
  have := r.cell (i := j) (by omega)
  rw [Nat.zero_add, this]
  unfold M.at'
  rw [List.getD_eq_getElem?_getD, List.getElem?_eq_getElem hj]
  rfl

set_option maxRecDepth 100000 in
set_option maxHeartbeats 1000000 in
theorem refPut_any (s : ByteArray) (hs : s.size ≤ 100000) (n : Int) (h1 : -9223372036854775808 ≤ n) (h2 : n ≤ 100000) (w : World) :
    Calls Tryz.prog 65 #[.string s, .int .i64 n] w (PutIs w (M.put s.data.toList n)) := by
  by_cases hw : (s.size : Int) ≤ n
  · obtain ⟨N, rfl⟩ : ∃ N : Nat, n = N := ⟨n.toNat, by omega⟩
    have hN : s.size ≤ N := by omega
    have hmk := run_make_row' (P := Tryz.prog) 22 5 (.int .u8 0) 1 Tryz.underlying22 u8_info rfl .i64 .i64 N (by omega) (by omega)
    go_enter Tryz.func65, Tryz.ntmps65
    go_wp2
    clear hmk
    go_loopw [7] (fun i wr => ∃ k : Nat, i = .int .i64 k ∧ k ≤ s.size ∧ ¬ (0 : UInt8) ∈ s.data.toList.take k ∧ RowB wr w.heap.size N (rowTo s.data.toList k) ∧ Below w.heap.size w wr) (fun i _ => s.size - (intOf i).toNat)
    case atStart => exact ⟨0, rfl, Nat.zero_le _, by simp, (RowB.made w N).to (fun i _ => by simp [rowTo]), (Below.refl _ _).alloc (Nat.le_refl _) _⟩
    case round =>
      obtain ⟨k, rfl, hk, hno, hrow, hbel⟩ := hrel
      by_cases hlt : k < s.size
      · have hat := at_eq s k hlt
        have hl : k < s.data.toList.length := hlt
        have hb : (s[k]'hlt).toNat < 256 := UInt8.toNat_lt _
        by_cases h0 : M.at' s.data.toList k = 0
        · have hr : M.put s.data.toList N = none := by
            unfold M.put
            rw [if_neg]
            rintro ⟨_, h⟩
            exact h ((zero_mem hl).1 h0 ▸ List.getElem_mem hl)
          rw [hat] at h0
          have he : (((s[k]'hlt).toNat : Int) == 0) = true := by simp; omega
          have HR := Lib.hid hr
          clear h0 hat hno hr hl
          go_wp2
          go_ret2
          rw [HR.out]
          exact PutIs.no hbel
        · have hno2 := not_mem_take_succ hl hno h0
          have hne : (((s[k]'hlt).toNat : Int) == 0) = false := by rw [hat] at h0; simp; omega
          have hc := hrow.cell (i := k) (by omega)
          have hf := hrow.frozen k
          have hset := hrow.set k ((s[k]'hlt).toNat : Int)
          have hset2 : RowB (wr.setCell ⟨w.heap.size, k, none⟩ (.int .u8 ((s[k]'hlt).toNat : Int))) w.heap.size N (rowTo s.data.toList (k + 1)) := hset.to (fun i _ => by
            unfold rowTo
            by_cases e : i = k
            · subst e; rw [if_pos rfl, if_pos (by omega), hat]
            · rw [if_neg e]
              by_cases e2 : i < k
              · rw [if_pos e2, if_pos (by omega)]
              · rw [if_neg e2, if_neg (by omega)])
          have HN := Lib.hid hno2
          clear hno hno2 h0 hat hl hset hrow
          by_cases hk0 : k = 0
          · subst hk0
            go_wp2
            go_roundw
            case rel => exact ⟨1, by go_num, by omega, HN.out, hset2, hbel.setCell (p := ⟨w.heap.size, 0, none⟩) (Nat.le_refl _) _⟩
            case measure => simp [intOf]; omega
          · have hk1 : 0 < k := by omega
            clear hk0
            go_wp2
            go_roundw
            case rel => exact ⟨k + 1, by go_num, by omega, HN.out, hset2, hbel.setCell (p := ⟨w.heap.size, k, none⟩) (Nat.le_refl _) _⟩
            case measure => simp [intOf]; omega
      · obtain rfl : k = s.size := by omega
        have hno' : ¬ (0 : UInt8) ∈ s.data.toList := by rw [← List.take_length (l := s.data.toList)]; exact hno
        have hr : M.put s.data.toList N = some (s.data.toList ++ List.replicate (N - s.size) 0) := by
          unfold M.put; rw [if_pos ⟨by rw [len_eq]; exact hw, hno'⟩, len_eq, Int.toNat_natCast]
        have hrd : Rd wr wr.heap.size (some ⟨w.heap.size, 0, none⟩) N (ints (s.data.toList ++ List.replicate (N - s.size) 0)) := RowB.rd (hrow.to (fun i _ => by rw [at_append_replicate, len_eq])) (by rw [List.length_append, len_eq, List.length_replicate]; omega)
        have HR := Lib.hid hr
        have HH := Lib.hid hrd
        clear hno hno' hr hrow hrd
        go_wp2
        go_ret2
        rw [HR.out]
        exact ⟨_, N, N, rfl, Nat.le_refl _, by omega, by simpa using HH.out, hbel, fun e => by cases e⟩
  · have hr : M.put s.data.toList n = none := by unfold M.put; rw [if_neg (fun h => by have := h.1; rw [len_eq] at this; omega)]
    rw [hr]
    clear hr
    have hw' : n < (s.size : Int) := by omega
    clear hw
    go_enter Tryz.func65, Tryz.ntmps65
    go_wp2
    go_ret2
    exact PutIs.no (Below.refl _ _)

theorem below_drewN' {B : Nat} {a w : World} (h : Below B a w) (n : Nat) : Below B a (w.drewN n) := ⟨h.os, h.tape, h.output, h.size, h.block⟩

theorem take_cut {l : List UInt8} (h : 0 ≤ Lib.indexByte l 0) : M.cut l = l.take (Lib.indexByte l 0).toNat := by
  induction l with
  | nil => simp [Lib.indexByte] at h
  | cons c l ih =>
    have e : Lib.indexByte (c :: l) 0 = if c == 0 then 0 else if Lib.indexByte l 0 == -1 then -1 else Lib.indexByte l 0 + 1 := rfl
    rw [e] at h ⊢
    rw [M.cut]
    by_cases hc : c = 0
    · subst hc; simp
    · have h1 : (c == 0) = false := by simpa using hc
      rw [h1] at h ⊢
      simp only [Bool.false_eq_true, if_false] at h ⊢
      rw [if_neg hc]
      split at h
      · omega
      · rename_i h2
        rw [if_neg h2]
        have hge := (M.indexByte_ge l 0).1
        have h3 : Lib.indexByte l 0 ≠ -1 := by simpa using h2
        rw [ih (by omega), show (Lib.indexByte l 0 + 1).toNat = (Lib.indexByte l 0).toNat + 1 by omega, List.take_succ_cons]

theorem bytesOf_ints (l : List UInt8) : Lib.bytesOf (ints l) = l := by
  unfold Lib.bytesOf ints
  rw [List.map_map]
  conv => rhs; rw [← List.map_id l]
  refine List.map_congr_left fun b _ => ?_
  simp

set_option maxRecDepth 100000 in
set_option maxHeartbeats 1000000 in
theorem cut_any (A : Option Addr) (n c : Nat) (l : List UInt8) (w : World) (h : Rd w w.heap.size A n (ints l)) (hc : n ≤ c) (hl : n ≤ 1000000) (hn : A = none → c = 0) :
    Calls Tryz.prog 70 #[.slice A n c] w fun e w' => e = .returned (.string ⟨(M.cut l).toArray⟩) ∧ Below w.heap.size w w' := by
  have hlen := h.len
  rw [ints_length] at hlen
  have hb : ∀ o, Below w.heap.size w (w.alloc o) := fun o => (Below.refl _ w).alloc (Nat.le_refl _) o
  have h' : ∀ o, Rd (w.alloc o) w.heap.size A n (ints l) := fun o => h.alloc (Nat.le_refl _) o
  have hidx : ∀ t fr, Calls Tryz.prog 103 #[.slice A n c, .slice (some ⟨w.heap.size, 0, none⟩) 1 1] (w.alloc (.cells #[.int .u8 0] t fr)) fun e w' => e = .returned (.int .i64 (Lib.indexByte l 0)) ∧ ∃ q, w' = (w.alloc (.cells #[.int .u8 0] t fr)).drewN q := by
    intro t fr
    have hz : (w.alloc (.cells #[.int .u8 0] t fr)).cell? ⟨w.heap.size, 0, none⟩ = some (.int .u8 0) := by rw [World.cell?_alloc_mark]; rfl
    cases A with
    | none =>
      have h0 : n = 0 := by
        rcases Nat.eq_zero_or_pos n with h0 | h0
        · exact h0
        · obtain ⟨b, off, e, _⟩ := h.2.2 h0; cases e
      subst h0
      obtain rfl : l = [] := List.eq_nil_of_length_eq_zero hlen
      obtain rfl := hn rfl
      exact (Tryz.bytes_Index_one_nil w.heap.size 0 1 0 _ hz).mono fun e w' ⟨he, hw⟩ => ⟨he, 0, hw⟩
    | some a =>
      rcases Nat.eq_zero_or_pos n with h0 | h0
      · subst h0
        obtain rfl : l = [] := List.eq_nil_of_length_eq_zero hlen
        exact (Tryz.bytes_Index_one_at a 0 c w.heap.size 0 1 [] 0 _ rfl (fun i hi => absurd hi (by omega)) hz).mono fun e w' ⟨he, hw⟩ => ⟨he, 0, hw⟩
      · obtain ⟨b, off, e, hbb, hcell⟩ := (h' (.cells #[.int .u8 0] t fr)).2.2 h0
        injection e with e
        subst e
        have := Tryz.bytes_Index_one b off n c w.heap.size 0 1 (ints l) 0 (w.alloc (.cells #[.int .u8 0] t fr)) (by rw [ints_length, hlen]) (fun i hi => by
          have hi' : i < (ints l).length := by rw [ints_length, hlen]; exact hi
          rw [hcell i _ (List.getElem?_eq_getElem hi'), List.getD_eq_getElem?_getD, List.getElem?_eq_getElem hi', Option.getD_some]) hz
        rw [bytesOf_ints] at this
        exact this.mono fun e w' ⟨he, hw⟩ => ⟨he, 0, hw⟩
  have hge := M.indexByte_ge l 0
  have hcut : ∀ t fr, Calls Tryz.prog 88 #[.slice A n c, .slice (some ⟨w.heap.size, 0, none⟩) 1 1] (w.alloc (.cells #[.int .u8 0] t fr)) fun e w' => e = .returned (Lib.cutV A n c 1 (Lib.indexByte l 0)) ∧ ∃ q, w' = (w.alloc (.cells #[.int .u8 0] t fr)).drewN q :=
    fun t fr => Tryz.bytes_Cut_of A (some ⟨w.heap.size, 0, none⟩) n c 1 1 _ _ hc hge.1 (fun _ => by omega) (by omega) (hidx t fr)
  by_cases h0 : 0 ≤ Lib.indexByte l 0
  · obtain ⟨x, hx⟩ : ∃ x, Lib.fromV A n c ((Lib.indexByte l 0).toNat + 1) = x := ⟨_, rfl⟩
    have hv : Lib.cutV A n c 1 (Lib.indexByte l 0) = .tuple #[.slice A (Lib.indexByte l 0).toNat c, x, .bool true] := by unfold Lib.cutV; rw [if_pos h0, hx]
    have htk := take_cut h0
    obtain ⟨k, hk⟩ : ∃ k, (Lib.indexByte l 0).toNat = k := ⟨_, rfl⟩
    rw [hk] at hv htk
    have hkn : k ≤ n := by omega
    have htxt : ∀ o q, (convert 22 9 (.slice A k c)).run Tryz.prog ((w.alloc o).drewN q) = .ok (.string ⟨(M.cut l).toArray⟩) ((w.alloc o).drewN q) := by
      intro o q
      have := ((h' o).drewN q).front hkn
      rw [ints_take, ← htk] at this
      exact run_text this c
    have HC : ∀ t fr, Calls Tryz.prog 88 #[.slice A n c, .slice (some ⟨w.heap.size, 0, none⟩) 1 1] (w.alloc (.cells #[.int .u8 0] t fr)) fun e w' => e = .returned (.tuple #[.slice A k c, x, .bool true]) ∧ ∃ q, w' = (w.alloc (.cells #[.int .u8 0] t fr)).drewN q := by
      intro t fr; have := hcut t fr; rw [hv] at this; exact this
    have HC := Lib.hid HC
    clear hcut hidx hx hv htk hk hge h0
    go_enter Tryz.func70, Tryz.ntmps70
    go_wp2_with (go_at_call 88; refine (HC.out _ _).mono ?_; rintro e w' ⟨rfl, q, rfl⟩)
    go_ret
    exact ⟨rfl, below_drewN' (hb _) q⟩
  · have hv : Lib.cutV A n c 1 (Lib.indexByte l 0) = .tuple #[.slice A n c, .slice none 0 0, .bool false] := by unfold Lib.cutV; rw [if_neg h0]
    have hno : M.cut l = l := M.zcut_none (fun h => h0 ((indexByte_zero l).1 h))
    have htxt : ∀ o q, (convert 22 9 (.slice A n c)).run Tryz.prog ((w.alloc o).drewN q) = .ok (.string ⟨(M.cut l).toArray⟩) ((w.alloc o).drewN q) := by
      intro o q
      rw [hno]
      exact run_text ((h' o).drewN q) c
    have HC : ∀ t fr, Calls Tryz.prog 88 #[.slice A n c, .slice (some ⟨w.heap.size, 0, none⟩) 1 1] (w.alloc (.cells #[.int .u8 0] t fr)) fun e w' => e = .returned (.tuple #[.slice A n c, .slice none 0 0, .bool false]) ∧ ∃ q, w' = (w.alloc (.cells #[.int .u8 0] t fr)).drewN q := by
      intro t fr; have := hcut t fr; rw [hv] at this; exact this
    have HC := Lib.hid HC
    clear hcut hidx hv hge h0 hno
    go_enter Tryz.func70, Tryz.ntmps70
    go_wp2_with (go_at_call 88; refine (HC.out _ _).mono ?_; rintro e w' ⟨rfl, q, rfl⟩)
    go_ret
    exact ⟨rfl, below_drewN' (hb _) q⟩

set_option maxRecDepth 100000 in
set_option maxHeartbeats 1000000 in
theorem refCut_any (A : Option Addr) (n c : Nat) (l : List UInt8) (w : World) (h : Rd w w.heap.size A n (ints l)) (hc : n ≤ c) (hl : n ≤ 1000000) :
    Calls Tryz.prog 23 #[.slice A n c] w fun e w' => e = .returned (.string ⟨(M.cut l).toArray⟩) ∧ w = w' := by
  have hlen := h.len
  rw [ints_length] at hlen
  go_enter Tryz.func23, Tryz.ntmps23
  go_wp2
  go_loop [3] (fun i => ∃ k : Nat, i = .int .i64 k ∧ k ≤ n ∧ ¬ (0 : UInt8) ∈ l.take k) (fun i => n - (intOf i).toNat)
  case atStart => exact ⟨0, rfl, Nat.zero_le _, by simp⟩
  case round =>
    obtain ⟨k, rfl, hk, hno⟩ := hrel
    by_cases hlt : k < n
    · obtain ⟨b, off, rfl, hbb, hcell⟩ := h.2.2 (by omega)
      have hkl : k < l.length := by omega
      have hck := hcell k _ (ints_at hkl)
      have hb256 : (l[k]).toNat < 256 := UInt8.toNat_lt _
      by_cases h0 : l[k] = 0
      · have hct := M.zcut_some hkl hno h0
        have htx := run_text (l := l.take k) (by have := h.front hk; rw [ints_take] at this; exact this) c
        rw [← hct] at htx
        have hz : ((l[k]).toNat : Int) = 0 := by rw [h0]; rfl
        rw [hz] at hck
        clear hcell hno h0 hct hz
        by_cases hk0 : k = 0
        · subst hk0
          simp only [Nat.add_zero] at hck
          go_wp2
          go_ret
          exact ⟨rfl, rfl⟩
        · have hk1 : 0 < k := by omega
          clear hk0
          go_wp2
          go_ret
          exact ⟨rfl, rfl⟩
      · have hno2 := not_mem_take_succ hkl hno (fun e => h0 ((zero_mem hkl).1 e))
        have hne : (((l[k]).toNat : Int) == 0) = false := by
          simp
          intro e
          exact h0 (UInt8.toNat_inj.1 e)
        have HN := Lib.hid hno2
        have HH := Lib.hid h
        clear hcell hno h0 hno2 h
        by_cases hk0 : k = 0
        · subst hk0
          simp only [Nat.add_zero] at hck
          go_wp2
          go_round
          case rel => exact ⟨1, by go_num, by omega, HN.out⟩
          case measure => simp [intOf]; omega
        · have hk1 : 0 < k := by omega
          clear hk0
          go_wp2
          go_round
          case rel => exact ⟨k + 1, by go_num, by omega, HN.out⟩
          case measure => simp [intOf]; omega
    · obtain rfl : k = n := by omega
      have hct : M.cut l = l := M.zcut_none (by rw [← List.take_length (l := l), hlen]; exact hno)
      have htx := run_text h c
      rw [← hct] at htx
      clear hno hct
      go_wp2
      go_ret
      exact ⟨rfl, rfl⟩
end Go.Proofs.YtkpnhggpcpjddaaGreatDoor.S

/-! Headers as plain data: what a block tells, and how one is laid. No program. -/
namespace Go.Proofs.YtkpnhggpcpjddaaGreatDoor
namespace M

/-- A header's fields. -/
structure Hdr where
  name : ByteArray := ⟨#[]⟩
  mode : Int := 0
  uid : Int := 0
  gid : Int := 0
  size : Int := 0
  mtime : Int := 0
  kind : Int := 0
  link : ByteArray := ⟨#[]⟩
  way : Int := 0
  user : ByteArray := ⟨#[]⟩
  group : ByteArray := ⟨#[]⟩
  major : Int := 0
  minor : Int := 0
  pre : ByteArray := ⟨#[]⟩
  parts : List (Int × Int) := []
  more : Bool := false
  real : Int := 0

/-- Numbers as bytes. -/
def toB (zs : List Int) : List UInt8 := zs.map fun z => UInt8.ofNat z.toNat
theorem toB_len (zs : List Int) : (toB zs).length = zs.length := by simp [toB]
theorem ints_toB {zs : List Int} (h : ∀ z ∈ zs, 0 ≤ z ∧ z ≤ 255) : S.ints (toB zs) = zs := by
  unfold S.ints toB
  rw [List.map_map]
  conv => rhs; rw [← List.map_id zs]
  refine List.map_congr_left fun z hz => ?_
  have := h z hz
  show (((UInt8.ofNat z.toNat).toNat : Nat) : Int) = z
  rw [UInt8.toNat_ofNat']
  omega
theorem toB_ints (l : List UInt8) : toB (S.ints l) = l := by
  unfold S.ints toB
  rw [List.map_map]
  conv => rhs; rw [← List.map_id l]
  refine List.map_congr_left fun b _ => ?_
  simp
theorem toB_app (a b : List Int) : toB (a ++ b) = toB a ++ toB b := by simp [toB]

/-- Bytes at a place. -/
def sub (zs : List Int) (at_ n : Nat) : List Int := (zs.drop at_).take n
theorem sub_len {zs : List Int} {a n : Nat} (h : a + n ≤ zs.length) : (sub zs a n).length = n := by
  unfold sub
  rw [List.length_take, List.length_drop]
  omega
theorem sub_bd {zs : List Int} {a n : Nat} (h : ∀ z ∈ zs, 0 ≤ z ∧ z ≤ 255) : ∀ z ∈ sub zs a n, 0 ≤ z ∧ z ≤ 255 :=
  fun z hz => h z (List.mem_of_mem_drop (List.mem_of_mem_take hz))
/-- A text that a field tells. -/
def txt (zs : List Int) (a n : Nat) : ByteArray := ⟨(S.M.cut (toB (sub zs a n))).toArray⟩
/-- A number that a field tells; may it be? -/
def num (zs : List Int) (a n : Nat) : Int := parN (sub zs a n)
def numOk (zs : List Int) (a n : Nat) (lo up : Int) : Bool := parOk (sub zs a n) && (decide (lo ≤ num zs a n) && decide (num zs a n ≤ up))

def known (c : Int) : Bool := decide (48 ≤ c) && decide (c ≤ 55) || c == 83 || c == 120 || c == 103 || c == 76 || c == 75
def may (kind way : Int) : Bool := kind != 83 || way == 2
def magic : Nat → List Int
  | 0 => [0, 0, 0, 0, 0, 0, 0, 0]
  | 1 => [117, 115, 116, 97, 114, 0, 48, 48]
  | _ => [117, 115, 116, 97, 114, 32, 32, 0]
def way (zs : List Int) : Option Nat :=
  if zs.length = 512 then
    if sub zs 257 8 = magic 0 then some 0 else if sub zs 257 8 = magic 1 then some 1 else if sub zs 257 8 = magic 2 then some 2 else none
  else none
/-- A byte at a place. -/
def byt (zs : List Int) (a : Nat) : Int := zs.getD a 0
def kind (zs : List Int) : Int := if byt zs 156 = 0 then 48 else byt zs 156

/-- Parts from a place on: n of them at most; none: some may not be. -/
def parts (zs : List Int) : Nat → Nat → Option (List (Int × Int))
  | _, 0 => some []
  | a, n + 1 =>
    if zs.length < a + 24 then none
    else if numOk zs a 12 0 most && numOk zs (a + 12) 12 0 most then
      if num zs a 12 = 0 ∧ num zs (a + 12) 12 = 0 then some [] else (parts zs (a + 24) n).map ((num zs a 12, num zs (a + 12) 12) :: ·)
    else none
def clip (x : Int) (up : Nat) : Nat := (min (max x 0) up).toNat

/-- The texts, one behind the other. -/
def tx (zs : List Int) (h : Hdr) (k : Nat) : Hdr :=
  { h with
    name := if 1 ≤ k then txt zs 0 100 else h.name
    link := if 2 ≤ k then txt zs 157 100 else h.link
    user := if 3 ≤ k ∧ h.way ≠ 0 then txt zs 265 32 else h.user
    group := if 4 ≤ k ∧ h.way ≠ 0 then txt zs 297 32 else h.group
    pre := if 5 ≤ k ∧ h.way = 1 then txt zs 345 155 else h.pre }
end M
end Go.Proofs.YtkpnhggpcpjddaaGreatDoor
