/-
  The document's Put; str.Cut and the document's.
-/
import Derived.Lib.Bytes
import Derived.Test.YtcedcfagfklohaaKhHStrPut
import Derived.LoopTactic
set_option linter.unusedVariables false
set_option linter.unusedSimpArgs false
namespace Go.Proofs.Ytcedcfagfklohaa.Hd.S
open Go.RowKit Go.Shelf

theorem zero_mem {l : List UInt8} {k : Nat} (h : k < l.length) : M.at' l k = 0 ↔ l[k] = 0 := by
  unfold M.at'
  rw [List.getD_eq_getElem?_getD, List.getElem?_eq_getElem h, Option.getD_some, ← UInt8.toNat_inj]
  rfl
theorem not_mem_take_succ {l : List UInt8} {k : Nat} (h : k < l.length) (h1 : ¬ (0 : UInt8) ∈ l.take k) (h2 : ¬ M.at' l k = 0) : ¬ (0 : UInt8) ∈ l.take (k + 1) := by
  rw [List.take_succ_eq_append_getElem h, List.mem_append, List.mem_singleton, not_or]
  exact ⟨h1, fun e => h2 ((zero_mem h).2 e.symm)⟩

/-- The row so far: k bytes of the text, noughts behind. -/
def rowTo (l : List UInt8) (k : Nat) (j : Nat) : Int := if j < k then M.at' l j else 0
/-- Block b is a row of N bytes, cell j holding g j. -/
def RowB (w : World) (b N : Nat) (g : Nat → Int) : Prop := w.rowIs b 5 N (fun j => .int .u8 (g j))
section
variable {w w' : World} {b N : Nat} {g h : Nat → Int}
theorem RowB.cell (r : RowB w b N g) {i : Nat} (hi : i < N) : w.cell? ⟨b, i, none⟩ = some (.int .u8 (g i)) := World.rowIs.cell r hi
theorem RowB.frozen (r : RowB w b N g) (i : Nat) : w.frozen? ⟨b, i, none⟩ = false := World.rowIs.frozen r i
theorem RowB.lt (r : RowB w b N g) : b < w.heap.size := World.rowIs.lt r
theorem RowB.to (r : RowB w b N g) (e : ∀ i, i < N → g i = h i) : RowB w b N h := World.rowIs.congr r fun i hi => by rw [e i hi]
theorem RowB.set (r : RowB w b N g) (i : Nat) (v : Int) : RowB (w.setCell ⟨b, i, none⟩ (.int .u8 v)) b N (fun j => if j = i then v else g j) :=
  (World.rowIs.set r i (.int .u8 v)).congr fun j _ => by
    show (if j = i then _ else _) = Value.int .u8 (if j = i then v else g j)
    split <;> rfl
theorem RowB.made (w : World) (N : Nat) : RowB (w.alloc (.cells (madeCells #[.int .u8 0] N) 5)) w.heap.size N (fun _ => 0) := World.rowIs_made w _ N _
end

theorem at_append_replicate (l : List UInt8) (n j : Nat) : (M.at' (l ++ List.replicate n 0) j : Int) = rowTo l l.length j := by
  unfold rowTo M.at'
  rw [List.getD_eq_getElem?_getD, List.getD_eq_getElem?_getD]
  split
  · rename_i h
    rw [List.getElem?_append_left h]
  · rename_i h
    rw [List.getElem?_append_right (by omega), List.getElem?_replicate]
    split <;> rfl

theorem RowB.rd {w : World} {b N : Nat} {l : List UInt8} (r : RowB w b N (fun j => M.at' l j)) (hl : l.length = N) : Rd w w.heap.size (some ⟨b, 0, none⟩) N (ints l) := by
  refine ⟨by rw [ints_length, hl], ints_bd l, fun _ => ⟨b, 0, rfl, r.lt, fun j z hz => ?_⟩⟩
  have hj : j < l.length := by
    have := (List.getElem?_eq_some_iff.1 hz).1
    rwa [ints_length] at this
  rw [ints_at hj] at hz
  injection hz with hz
  subst hz
  have := r.cell (i := j) (by omega)
  rw [Nat.zero_add, this]
  unfold M.at'
  rw [List.getD_eq_getElem?_getD, List.getElem?_eq_getElem hj]
  rfl

theorem below_drewN' {B : Nat} {a w : World} (h : Below B a w) (n : Nat) : Below B a (w.drewN n) := ⟨h.os, h.tape, h.output, h.size, h.block⟩

theorem take_cut {l : List UInt8} (h : 0 ≤ Lib.indexByte l 0) : M.cut l = l.take (Lib.indexByte l 0).toNat := by
  induction l with
  | nil => simp [Lib.indexByte] at h
  | cons c l ih =>
    have e : Lib.indexByte (c :: l) 0 = if c == 0 then 0 else if Lib.indexByte l 0 == -1 then -1 else Lib.indexByte l 0 + 1 := rfl
    rw [e] at h ⊢
    rw [M.cut]
    by_cases hc : c = 0
    · subst hc; simp
    · have h1 : (c == 0) = false := by simpa using hc
      rw [h1] at h ⊢
      simp only [Bool.false_eq_true, if_false] at h ⊢
      rw [if_neg hc]
      split at h
      · omega
      · rename_i h2
        rw [if_neg h2]
        have hge := (M.indexByte_ge l 0).1
        have h3 : Lib.indexByte l 0 ≠ -1 := by simpa using h2
        rw [ih (by omega), show (Lib.indexByte l 0 + 1).toNat = (Lib.indexByte l 0).toNat + 1 by omega, List.take_succ_cons]

theorem bytesOf_ints (l : List UInt8) : Lib.bytesOf (ints l) = l := by
  unfold Lib.bytesOf ints
  rw [List.map_map]
  conv => rhs; rw [← List.map_id l]
  refine List.map_congr_left fun b _ => ?_
  simp

end Go.Proofs.Ytcedcfagfklohaa.Hd.S
