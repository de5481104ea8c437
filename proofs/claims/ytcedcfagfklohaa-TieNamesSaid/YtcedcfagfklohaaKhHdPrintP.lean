/-
  printParts.
-/
import Derived.Test.YtcedcfagfklohaaKhHdPrintM
set_option linter.unusedVariables false
set_option linter.unusedSimpArgs false
namespace Go.Proofs.Ytcedcfagfklohaa.Hd
open Go.RowKit Go.Lib

/-- A part's variable beside a block that is being laid. -/
structure PP (w0 W : World) (gb g : Nat) (zs : List Int) (p q : Int) : Prop where
  arr : Arr W gb 5 zs
  box : W.heap[g]? = some (.cells #[.int .i64 p, .int .i64 q] 43 (0, 0))
  ne : gb ≠ g
  below : Below gb w0 W
theorem PP.new {w0 W : World} {gb : Nat} {zs : List Int} (ha : Arr W gb 5 zs) (hb : Below gb w0 W) (p q : Int) : PP w0 (W.alloc (.cells #[.int .i64 p, .int .i64 q] 43)) gb W.heap.size zs p q :=
  ⟨ha.alloc _, heap_alloc_new W _, Nat.ne_of_lt ha.lt, hb.alloc (Nat.le_of_lt ha.lt) _⟩
theorem PP.later {w0 W W' : World} {gb g : Nat} {zs : List Int} {p q : Int} (h : PP w0 W gb g zs p q) (hb : Below W.heap.size W W') : PP w0 W' gb g zs p q :=
  ⟨h.arr.below hb h.arr.lt, (hb.block _ (Array.getElem?_eq_some_iff.1 h.box).1).trans h.box, h.ne, h.below.trans (hb.mono (Nat.le_of_lt h.arr.lt))⟩
theorem PP.laid {w0 W : World} {gb g : Nat} {zs : List Int} {p q : Int} (h : PP w0 W gb g zs p q) (ys : List Int) : PP w0 (laid W gb ys) gb g ys p q :=
  ⟨h.arr.laid ys, (setRow_other _ _ _ _ (Ne.symm h.ne)).trans h.box, h.ne, below_setRow h.below (Nat.le_refl _) _⟩
theorem PP.cell0 {w0 W : World} {gb g : Nat} {zs : List Int} {p q : Int} (h : PP w0 W gb g zs p q) : W.cell? ⟨g, 0, none⟩ = some (.int .i64 p) := by rw [cell_of_row _ _ 0 _ _ _ h.box]; rfl
theorem PP.cell1 {w0 W : World} {gb g : Nat} {zs : List Int} {p q : Int} (h : PP w0 W gb g zs p q) : W.cell? ⟨g, 1, none⟩ = some (.int .i64 q) := by rw [cell_of_row _ _ 1 _ _ _ h.box]; rfl
theorem PP.more {w0 W : World} {gb g : Nat} {zs : List Int} {p q : Int} (h : PP w0 W gb g zs p q) (o : Obj) : PP w0 (W.alloc o) gb g zs p q := h.later ((Below.refl _ _).alloc (Nat.le_refl _) _)

namespace M
theorem pputs_zero {zs : List Int} {i : Nat} {p : Int × Int} {l : List (Int × Int)} (h : p.1 = 0 ∧ p.2 = 0) : pputs zs i (p :: l) = none := by rw [pputs, if_pos h]
theorem pputs_bad1 {zs : List Int} {i : Nat} {p : Int × Int} {l : List (Int × Int)} (h : ¬ (p.1 = 0 ∧ p.2 = 0)) (h1 : putOk p.1 12 0 most = false) : pputs zs i (p :: l) = none := by rw [pputs, if_neg h, h1, if_neg (by decide)]
theorem pputs_bad2 {zs : List Int} {i : Nat} {p : Int × Int} {l : List (Int × Int)} (h : ¬ (p.1 = 0 ∧ p.2 = 0)) (h1 : putOk p.1 12 0 most = true) (h2 : putOk p.2 12 0 most = false) : pputs zs i (p :: l) = none := by rw [pputs, if_neg h, h1, if_pos rfl, h2, if_neg (by decide)]
theorem pputs_next {zs : List Int} {i : Nat} {p : Int × Int} {l : List (Int × Int)} (h : ¬ (p.1 = 0 ∧ p.2 = 0)) (h1 : putOk p.1 12 0 most = true) (h2 : putOk p.2 12 0 most = true) :
    pputs zs i (p :: l) = pputs (splice (splice zs (386 + 24 * i) (putR p.1 12)) (386 + 24 * i + 12) (putR p.2 12)) (i + 1) l := by rw [pputs, if_neg h, h1, if_pos rfl, h2, if_pos rfl]
theorem putOk_fits {x : Int} {m : Nat} {lo up : Int} (h : putOk x m lo up = true) : putFits x m = true := by
  unfold putOk at h
  rw [Bool.and_eq_true] at h
  exact h.1
end M

/-- The rounds of printParts: k are done. -/
def PutAt (w : World) (gb : Nat) (zs : List Int) (l : List (Int × Int)) (i : Value) (wr : World) : Prop :=
  ∃ (k : Nat) (zk : List Int), i = .int .i64 k ∧ k ≤ l.length ∧ Hid (zk.length = 512) ∧ Hid (M.pputs zs 0 l = M.pputs zk k (l.drop k)) ∧ Hid (Arr wr gb 5 zk) ∧ Hid (Below gb w wr)

def i64p (l : List (Int × Int)) : Prop := ∀ p ∈ l, (-9223372036854775808 ≤ p.1 ∧ p.1 ≤ 9223372036854775807) ∧ (-9223372036854775808 ≤ p.2 ∧ p.2 ≤ 9223372036854775807)

end Go.Proofs.Ytcedcfagfklohaa.Hd
