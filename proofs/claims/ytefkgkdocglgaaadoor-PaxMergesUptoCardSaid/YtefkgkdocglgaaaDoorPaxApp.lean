/-
  append onto rows of the call's own: a byte, a text, a record, records. What lies beside them stays.
-/
import Derived.Test.YtefkgkdocglgaaaDoorPaxMem
import Derived.Lib.OthersKept
import Derived.Lib.AppendStr
import Derived.Laws.AppendOwn
import Derived.Lib.Hide
namespace Go.Proofs.YtefkgkdocglgaaaDoor
open Go.RowKit

/-- Block g is a record. -/
def BoxR (w : World) (g : Nat) (s t : ByteArray) : Prop := w.heap[g]? = some (.cells #[.string s, .string t] 45 (0, 0))
section
variable {w w' : World} {g : Nat} {s t : ByteArray}
theorem BoxR.new (w : World) (s t : ByteArray) : BoxR (w.alloc (.cells #[.string s, .string t] 45)) w.heap.size s t := heap_alloc_new w _
theorem BoxR.lt (h : BoxR w g s t) : g < w.heap.size := (Array.getElem?_eq_some_iff.1 h).1
theorem BoxR.cell0 (h : BoxR w g s t) : w.cell? ⟨g, 0, none⟩ = some (.string s) := by rw [cell_of_row _ _ _ _ _ _ h]; rfl
theorem BoxR.cell1 (h : BoxR w g s t) : w.cell? ⟨g, 1, none⟩ = some (.string t) := by rw [cell_of_row _ _ _ _ _ _ h]; rfl
theorem BoxR.below {B : Nat} (h : BoxR w g s t) (hb : Below B w w') (hg : g < B) : BoxR w' g s t := (hb.block g hg).trans h
theorem BoxR.alloc (h : BoxR w g s t) (o : Obj) : BoxR (w.alloc o) g s t := (Below.heap_alloc w o g h.lt).trans h
theorem BoxR.drew (h : BoxR w g s t) : BoxR w.drew g s t := h
theorem BoxR.kept (h : BoxR w g s t) (hk : Lib.OthersKept 5 none w w') : BoxR w' g s t :=
  hk g _ h (by simp) (fun c fz e => by injection e with _ e; exact absurd e (by decide))
theorem BoxR.grown {base : Nat} {e : TypeId} {size n : Nat} {v : Value} {xs : List Value} (h : BoxR w g s t) (hown : w.ownsRow base e size v n xs) (he : e ≠ 45) (hg : w.grownBy w' v.ownBlock) : BoxR w' g s t := by
  refine (hg.block g h.lt ?_).trans h
  rcases hown.2 with ⟨rfl, _⟩ | ⟨g', cap, cur, rfl, _, hh, _⟩
  · simp [Value.ownBlock]
  · intro hc
    have hc2 : g = g' := by simpa [Value.ownBlock] using hc
    subst hc2
    unfold BoxR at h
    rw [h] at hh
    injection hh with hh
    injection hh with _ ht
    exact he ht.symm
end

theorem byteCells_app1 (l : List UInt8) (c : UInt8) : Lib.byteCells (l ++ [c]) = Lib.byteCells l ++ [.int .u8 c.toNat] := by simp [Lib.byteCells]
theorem byteCells_appS (l : List UInt8) (s : ByteArray) : Lib.byteCells (l ++ tl s) = Lib.byteCells l ++ Lib.strCells s := by simp [Lib.byteCells, Lib.strCells, tl]

theorem wpList_app1 {W : World} {ops : Array Oper} {rest : List Oper} {o : Oper} {a : Act} {Q : Exit → Act → World → Prop} (hgd : o.guard = none) (s x : Operand)
    (ho : o.op = .call { callee := .builtin .append, args := #[s, x], argTypes := #[22, 22] })
    (base : Nat) (v : Value) (l : List UInt8) (c : UInt8) {z : Int} (hz : (c.toNat : Int) = z) (hs : a.eval s = v) (hown : OwnB W base v l) (hbase : base ≤ W.heap.size)
    (hx : a.eval x = .slice (some ⟨W.heap.size, 0, none⟩) 1 1) (hl : l.length ≤ 100000000)
    (h : ∀ v' w' l', Hid (l' = l ++ [c]) → l'.length ≤ l.length + 1 → OwnB w' base v' l' → Below base W w' → (∀ g p q, BoxR W g p q → BoxR w' g p q) → wpList Tryd.prog ops Q rest (a.put o.dst v') w') :
    wpList Tryd.prog ops Q (o :: rest) a (W.alloc (.cells #[.int .u8 z] 5)) := by
  subst hz
  obtain ⟨i0, hi, hz0, hz1, hz2⟩ := info_parts infoB
  have hownA : (W.alloc (.cells #[.int .u8 c.toNat] 5)).ownsRow base 5 1 v l.length (Lib.byteCells l) := World.ownsRow.alloc hown _
  refine wpList_append_own _ hgd s x 22 ho base 5 i0 (.int .u8 0) 1 1 Tryd.underlying22 hi hz0 hz1 hz2 rfl (by decide) v l.length (Lib.byteCells l) hs hownA ⟨W.heap.size, 0, none⟩ 1 1 [.int .u8 c.toNat] hx rfl ?_ ?_ ?_ ?_ ?_ ?_
  · intro j u hj
    match j, hj with
    | 0, hj => simp at hj; subst hj; simp [Addr.add]
  · intro u hu; simp at hu; subst hu; rfl
  · unfold maxLen; omega
  · omega
  · simp; omega
  · intro v' w' hown' hgrow _
    refine h v' w' _ (Lib.hid rfl) (by simp) ?_ ?_ ?_
    · unfold OwnB
      rw [byteCells_app1, List.length_append]
      exact hown'
    · exact ((Below.refl _ W).alloc hbase _).grown hgrow (by simp; omega) (fun k hk => ownsRow_block hownA k hk)
    · intro g p q hb
      exact (hb.alloc _).grown hownA (by decide) hgrow

theorem wpList_appS {W : World} {ops : Array Oper} {rest : List Oper} {o : Oper} {a : Act} {Q : Exit → Act → World → Prop} (hgd : o.guard = none) (sl x : Operand)
    (ho : o.op = .call { callee := .builtin .append, args := #[sl, x], argTypes := #[22, 9] })
    (base : Nat) (v : Value) (l : List UInt8) (s : ByteArray) (hs : a.eval sl = v) (hown : OwnB W base v l) (hbase : base ≤ W.heap.size)
    (hx : a.eval x = .string s) (hl : l.length ≤ 100000000) (hsl : s.size ≤ 100000000)
    (h : ∀ v' w' l', Hid (l' = l ++ tl s) → l'.length ≤ l.length + s.size → OwnB w' base v' l' → Below base W w' → (∀ g p q, BoxR W g p q → BoxR w' g p q) → wpList Tryd.prog ops Q rest (a.put o.dst v') w') :
    wpList Tryd.prog ops Q (o :: rest) a W := by
  obtain ⟨i0, hi, hz0, hz1, hz2⟩ := info_parts infoB
  refine Lib.wpList_append_own_string _ hgd sl x 22 9 ho base 5 i0 Tryd.underlying22 Tryd.underlying9 hi hz0 hz1 hz2 v l.length (Lib.byteCells l) hs hown s hx (by unfold maxLen; omega) (by omega) hbase ?_
  intro v' w' hown' hgrow _
  refine h v' w' _ (Lib.hid rfl) (by rw [List.length_append, tl_len]; exact Nat.le_refl _) ?_ ?_ ?_
  · unfold OwnB
    rw [byteCells_appS, List.length_append]
    exact hown'
  · exact (Below.refl _ W).grown hgrow hbase (fun k hk => ownsRow_block hown k hk)
  · intro g p q hb
    exact hb.grown hown (by decide) hgrow

/-- append of a record onto records of the call's own. -/
theorem wpList_appR {W : World} {ops : Array Oper} {rest : List Oper} {o : Oper} {a : Act} {Q : Exit → Act → World → Prop} (hgd : o.guard = none) (s x : Operand)
    (ho : o.op = .call { callee := .builtin .append, args := #[s, x], argTypes := #[23, 23] })
    (base : Nat) (v : Value) (l : List R2) {p q : ByteArray} (r : R2) (hp : r.1 = p) (hq : r.2 = q) (hs : a.eval s = v) (hown : OwnR W base v l) (hbase : base ≤ W.heap.size)
    (hx : a.eval x = .slice (some ⟨W.heap.size, 0, none⟩) 1 1) (hl : l.length ≤ 100000000)
    (h : ∀ v' w' l', Hid (l' = l ++ [r]) → l'.length = l.length + 1 → OwnR w' base v' l' → Below base W w' → W.grownBy w' v.ownBlock → wpList Tryd.prog ops Q rest (a.put o.dst v') w') :
    wpList Tryd.prog ops Q (o :: rest) a (W.alloc (.cells #[.string p, .string q] 45)) := by
  subst hp; subst hq
  obtain ⟨i0, hi, hz0, hz1, hz2⟩ := info_parts infoR
  have hownA : (W.alloc (.cells #[.string r.1, .string r.2] 45)).ownsRow base 45 2 v l.length (cellsR l) := World.ownsRow.alloc hown _
  refine wpList_append_own _ hgd s x 23 ho base 45 i0 (.agg #[.string ⟨#[]⟩, .string ⟨#[]⟩]) 2 32 Tryd.underlying23 hi hz0 hz1 hz2 rfl (by decide) v l.length (cellsR l) hs hownA ⟨W.heap.size, 0, none⟩ 1 1 [.string r.1, .string r.2] hx rfl ?_ ?_ ?_ ?_ ?_ ?_
  · intro j u hj
    match j, hj with
    | 0, hj => simp at hj; subst hj; simp [Addr.add]
    | 1, hj => simp at hj; subst hj; simp [Addr.add]
  · intro u hu; simp at hu; rcases hu with rfl | rfl <;> rfl
  · unfold maxLen; omega
  · omega
  · simp; omega
  · intro v' w' hown' hgrow _
    refine h v' w' _ (Lib.hid rfl) (by simp) (OwnR.snoc hown') ?_ ?_
    · exact ((Below.refl _ W).alloc hbase _).grown hgrow (by simp; omega) (fun k hk => ownsRow_block hownA k hk)
    · exact (World.grownBy_alloc W _ _).trans hgrow

/-- append of records onto records of the call's own. -/
theorem wpList_appRs {W : World} {ops : Array Oper} {rest : List Oper} {o : Oper} {a : Act} {Q : Exit → Act → World → Prop} (hgd : o.guard = none) (s x : Operand)
    (ho : o.op = .call { callee := .builtin .append, args := #[s, x], argTypes := #[23, 23] })
    (base : Nat) (v : Value) (l m : List R2) (hs : a.eval s = v) (hown : OwnR W base v l) (hbase : base ≤ W.heap.size)
    (A : Option Addr) (c : Nat) (hx : a.eval x = .slice A m.length c) (B : Nat) (hr : RdR W B A m) (hl : l.length + m.length ≤ 100000000)
    (h : ∀ v' w' l', Hid (l' = l ++ m) → l'.length = l.length + m.length → OwnR w' base v' l' → Below base W w' → W.grownBy w' v.ownBlock → wpList Tryd.prog ops Q rest (a.put o.dst v') w') :
    wpList Tryd.prog ops Q (o :: rest) a W := by
  obtain ⟨i0, hi, hz0, hz1, hz2⟩ := info_parts infoR
  refine wpList_append_any W hgd s x 23 ho base 45 i0 _ 2 32 Tryd.underlying23 hi hz0 hz1 hz2 rfl (by decide) v l.length (cellsR l) hs hown B A m.length c (cellsR m) hx hr.reads ?_ (by unfold maxLen; omega) (by omega) hbase ?_
  · intro u hu
    unfold cellsR recCells at hu
    rw [List.mem_flatMap] at hu
    obtain ⟨r, _, hu⟩ := hu
    simp at hu
    rcases hu with rfl | rfl <;> rfl
  · intro v' w' hown' hg hat
    refine h v' w' _ (Lib.hid rfl) (by simp) (OwnR.app hown') ?_ hg
    exact (Below.refl _ W).grown hg hbase (fun g hg' => ownsRow_block hown g hg')
end Go.Proofs.YtefkgkdocglgaaaDoor
