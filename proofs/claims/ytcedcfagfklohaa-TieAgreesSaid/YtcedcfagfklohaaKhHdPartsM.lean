/-
  Rows of parts in memory; how Parts is left, by a stop or at its end.
-/
import Derived.Test.YtcedcfagfklohaaKhHdParse
import Derived.LoopTactic
import Derived.Deep.AppendLies
import Derived.Laws.OwnMore
import Derived.Laws.AppendOwn
import Derived.Deep.OwnRows
set_option linter.unusedVariables false
set_option linter.unusedSimpArgs false
namespace Go.Proofs.Ytcedcfagfklohaa.Hd
open Go.RowKit Go.Lib

def pcells (l : List (Int × Int)) : List Value := l.flatMap fun p => [.int .i64 p.1, .int .i64 p.2]
theorem pcells_len (l : List (Int × Int)) : (pcells l).length = l.length * 2 := by
  induction l with
  | nil => rfl
  | cons p l ih => unfold pcells at ih ⊢; rw [List.flatMap_cons, List.length_append, ih, List.length_cons]; simp; omega
theorem pcells_app (a b : List (Int × Int)) : pcells (a ++ b) = pcells a ++ pcells b := by simp [pcells]
theorem pcells_at : ∀ {l : List (Int × Int)} {j : Nat} {p : Int × Int}, l[j]? = some p → (pcells l)[2 * j]? = some (.int .i64 p.1) ∧ (pcells l)[2 * j + 1]? = some (.int .i64 p.2)
  | [], j, p, h => by simp at h
  | q :: l, 0, p, h => by
    simp at h
    subst h
    exact ⟨rfl, rfl⟩
  | q :: l, j + 1, p, h => by
    have ih := pcells_at (l := l) (j := j) (p := p) (by simpa using h)
    have e : pcells (q :: l) = .int .i64 q.1 :: .int .i64 q.2 :: pcells l := rfl
    rw [e, show 2 * (j + 1) = 2 * j + 1 + 1 by omega, List.getElem?_cons_succ, List.getElem?_cons_succ, List.getElem?_cons_succ, List.getElem?_cons_succ]
    exact ih
/-- A row of parts of the call's own. -/
def OwnP (w : World) (base : Nat) (v : Value) (l : List (Int × Int)) : Prop := w.ownsRow base 43 2 v l.length (pcells l)
theorem part_parts : (Try.prog.info? 43).map (fun i => (i.zero, i.size, i.bytes)) = some (some (.agg #[.int .i64 0, .int .i64 0]), 2, 16) := by kernel_rfl
theorem OwnP.parts {w : World} {base : Nat} {v : Value} {l : List (Int × Int)} (h : OwnP w base v l) : PartsIs w base v l := by
  unfold OwnP at h
  by_cases hl : 0 < l.length
  · obtain ⟨g, cap, rfl, hbg, hlt⟩ := h.form hl
    refine ⟨_, cap, rfl, ?_, fun _ => ⟨g, 0, rfl, hbg, hlt, fun j p hp => ?_⟩⟩
    · rcases h.2 with ⟨e, _⟩ | ⟨g', cap', cur, e, _, _, hnc, _⟩
      · cases e
      · injection e with _ _ e
        omega
    · obtain ⟨h1, h2⟩ := pcells_at hp
      have c1 := h.cells (g := g) rfl _ _ h1
      have c2 := h.cells (g := g) rfl _ _ h2
      have e : ∀ k : Nat, (⟨g, 0, none⟩ : Addr).add k = ⟨g, 0 + k, none⟩ := by
        intro k
        unfold Addr.add
        split
        · rename_i h0; subst h0; rfl
        · rfl
      rw [e] at c1 c2
      exact ⟨c1, by rw [Nat.add_assoc]; exact c2⟩
  · have h0 : l = [] := List.eq_nil_of_length_eq_zero (by omega)
    subst h0
    rcases h.2 with ⟨rfl, _⟩ | ⟨g, cap, cur, rfl, _⟩
    · exact PartsIs.nil w base
    · exact ⟨_, cap, rfl, Nat.zero_le _, fun h => absurd h (by decide)⟩

theorem wpList_appP {W : World} {ops : Array Oper} {rest : List Oper} {o : Oper} {a : Act} {Q : Exit → Act → World → Prop} (hgd : o.guard = none) (s x : Operand)
    (ho : o.op = .call { callee := .builtin .append, args := #[s, x], argTypes := #[26, 26] })
    (base : Nat) (v : Value) (l : List (Int × Int)) (p q : Int) (hs : a.eval s = v) (hown : OwnP W base v l) (hbase : base ≤ W.heap.size)
    (hx : a.eval x = .slice (some ⟨W.heap.size, 0, none⟩) 1 1) (hl : l.length ≤ 1000000)
    (h : ∀ v' w', Hid (OwnP w' base v' (l ++ [(p, q)])) → Hid (Below base W w') → wpList Try.prog ops Q rest (a.put o.dst v') w') :
    wpList Try.prog ops Q (o :: rest) a (W.alloc (.cells #[.int .i64 p, .int .i64 q] 43)) := by
  obtain ⟨i0, hi, hz0, hz1, hz2⟩ := info_parts part_parts
  have hownA : (W.alloc (.cells #[.int .i64 p, .int .i64 q] 43)).ownsRow base 43 2 v l.length (pcells l) := World.ownsRow.alloc hown _
  refine wpList_append_own _ hgd s x 26 ho base 43 i0 (.agg #[.int .i64 0, .int .i64 0]) 2 16 Try.underlying26 hi hz0 hz1 hz2 rfl (by decide) v l.length (pcells l) hs hownA ⟨W.heap.size, 0, none⟩ 1 1 [.int .i64 p, .int .i64 q] hx rfl ?_ ?_ ?_ ?_ ?_ ?_
  · intro j u hj
    match j, hj with
    | 0, hj => simp at hj; subst hj; simp [Addr.add, World.cell?_alloc_mark]
    | 1, hj => simp at hj; subst hj; simp [Addr.add, World.cell?_alloc_mark]
  · intro u hu
    simp at hu
    rcases hu with rfl | rfl <;> rfl
  · unfold maxLen; omega
  · omega
  · simp; omega
  · intro v' w' hown' hgrow _
    refine h v' w' (hid ?_) (hid ?_)
    · unfold OwnP
      rw [pcells_app, List.length_append]
      exact hown'
    · refine below_grown ((Below.refl base W).alloc hbase _) hgrow (by simp; omega) ?_
      intro g hg
      rcases hownA.2 with ⟨rfl, _⟩ | ⟨g', cap, cur, rfl, hb, _⟩
      · simp [Value.ownBlock] at hg
      · have : g' = g := by simpa [Value.ownBlock] using hg
        omega

/-! Parts' deferred function. -/
/-- A frame of Parts: what was found lies in block g, no yes in the block behind it. -/
structure PL (w0 w : World) (v : Value) (l : List (Int × Int)) : Prop where
  box : w.heap[w0.heap.size]? = some (.cells #[v] 26 (0, 0))
  ok : w.heap[w0.heap.size + 1]? = some (.cells #[.bool false] 4 (0, 0))
  own : OwnP w (w0.heap.size + 2) v l
  below : Below w0.heap.size w0 w
/-- What Parts answers. -/
def PartsTo (o : Option (List (Int × Int))) (w : World) (e : Ending) (w' : World) : Prop :=
  (match o with
    | none => e = .returned (.tuple #[.slice none 0 0, .bool false])
    | some l => ∃ pv, e = .returned (.tuple #[pv, .bool true]) ∧ PartsIs w' w.heap.size pv l) ∧ Below w.heap.size w w'
theorem OwnP.later {w w' : World} {base : Nat} {v : Value} {l : List (Int × Int)} (h : OwnP w base v l) (hb : Below w.heap.size w w') : OwnP w' base v l :=
  World.ownsRow.kept (row := none) h ⟨hb.os, hb.tape, hb.output, hb.size, fun k hk _ => hb.block k hk⟩ (by
    cases hv : v.ownBlock with
    | none => exact .inl rfl
    | some g => exact .inr (fun e => nomatch e))
theorem PL.later {w0 w w' : World} {v : Value} {l : List (Int × Int)} (p : PL w0 w v l) (hb : Below w.heap.size w w') : PL w0 w' v l :=
  ⟨(hb.block _ (Array.getElem?_eq_some_iff.1 p.box).1).trans p.box, (hb.block _ (Array.getElem?_eq_some_iff.1 p.ok).1).trans p.ok, p.own.later hb, p.below.trans (hb.mono p.below.size)⟩
/-- What is appended is laid in the block. -/
theorem PL.next {w0 w w' : World} {v v' : Value} {l l' : List (Int × Int)} (p : PL w0 w v l) (ho : OwnP w' (w0.heap.size + 2) v' l') (hb : Below (w0.heap.size + 2) w w') : PL w0 (w'.setCell ⟨w0.heap.size, 0, none⟩ v') v' l' := by
  have hx := (hb.block w0.heap.size (by omega)).trans p.box
  have hy := (hb.block (w0.heap.size + 1) (by omega)).trans p.ok
  refine ⟨?_, (heap_setCell_other w' ⟨w0.heap.size, 0, none⟩ _ v' (by simp)).trans hy, ownsRow_setCell_below ho (by simp) _, (p.below.trans (hb.mono (by omega))).setCell (p := ⟨w0.heap.size, 0, none⟩) (Nat.le_refl _) v'⟩
  have := heap_setCell_same w' _ 0 _ _ v' hx
  simpa using this

/-- A part's variable, behind all that was there. -/
structure PS (wr W : World) (p q : Int) : Prop where
  box : W.heap[wr.heap.size]? = some (.cells #[.int .i64 p, .int .i64 q] 43 (0, 0))
  below : Below wr.heap.size wr W
theorem PS.new (wr : World) : PS wr (wr.alloc (.cells #[.int .i64 0, .int .i64 0] 43)) 0 0 := ⟨heap_alloc_new wr _, (Below.refl _ wr).alloc (Nat.le_refl _) _⟩
theorem PS.later {wr W W' : World} {p q : Int} (h : PS wr W p q) (hb : Below W.heap.size W W') : PS wr W' p q :=
  ⟨(hb.block _ (Array.getElem?_eq_some_iff.1 h.box).1).trans h.box, h.below.trans (hb.mono h.below.size)⟩
theorem PS.cell0 {wr W : World} {p q : Int} (h : PS wr W p q) : W.cell? ⟨wr.heap.size, 0, none⟩ = some (.int .i64 p) := by rw [cell_of_row _ _ 0 _ _ _ h.box]; rfl
theorem PS.cell1 {wr W : World} {p q : Int} (h : PS wr W p q) : W.cell? ⟨wr.heap.size, 1, none⟩ = some (.int .i64 q) := by rw [cell_of_row _ _ 1 _ _ _ h.box]; rfl
theorem PS.frozen {wr W : World} {p q : Int} (h : PS wr W p q) (i : Nat) : W.frozen? ⟨wr.heap.size, i, none⟩ = false := frozen_of_row _ _ i _ _ h.box
theorem PS.set0 {wr W : World} {p q : Int} (h : PS wr W p q) (x : Int) : PS wr (W.setCell ⟨wr.heap.size, 0, none⟩ (.int .i64 x)) x q :=
  ⟨by have := heap_setCell_same W _ 0 _ _ (.int .i64 x) h.box; simpa using this, h.below.setCell (p := ⟨wr.heap.size, 0, none⟩) (Nat.le_refl _) _⟩
theorem PS.set1 {wr W : World} {p q : Int} (h : PS wr W p q) (x : Int) : PS wr (W.setCell ⟨wr.heap.size, 1, none⟩ (.int .i64 x)) p x :=
  ⟨by have := heap_setCell_same W _ 1 _ _ (.int .i64 x) h.box; simpa using this, h.below.setCell (p := ⟨wr.heap.size, 1, none⟩) (Nat.le_refl _) _⟩
end Go.Proofs.Ytcedcfagfklohaa.Hd
