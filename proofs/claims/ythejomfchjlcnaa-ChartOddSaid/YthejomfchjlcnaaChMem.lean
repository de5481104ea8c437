/-
  Words for memory: rows of spans, boxes of spans, what is appended.
-/
import Derived.Test.YthejomfchjlcnaaMedMem
import Derived.Test.YthejomfchjlcnaaChMath
import Derived.Lib.Hide
import Derived.IntWalk
import Derived.LoopTactic
import Derived.LoopN
import Derived.Tactics
set_option linter.unusedVariables false
set_option linter.unusedSimpArgs false
namespace Go.Proofs.Ythejomfchjlcnaa
open Go.RowKit Go.Lib

def sval (p : C.Sp) : Value := .agg #[.int .i64 p.1, .int .i64 p.2.1, .int .i64 p.2.2]
def srow (p : C.Sp) : List Value := [.int .i64 p.1, .int .i64 p.2.1, .int .i64 p.2.2]
def scells (l : List C.Sp) : List Value := l.flatMap srow
theorem scells_app (a b : List C.Sp) : scells (a ++ b) = scells a ++ scells b := by simp [scells]
theorem scells_one (l : List C.Sp) : ∀ v ∈ scells l, v.oneCell' = true := by
  intro v hv
  unfold scells at hv
  rw [List.mem_flatMap] at hv
  obtain ⟨p, _, hv⟩ := hv
  simp [srow] at hv
  rcases hv with rfl | rfl | rfl <;> rfl
theorem scells_len (l : List C.Sp) : (scells l).length = l.length * 3 := by
  induction l with
  | nil => rfl
  | cons p l ih => unfold scells at ih ⊢; rw [List.flatMap_cons, List.length_append, ih, List.length_cons]; simp [srow]; omega
theorem scells_at : ∀ {l : List C.Sp} {j : Nat} {p : C.Sp}, l[j]? = some p → (scells l)[3 * j]? = some (.int .i64 p.1) ∧ (scells l)[3 * j + 1]? = some (.int .i64 p.2.1) ∧ (scells l)[3 * j + 2]? = some (.int .i64 p.2.2)
  | [], j, p, h => by simp at h
  | q :: l, 0, p, h => by
    simp at h
    subst h
    exact ⟨rfl, rfl, rfl⟩
  | q :: l, j + 1, p, h => by
    have ih := scells_at (l := l) (j := j) (p := p) (by simpa using h)
    have e : scells (q :: l) = .int .i64 q.1 :: .int .i64 q.2.1 :: .int .i64 q.2.2 :: scells l := rfl
    rw [e, show 3 * (j + 1) = 3 * j + 1 + 1 + 1 by omega]
    simp only [List.getElem?_cons_succ, Nat.add_assoc, Nat.reduceAdd] at ih ⊢
    exact ih
theorem scells_set : ∀ (l : List C.Sp) (j : Nat) (p : C.Sp), j < l.length → scells (l.set j p) = (((scells l).set (3 * j) (.int .i64 p.1)).set (3 * j + 1) (.int .i64 p.2.1)).set (3 * j + 2) (.int .i64 p.2.2)
  | [], j, p, h => by simp at h
  | q :: l, 0, p, h => rfl
  | q :: l, j + 1, p, h => by
    have ih := scells_set l j p (by simpa using h)
    have e : ∀ (q : C.Sp) (l : List C.Sp), scells (q :: l) = .int .i64 q.1 :: .int .i64 q.2.1 :: .int .i64 q.2.2 :: scells l := fun _ _ => rfl
    rw [List.set_cons_succ, e, e, ih, show 3 * (j + 1) = 3 * j + 1 + 1 + 1 by omega]
    rw [show 3 * j + 1 + 1 + 1 + 1 = (3 * j + 1) + 1 + 1 + 1 by omega, show 3 * j + 1 + 1 + 1 + 2 = (3 * j + 2) + 1 + 1 + 1 by omega]
    simp only [List.set_cons_succ]

/-- The slice '.slice A n c' reads as the spans l, in a block below B. -/
def RdS (w : World) (B : Nat) (A : Option Addr) (n : Nat) (l : List C.Sp) : Prop :=
  l.length = n ∧ (0 < n → ∃ b off, A = some ⟨b, off, none⟩ ∧ b < B ∧ ∀ (j : Nat) (p : C.Sp), l[j]? = some p → w.cell? ⟨b, off + j * 3, none⟩ = some (.int .i64 p.1) ∧ w.cell? ⟨b, off + j * 3 + 1, none⟩ = some (.int .i64 p.2.1) ∧ w.cell? ⟨b, off + j * 3 + 2, none⟩ = some (.int .i64 p.2.2))
section
variable {w w' : World} {B B' n : Nat} {A : Option Addr} {l : List C.Sp}
theorem RdS.len (h : RdS w B A n l) : l.length = n := h.1
theorem RdS.none_ : RdS w B A 0 [] := ⟨rfl, fun h => absurd h (by omega)⟩
theorem RdS.at_ {k : Nat} (h : RdS w B A n l) (hk : k < n) : ∃ b off p, A = some ⟨b, off, none⟩ ∧ b < B ∧ l[k]? = some p ∧ w.cell? ⟨b, off + k * 3, none⟩ = some (.int .i64 p.1) ∧ w.cell? ⟨b, off + k * 3 + 1, none⟩ = some (.int .i64 p.2.1) ∧ w.cell? ⟨b, off + k * 3 + 2, none⟩ = some (.int .i64 p.2.2) := by
  obtain ⟨b, off, e, hb, hc⟩ := h.2 (by omega)
  have hl : k < l.length := by have := h.1; omega
  have hz : l[k]? = some l[k] := List.getElem?_eq_getElem hl
  exact ⟨b, off, l[k], e, hb, hz, hc k _ hz⟩
theorem RdS.keep (h : RdS w B A n l) (hk : ∀ p : Addr, p.block < B → w'.cell? p = w.cell? p) : RdS w' B A n l :=
  ⟨h.1, fun hn => by
    obtain ⟨b, off, e, hb, hc⟩ := h.2 hn
    exact ⟨b, off, e, hb, fun j p hp => ⟨(hk _ hb).trans (hc j p hp).1, (hk _ hb).trans (hc j p hp).2.1, (hk _ hb).trans (hc j p hp).2.2⟩⟩⟩
theorem RdS.more (h : RdS w B A n l) (hB : B ≤ B') : RdS w B' A n l :=
  ⟨h.1, fun hn => by
    obtain ⟨b, off, e, hb, hc⟩ := h.2 hn
    exact ⟨b, off, e, by omega, hc⟩⟩
theorem RdS.below (h : RdS w B A n l) (hb : Below B w w') : RdS w' B A n l := h.keep fun _ hp => hb.cell hp
theorem RdS.alloc (h : RdS w B A n l) (hB : B ≤ w.heap.size) (o : Obj) : RdS (w.alloc o) B A n l := h.keep fun p hp => World.cell?_alloc_lt w o p (by omega)
end
/-- A row of spans of the call's own. -/
def OwnS (w : World) (base : Nat) (v : Value) (l : List C.Sp) : Prop := w.ownsRow base 29 3 v l.length (scells l)
theorem span_parts : (Try.prog.info? 29).map (fun i => (i.zero, i.size, i.bytes)) = some (some (.agg #[.int .i64 0, .int .i64 0, .int .i64 0]), 3, 24) := by kernel_rfl
theorem OwnS.nil (w : World) (base : Nat) : OwnS w base (.slice none 0 0) [] := World.ownsRow_nil _ _ _ _
theorem own_room3 {w : World} {base n : Nat} {e : TypeId} {v : Value} {xs : List Value} (h : w.ownsRow base e 3 v n xs) : ∃ A c, v = .slice A n c ∧ n ≤ c ∧ c ≤ maxLen := by
  rcases h.2 with ⟨hv, h0⟩ | ⟨g, cap, cur, hv, _, _, hnc, hcm, _⟩
  · subst h0; exact ⟨none, 0, hv, Nat.le_refl _, Nat.zero_le _⟩
  · exact ⟨_, cap, hv, hnc, hcm⟩
theorem OwnS.rd {w : World} {base : Nat} {v : Value} {l : List C.Sp} (h : OwnS w base v l) : ∃ A c, v = .slice A l.length c ∧ RdS w w.heap.size A l.length l ∧ l.length ≤ c ∧ c ≤ maxLen := by
  obtain ⟨A, c, rfl, h1, h2⟩ := own_room3 h
  refine ⟨A, c, rfl, ⟨rfl, fun hl => ?_⟩, h1, h2⟩
  obtain ⟨g, cap, hv, _, hlt⟩ := World.ownsRow.form h hl
  have hA : A = some ⟨g, 0, none⟩ := by injection hv
  subst hA
  refine ⟨g, 0, rfl, hlt, fun j p hp => ?_⟩
  obtain ⟨h1, h2, h3⟩ := scells_at hp
  have c1 := World.ownsRow.cells h (g := g) rfl _ _ h1
  have c2 := World.ownsRow.cells h (g := g) rfl _ _ h2
  have c3 := World.ownsRow.cells h (g := g) rfl _ _ h3
  have e : ∀ k : Nat, (⟨g, 0, none⟩ : Addr).add k = ⟨g, 0 + k, none⟩ := by
    intro k
    unfold Addr.add
    split
    · rename_i h0; subst h0; rfl
    · rfl
  rw [e, Nat.mul_comm] at c1 c2 c3
  exact ⟨c1, by rw [Nat.add_assoc]; exact c2, by rw [Nat.add_assoc]; exact c3⟩
section
variable {w w' : World} {b : Nat} {v : Value} {l : List C.Sp}
theorem OwnS.grown (h : OwnS w b v l) {row : Option Nat} (hg : w.grownBy w' row) (hr : v.ownBlock = none ∨ v.ownBlock ≠ row) : OwnS w' b v l := World.ownsRow.kept h hg hr
theorem grown_of_below {w w' : World} (h : Below w.heap.size w w') (row : Option Nat) : w.grownBy w' row := ⟨h.os, h.tape, h.output, h.size, fun k hk _ => h.block k hk⟩
theorem OwnS.later (h : OwnS w b v l) (hb : Below w.heap.size w w') : OwnS w' b v l := by
  cases hv : v.ownBlock with
  | none => exact h.grown (grown_of_below hb none) (.inl hv)
  | some g => exact h.grown (grown_of_below hb none) (.inr (by rw [hv]; simp))
theorem ownsRow_lower {w : World} {base base' : Nat} {e : TypeId} {size : Nat} {v : Value} {n : Nat} {xs : List Value} (h : w.ownsRow base e size v n xs) (hb : base' ≤ base) : w.ownsRow base' e size v n xs := by
  refine ⟨h.1, ?_⟩
  rcases h.2 with h' | ⟨g, cap, cur, h1, h2, h3⟩
  · exact .inl h'
  · exact .inr ⟨g, cap, cur, h1, Nat.le_trans hb h2, h3⟩
theorem OwnS.lower {b' : Nat} (h : OwnS w b v l) (hb : b' ≤ b) : OwnS w b' v l := ownsRow_lower h hb
theorem OwnS.alloc (h : OwnS w b v l) (o : Obj) : OwnS (w.alloc o) b v l := World.ownsRow.alloc h o
theorem OwnS.lt {g : Nat} (h : OwnS w b v l) (hv : v.ownBlock = some g) : b ≤ g ∧ g < w.heap.size := World.ownsRow.lt h g hv
theorem OwnS.set (h : OwnS w b v l) {p : Addr} (hp : p.block < b) (u : Value) : OwnS (w.setCell p u) b v l := ownsRow_setCell_below h hp u
theorem OwnI.grown {zs : List Int} (h : OwnI w b v zs) {row : Option Nat} (hg : w.grownBy w' row) (hr : v.ownBlock = none ∨ v.ownBlock ≠ row) : OwnI w' b v zs := World.ownsRow.kept h hg hr
theorem OwnI.later {zs : List Int} (h : OwnI w b v zs) (hb : Below w.heap.size w w') : OwnI w' b v zs := by
  cases hv : v.ownBlock with
  | none => exact h.grown (grown_of_below hb none) (.inl hv)
  | some g => exact h.grown (grown_of_below hb none) (.inr (by rw [hv]; simp))
end
/-- A cell of an own row is set: the row with that span another one. -/
theorem OwnS.stored {w : World} {base g n c : Nat} {l : List C.Sp} (h : OwnS w base (.slice (some ⟨g, 0, none⟩) n c) l) (k : Nat) (p : C.Sp) (hk : l[k]? = some p) :
    (∀ z, OwnS (w.setCell ⟨g, 3 * k, none⟩ (.int .i64 z)) base (.slice (some ⟨g, 0, none⟩) n c) (l.set k (z, p.2))) ∧
    (∀ z, OwnS (w.setCell ⟨g, 3 * k + 1, none⟩ (.int .i64 z)) base (.slice (some ⟨g, 0, none⟩) n c) (l.set k (p.1, z, p.2.2))) ∧
    (∀ z, OwnS (w.setCell ⟨g, 3 * k + 2, none⟩ (.int .i64 z)) base (.slice (some ⟨g, 0, none⟩) n c) (l.set k (p.1, p.2.1, z))) := by
  have hn : n = l.length := by
    rcases h.2 with ⟨h', _⟩ | ⟨g', cap', cur, h', _⟩
    · cases h'
    · cases h'; rfl
  subst hn
  obtain ⟨hi, _⟩ := List.getElem?_eq_some_iff.1 hk
  obtain ⟨a0, a1, a2⟩ := scells_at hk
  have st := fun j u => (World.ownsRow.stored (g := g) (n := l.length) (cap := c) h j u).1
  have same : ∀ (xs : List Value) (j : Nat) (u : Value), xs[j]? = some u → xs.set j u = xs := by
    intro xs j u hu
    obtain ⟨hj, rfl⟩ := List.getElem?_eq_some_iff.1 hu
    exact List.set_getElem_self hj
  have len := scells_len l
  refine ⟨fun z => ?_, fun z => ?_, fun z => ?_⟩
  all_goals
    unfold OwnS
    rw [List.length_set, scells_set _ _ _ hi]
  · rw [same _ (3 * k + 1) _ (by rw [List.getElem?_set_ne (by omega)]; exact a1), same _ (3 * k + 2) _ (by rw [List.getElem?_set_ne (by omega)]; exact a2)]
    exact st _ _
  · rw [same _ (3 * k) _ a0, same _ (3 * k + 2) _ (by rw [List.getElem?_set_ne (by omega)]; exact a2)]
    exact st _ _
  · rw [same _ (3 * k) _ a0, same _ (3 * k + 1) _ a1]
    exact st _ _

/-- A box of a span. -/
def BoxS (w : World) (g : Nat) (p : C.Sp) : Prop := w.heap[g]? = some (.cells #[.int .i64 p.1, .int .i64 p.2.1, .int .i64 p.2.2] 29 (0, 0))
section
variable {w w' : World} {g : Nat} {p : C.Sp}
theorem BoxS.new (w : World) (p : C.Sp) : BoxS (w.alloc (.cells #[.int .i64 p.1, .int .i64 p.2.1, .int .i64 p.2.2] 29)) w.heap.size p := heap_alloc_new w _
theorem BoxS.lt (h : BoxS w g p) : g < w.heap.size := (Array.getElem?_eq_some_iff.1 h).1
theorem BoxS.cell0 (h : BoxS w g p) : w.cell? ⟨g, 0, none⟩ = some (.int .i64 p.1) := by rw [cell_of_row _ _ _ _ _ _ h]; rfl
theorem BoxS.cell1 (h : BoxS w g p) : w.cell? ⟨g, 1, none⟩ = some (.int .i64 p.2.1) := by rw [cell_of_row _ _ _ _ _ _ h]; rfl
theorem BoxS.cell2 (h : BoxS w g p) : w.cell? ⟨g, 2, none⟩ = some (.int .i64 p.2.2) := by rw [cell_of_row _ _ _ _ _ _ h]; rfl
theorem BoxS.frozen (h : BoxS w g p) (i : Nat) : w.frozen? ⟨g, i, none⟩ = false := frozen_of_row _ _ i _ _ h
theorem BoxS.of_block (h : BoxS w g p) (e : w'.heap[g]? = w.heap[g]?) : BoxS w' g p := e.trans h
end

/-! What is appended: spans that lie somewhere, behind an own row. -/
theorem RdS.reads {w : World} {B n : Nat} {A : Option Addr} {l : List C.Sp} (h : RdS w B A n l) : Reads w B 3 A n (scells l) := by
  refine ⟨by rw [scells_len, h.len], fun hn => ?_⟩
  obtain ⟨b, off, e, hb, hc⟩ := h.2 hn
  refine ⟨_, e, hb, fun j u hj => ?_⟩
  have hj' : j < l.length * 3 := by rw [← scells_len]; exact (List.getElem?_eq_some_iff.1 hj).1
  have hq : j / 3 < l.length := by omega
  obtain ⟨a0, a1, a2⟩ := scells_at (List.getElem?_eq_getElem hq)
  obtain ⟨c0, c1, c2⟩ := hc _ _ (List.getElem?_eq_getElem hq)
  have ad : (⟨b, off, none⟩ : Addr).add j = ⟨b, off + j, none⟩ := by
    unfold Addr.add
    split
    · rename_i h0; subst h0; rfl
    · rfl
  rw [ad]
  rcases (show j = 3 * (j / 3) ∨ j = 3 * (j / 3) + 1 ∨ j = 3 * (j / 3) + 2 by omega) with h3 | h3 | h3
  · rw [show off + j = off + j / 3 * 3 by omega, c0, ← hj, ← a0, ← h3]
  · rw [show off + j = off + j / 3 * 3 + 1 by omega, c1, ← hj, ← a1, ← h3]
  · rw [show off + j = off + j / 3 * 3 + 2 by omega, c2, ← hj, ← a2, ← h3]
theorem run_appS (w : World) (base : Nat) (ty : TypeId) (v : Value) (l : List C.Sp) (hown : OwnS w base v l) (B : Nat) (A : Option Addr) (m c : Nat) (news : List C.Sp) (hr : RdS w B A m news) (h63 : l.length + m ≤ 1000000) (hbase : base ≤ w.heap.size) :
    ∃ v' w', (Builtin.append_ #[24, 24] ty #[v, .slice A m c]).run Try.prog w = .ok v' w' ∧ OwnS w' base v' (l ++ news) ∧ w.grownBy w' v.ownBlock ∧ (v'.ownBlock = v.ownBlock ∨ v'.ownBlock = some w.heap.size) := by
  obtain ⟨i0, hi, hz0, hz1, hz2⟩ := info_parts span_parts
  obtain ⟨v', w', h1, h2, h3, h4⟩ := run_append_any (P := Try.prog) w base 24 ty 29 i0 (.agg #[.int .i64 0, .int .i64 0, .int .i64 0]) 3 24 Try.underlying24 hi hz0 hz1 hz2 rfl (by decide) v l.length (scells l) hown B A m c (scells news) hr.reads (scells_one _) (by unfold maxLen; omega) (by omega) hbase
  refine ⟨v', w', h1, ?_, h3, h4⟩
  unfold OwnS
  rw [List.length_append, scells_app, hr.len]
  exact h2
theorem wpList_appS {ops : Array Oper} {rest : List Oper} {o : Oper} {a : Act} {w : World} {Q : Exit → Act → World → Prop} (hgd : o.guard = none) (s x : Operand)
    (ho : o.op = .call { callee := .builtin .append, args := #[s, x], argTypes := #[24, 24] }) (base : Nat) (v : Value) (l : List C.Sp) (hs : a.eval s = v) (hown : OwnS w base v l)
    (B : Nat) (A : Option Addr) (m c : Nat) (news : List C.Sp) (hx : a.eval x = .slice A m c) (hr : RdS w B A m news) (h63 : l.length + m ≤ 1000000) (hbase : base ≤ w.heap.size)
    (h : ∀ v' w', OwnS w' base v' (l ++ news) → w.grownBy w' v.ownBlock → (v'.ownBlock = v.ownBlock ∨ v'.ownBlock = some w.heap.size) → wpList Try.prog ops Q rest (a.put o.dst v') w') : wpList Try.prog ops Q (o :: rest) a w := by
  obtain ⟨v', w', hrun, h2, h3, h4⟩ := run_appS w base o.type v l hown B A m c news hr h63 hbase
  refine wpList_plain hgd fun K hK => ?_
  unfold Oper.wp execOp
  simp only [ho, resolve, invoke, builtin, Sem.run_bind, Sem.run_pure, Result.andThen_ok, List.map_toArray, List.map_cons, List.map_nil, hs, hx, hrun]
  exact hK _ _ (h v' w' h2 h3 h4)
end Go.Proofs.Ythejomfchjlcnaa
