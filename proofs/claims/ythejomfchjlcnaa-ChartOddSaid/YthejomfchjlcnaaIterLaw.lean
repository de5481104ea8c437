/-
  A range over a function whose iterator keeps things of its own in cells: the contract of such an iterator, and the law of the statement that ranges over it. Plain words of this proof: no program is spoken of.
-/
import Derived.RangeFuncNested
import Derived.RangeFuncBound
import Derived.RangeFuncCalls
import Derived.RangeFuncLeaves
import Derived.Shelf.Abstract
import Derived.Shelf.RegionOpen
import Derived.WalkKit
import Derived.OwnWalkIn
import Derived.TacticsInMore
import Derived.LoopNIn
import Derived.LoopIn
set_option linter.unusedVariables false
set_option linter.unusedSimpArgs false
namespace Go.Proofs.Ythejomfchjlcnaa
open Go.RowKit Go.Shelf

/-- Nothing but the blocks of 'own' has turned; there may be more blocks. -/
structure Turned (own : Nat → Prop) (A B : World) : Prop where
  os : B.os = A.os
  tape : B.tape = A.tape
  output : B.output = A.output
  size : A.heap.size ≤ B.heap.size
  block : ∀ k, k < A.heap.size → ¬ own k → B.heap[k]? = A.heap[k]?

section
variable {own own' : Nat → Prop} {A B C : World}
theorem Turned.refl (own : Nat → Prop) (A : World) : Turned own A A := ⟨rfl, rfl, rfl, Nat.le_refl _, fun _ _ _ => rfl⟩
theorem Turned.trans (h : Turned own A B) (k : Turned own B C) : Turned own A C :=
  ⟨k.os.trans h.os, k.tape.trans h.tape, k.output.trans h.output, Nat.le_trans h.size k.size, fun i hi hn => (k.block i (Nat.lt_of_lt_of_le hi h.size) hn).trans (h.block i hi hn)⟩
theorem Turned.mono (h : Turned own A B) (hm : ∀ k, own k → own' k) : Turned own' A B :=
  ⟨h.os, h.tape, h.output, h.size, fun i hi hn => h.block i hi (fun ho => hn (hm i ho))⟩
theorem Turned.grown {row : Option Nat} (hg : A.grownBy B row) (hr : ∀ r, row = some r → own r) : Turned own A B :=
  ⟨hg.os, hg.tape, hg.output, hg.size, fun i hi hn => hg.block i hi (fun e => hn (hr i e.symm))⟩
theorem Turned.alloc (own : Nat → Prop) (A : World) (o : Obj) : Turned own A (A.alloc o) := .grown (World.grownBy_alloc A o none) (fun _ e => by cases e)
theorem Turned.putObj {k : Nat} (hk : own k) (A : World) (o : Obj) : Turned own A (A.putObj k o) := .grown (grownBy_putObj' A k o) (fun _ e => by cases e; exact hk)
theorem Turned.setCell {p : Addr} (hk : own p.block) (A : World) (v : Value) : Turned own A (A.setCell p v) :=
  ⟨rfl, rfl, rfl, by simp [World.setCell], fun k _ hn => Below.heap_setCell A p v k (fun e => hn (e ▸ hk))⟩
theorem Turned.drew (own : Nat → Prop) (A : World) : Turned own A A.drew := ⟨rfl, rfl, rfl, Nat.le_refl _, fun _ _ _ => rfl⟩
theorem Turned.drewN (own : Nat → Prop) (A : World) (n : Nat) : Turned own A (A.drewN n) := ⟨rfl, rfl, rfl, Nat.le_refl _, fun _ _ _ => rfl⟩
theorem Turned.below {n : Nat} (h : Turned own A B) (hn : ∀ k, own k → n ≤ k) (hs : n ≤ A.heap.size) : Below n A B :=
  ⟨h.os, h.tape, h.output, h.size, fun i hi => h.block i (by omega) (fun ho => by have := hn i ho; omega)⟩
theorem Turned.of_below {n : Nat} (h : Below n A B) (hn : ∀ k, k < A.heap.size → n ≤ k → own k) : Turned own A B :=
  ⟨h.os, h.tape, h.output, h.size, fun i hi ho => h.block i (by have := hn i hi; rcases Nat.lt_or_ge i n with hl | hl; exact hl; exact absurd (this hl) ho)⟩
theorem Turned.below_of {n : Nat} (h : Turned own A B) {W : World} (hb : Below n W A) (hn : ∀ k, k < n → ¬ own k) (hs : n ≤ A.heap.size) : Below n W B :=
  hb.trans ⟨h.os, h.tape, h.output, h.size, fun i hi => h.block i (by omega) (hn i hi)⟩
theorem Turned.cell (h : Turned own A B) {p : Addr} {v : Value} (hc : A.cell? p = some v) (hn : ¬ own p.block) : B.cell? p = some v := by
  have hlt : p.block < A.heap.size := World.block_lt_of_cell? _ _ hc
  exact (World.cell?_of_block (h.block _ hlt hn)).trans hc
end

/-- What an iterator turns: blocks that it was made with, and the first c ones that it lays. -/
def ownOf (pv : Nat → Prop) (c : Nat) (W : World) (k : Nat) : Prop := pv k ∨ (W.heap.size ≤ k ∧ k < W.heap.size + c)

/-- What a round leaves: the iterator's blocks as they were. -/
structure Spared (own : Nat → Prop) (A B : World) : Prop where
  size : A.heap.size ≤ B.heap.size
  block : ∀ k, own k → k < A.heap.size → B.heap[k]? = A.heap[k]?
theorem Spared.refl (own : Nat → Prop) (A : World) : Spared own A A := ⟨Nat.le_refl _, fun _ _ _ => rfl⟩
theorem Spared.trans {own : Nat → Prop} {A B C : World} (h : Spared own A B) (k : Spared own B C) : Spared own A C :=
  ⟨Nat.le_trans h.size k.size, fun i ho hi => (k.block i ho (Nat.lt_of_lt_of_le hi h.size)).trans (h.block i ho hi)⟩
theorem Spared.mono {own own' : Nat → Prop} {A B : World} (h : Spared own A B) (hm : ∀ k, own' k → own k) : Spared own' A B := ⟨h.size, fun i ho hi => h.block i (hm i ho) hi⟩
theorem Spared.grown {own : Nat → Prop} {A B : World} {row : Option Nat} (hg : A.grownBy B row) (hr : ∀ r, row = some r → ¬ own r) : Spared own A B :=
  ⟨hg.size, fun i ho hi => hg.block i hi (fun e => hr i e.symm ho)⟩
theorem Spared.turned {own own' : Nat → Prop} {A B : World} (h : Turned own' A B) (hr : ∀ k, own' k → ¬ own k) : Spared own A B :=
  ⟨h.size, fun i ho hi => h.block i hi (fun e => hr i e ho)⟩
theorem Spared.below {own : Nat → Prop} {n : Nat} {A B : World} (h : Below n A B) (hr : ∀ k, own k → k < n) : Spared own A B :=
  ⟨h.size, fun i ho _ => h.block i (hr i ho)⟩
theorem Spared.cell {own : Nat → Prop} {A B : World} (h : Spared own A B) {p : Addr} {v : Value} (hc : A.cell? p = some v) (hn : own p.block) : B.cell? p = some v := by
  have hlt : p.block < A.heap.size := World.block_lt_of_cell? _ _ hc
  exact (World.cell?_of_block (h.block _ hn hlt)).trans hc

/-- An iterator: for whatever holds between two rounds, if it abides what the iterator does and a round goes on: so it is behind all of them, or behind those that came till one stopped. -/
def Iter {α : Type} (P : Program) (g : Nat) (lb : Array Value) (encs : α → Array Value) (pv : Nat → Prop) (c : Nat) (S Sp R : List α → Prop) (ok : World → Prop) : Prop :=
  ∀ (n l : Nat) (J Jx : List α → World → Prop) (W : World), ok W →
    (∀ s A B, J s A → Turned (ownOf pv c W) A B → J s B) → (∀ s A B, Jx s A → Turned (ownOf pv c W) A B → Jx s B) →
    (∀ m pre x W1, J pre W1 → W.heap.size + c ≤ W1.heap.size → R (pre ++ [x]) → YieldAt Fence.wide m P l (encs x) W1 fun e W' =>
      Spared (ownOf pv c W) W1 W' ∧ ((e = .returned (.bool true) ∧ J (pre ++ [x]) W') ∨ (e = .returned (.bool false) ∧ Jx (pre ++ [x]) W'))) →
    J [] W →
    CallsIn Fence.wide n P g (#[.func (.yield l) #[] #[]] ++ lb) W fun e W' => (∃ v, e = .returned v) ∧ ((∃ xs, S xs ∧ J xs W') ∨ (∃ pre, Sp pre ∧ Jx pre W'))

/-- How a round may be left. -/
def roundEnd {α : Type} (own : Nat → Prop) (I : List α → World → Prop) (Ix : Code → List α → World → Prop) (xs : List α) (W : World) : Exit → Act → World → Prop
  | .normal, _, W' => Spared own W W' ∧ I xs W'
  | .ret, _, W' => Spared own W W' ∧ Ix .ret xs W'
  | .exit id, _, W' => Spared own W W' ∧ Ix (.exit id) xs W'
  | .goto t, _, W' => Spared own W W' ∧ Ix (.goto t) xs W'
  | .panic _, _, _ => False
  | .outgrown, _, _ => False

variable {P : Program}
/-- The law of the statement. -/
theorem wpIn_range {α : Type} {g : Operand} {ps : Array Tmp} {assign body : Code} {Q : Exit → Act → World → Prop} {a : Act} {w : World} {n : Nat}
    {gf : Nat} {lb : Array Value} (hg : a.eval g = .func (.func gf) #[] lb) (eg : ∀ args w, (callFunc gf args).run P w = .ok (.enter gf args) w)
    {encs : α → Array Value} {pv : Nat → Prop} {c : Nat} {S Sp R : List α → Prop} {ok : World → Prop} (hseq : Iter P gf lb encs pv c S Sp R ok)
    (hok : ∀ o1 o2, ok ((w.alloc o1).alloc o2)) (hpv : ∀ k, pv k → k < w.heap.size) (hps : ∀ x, (encs x).size = ps.size)
    (I : List α → World → Prop) (Ix : Code → List α → World → Prop) (hI : ∀ s A B, I s A → Turned (ownOf pv (c + 2) w) A B → I s B) (hIx : ∀ j s A B, Ix j s A → Turned (ownOf pv (c + 2) w) A B → Ix j s B)
    (h0 : I [] w) (a₁ : α → Act)
    (hassign : ∀ (l m : Nat) (x : α) (W : World) (K : Act → World → Prop), K (a₁ x) W →
      assign.wpIn (Fence.wide.inRound l) m P (Exit.then K (fun _ _ _ => False)) { tmps := (ps.zip (encs x)).foldl (fun t (p, v) => t.setIfInBounds p v) a.tmps, defers := [] } W)
    (hbody : ∀ (l m : Nat) (pre : List α) (x : α) (W : World), I pre W → w.heap.size + (c + 2) ≤ W.heap.size → R (pre ++ [x]) → body.wpIn (Fence.wide.inRound l) m P (roundEnd (ownOf pv (c + 2) w) I Ix (pre ++ [x]) W) (a₁ x) W)
    (hdone : ∀ (xs : List α) (W : World), S xs → I xs W → w.heap.size + 2 ≤ W.heap.size → W.heap[w.heap.size]? = some (.deferred (some [])) → Q .normal { a with defers := { target := .collected w.heap.size, args := #[] } :: a.defers } W)
    (hstop : ∀ (j : Code) (pre : List α) (W : World), Sp pre → Ix j pre W → w.heap.size + 2 ≤ W.heap.size → W.heap[w.heap.size]? = some (.deferred (some [])) → j.wpIn Fence.wide n P Q { a with defers := { target := .collected w.heap.size, args := #[] } :: a.defers } W) :
    (Code.rangeFunc g ps assign body).wpIn Fence.wide n P Q a w := by
  refine wpIn_rangeFunc ?_
  intro fn hfn
  rw [show Fence.wide.round = none from rfl]
  obtain ⟨rec, hrec⟩ : ∃ rec : LoopState → Option Code → Loop, rec = fun st pe => { state := st, pending := pe, fn, tmps := a.tmps, params := ps, assign, body, defers := w.heap.size } := ⟨_, rfl⟩
  obtain ⟨W1, hW1⟩ : ∃ W1, (w.alloc (.deferred (some []))).alloc (.loop (rec .ready none)) = W1 := ⟨_, rfl⟩
  have hs1 : W1.heap.size = w.heap.size + 2 := by rw [← hW1]; simp
  have hL1 : W1.heap[w.heap.size + 1]? = some (.loop (rec .ready none)) := by
    rw [← hW1]; have := World.alloc_heap_new (w.alloc (.deferred (some []))) (.loop (rec .ready none)); rwa [World.size_alloc] at this
  have hK1 : W1.heap[w.heap.size]? = some (.deferred (some [])) := by
    rw [← hW1]; exact (Below.heap_alloc _ _ _ (by simp)).trans (World.alloc_heap_new w _)
  have hI1 : I [] W1 := by rw [← hW1]; exact hI _ _ _ (hI _ _ _ h0 (Turned.alloc _ _ _)) (Turned.alloc _ _ _)
  have hown : ∀ k, ownOf pv c W1 k → ownOf pv (c + 2) w k := fun k hk => by
    rcases hk with hk | hk
    · exact .inl hk
    · exact .inr ⟨by omega, by omega⟩
  have hnL : ¬ ownOf pv c W1 (w.heap.size + 1) := fun hk => by
    rcases hk with hk | hk
    · have := hpv _ hk; omega
    · omega
  have hnK : ¬ ownOf pv c W1 w.heap.size := fun hk => by
    rcases hk with hk | hk
    · have := hpv _ hk; omega
    · omega
  have hoL : ownOf pv (c + 2) w (w.heap.size + 1) := .inr ⟨by omega, by omega⟩
  have hoK : ownOf pv (c + 2) w w.heap.size := .inr ⟨by omega, by omega⟩
  refine ⟨w.heap.size + 1, [{ target := .collected w.heap.size, args := #[] }], W1, { target := .fn (.func gf) lb, args := #[.func (.yield (w.heap.size + 1)) #[] #[]] }, W1, gf,
    #[.func (.yield (w.heap.size + 1)) #[] #[]] ++ lb, W1, ?_, ?_, ?_, ?_, fun h => by simp [Fence.wide] at h, ?_⟩
  · rw [← hW1, hrec]; exact run_enterLoop_outer _ _ _ _ _
  · simp only [resolve, hg]
    simp [go_sem]
  · intro f' hf'; trivial
  · simp [invoke, go_sem, eg]
  · refine (hseq (n - 1) (w.heap.size + 1)
      (fun pre W => I pre W ∧ W.heap[w.heap.size + 1]? = some (.loop (rec .ready none)) ∧ W.heap[w.heap.size]? = some (.deferred (some [])))
      (fun pre W => ∃ j, Ix j pre W ∧ W.heap[w.heap.size + 1]? = some (.loop (rec .done (some j))) ∧ W.heap[w.heap.size]? = some (.deferred (some [])))
      W1 (by rw [← hW1]; exact hok _ _)
      (fun s A B hs ht => by
        obtain ⟨hi, hl, hk⟩ := hs
        exact ⟨hI _ _ _ hi (ht.mono hown), (ht.block _ (Array.getElem?_eq_some_iff.1 hl).1 hnL).trans hl, (ht.block _ (Array.getElem?_eq_some_iff.1 hk).1 hnK).trans hk⟩)
      (fun s A B hs ht => by
        obtain ⟨j, hi, hl, hk⟩ := hs
        exact ⟨j, hIx _ _ _ _ hi (ht.mono hown), (ht.block _ (Array.getElem?_eq_some_iff.1 hl).1 hnL).trans hl, (ht.block _ (Array.getElem?_eq_some_iff.1 hk).1 hnK).trans hk⟩)
      ?_ ⟨hI1, hL1, hK1⟩).mono ?_
    · rintro m pre x W ⟨hi, hl, hk⟩ hsz hlen
      have hlt : w.heap.size + 1 < W.heap.size := (Array.getElem?_eq_some_iff.1 hl).1
      have hy := run_yield (P := P) (args := encs x) hl (by rw [hrec]; exact hps x)
      rw [hrec] at hy
      refine ⟨fn, _, assign, body, hy, roundIn_of_wpIn hfn (hassign _ _ x W _ ⟨_, run_beginRound hl (by rw [hrec]), ?_⟩)⟩
      have hl2 : (W.putObj (w.heap.size + 1) (.loop { rec .ready none with state := .busy })).heap[w.heap.size + 1]? = some (.loop { rec .ready none with state := .busy }) := World.putObj_heap_same hlt
      have hk2 : (W.putObj (w.heap.size + 1) (.loop { rec .ready none with state := .busy })).heap[w.heap.size]? = some (.deferred (some [])) := (World.putObj_heap_other (by omega)).trans hk
      refine wpIn_mono (hbody _ _ pre x _ (hI _ _ _ hi (.putObj hoL _ _)) (by rw [World.putObj_size]; omega) hlen) ?_
      have fin : ∀ (jump : Option Code) (W3 : World), Spared (ownOf pv (c + 2) w) (W.putObj (w.heap.size + 1) (.loop { rec .ready none with state := .busy })) W3 →
          (Instr.endRound (w.heap.size + 1) jump).run P W3 = .ok (.bool jump.isNone) (W3.putObj (w.heap.size + 1) (.loop (rec (if jump.isNone then .ready else .done) jump))) ∧
          (W3.putObj (w.heap.size + 1) (.loop (rec (if jump.isNone then .ready else .done) jump))).heap[w.heap.size + 1]? = some (.loop (rec (if jump.isNone then .ready else .done) jump)) ∧
          (W3.putObj (w.heap.size + 1) (.loop (rec (if jump.isNone then .ready else .done) jump))).heap[w.heap.size]? = some (.deferred (some [])) ∧
          Spared (ownOf pv c W1) W (W3.putObj (w.heap.size + 1) (.loop (rec (if jump.isNone then .ready else .done) jump))) := fun jump W3 hk3 => by
        have hl3 := (hk3.block _ hoL (by rw [World.putObj_size]; omega)).trans hl2
        have := run_endRound (P := P) jump hl3
        rw [hrec] at this ⊢
        refine ⟨this, World.putObj_heap_same (Array.getElem?_eq_some_iff.1 hl3).1, (World.putObj_heap_other (by omega)).trans ((hk3.block _ hoK (by rw [World.putObj_size]; omega)).trans hk2), ?_⟩
        refine ⟨by have := hk3.size; simp only [World.putObj_size] at this ⊢; exact this, fun k ho hki => ?_⟩
        have hne : k ≠ w.heap.size + 1 := fun e => hnL (e ▸ ho)
        exact (World.putObj_heap_other hne).trans ((hk3.block k (hown k ho) (by rw [World.putObj_size]; exact hki)).trans (World.putObj_heap_other hne))
      rintro e a3 W3 hp
      cases e with
      | normal =>
        obtain ⟨hk3, hi3⟩ := hp
        obtain ⟨hr, hl4, hk4, hkp⟩ := fin none W3 hk3
        exact ⟨_, _, hr, hkp, .inl ⟨rfl, hI _ _ _ hi3 (.putObj hoL _ _), hl4, hk4⟩⟩
      | ret =>
        obtain ⟨hk3, hi3⟩ := hp
        obtain ⟨hr, hl4, hk4, hkp⟩ := fin (some .ret) W3 hk3
        exact ⟨_, _, hr, hkp, .inr ⟨rfl, .ret, hIx _ _ _ _ hi3 (.putObj hoL _ _), hl4, hk4⟩⟩
      | exit id =>
        obtain ⟨hk3, hi3⟩ := hp
        obtain ⟨hr, hl4, hk4, hkp⟩ := fin (some (.exit id)) W3 hk3
        exact ⟨_, _, hr, hkp, .inr ⟨rfl, .exit id, hIx _ _ _ _ hi3 (.putObj hoL _ _), hl4, hk4⟩⟩
      | goto t =>
        obtain ⟨hk3, hi3⟩ := hp
        obtain ⟨hr, hl4, hk4, hkp⟩ := fin (some (.goto t)) W3 hk3
        exact ⟨_, _, hr, hkp, .inr ⟨rfl, .goto t, hIx _ _ _ _ hi3 (.putObj hoL _ _), hl4, hk4⟩⟩
      | panic ch => exact hp.elim
      | outgrown => exact hp.elim
    · rintro e W2 ⟨⟨v, rfl⟩, (⟨xs, hS, hi, hl, hk⟩ | ⟨pre, hSp, j, hi, hl, hk⟩)⟩
      · have hz : w.heap.size + 2 ≤ W2.heap.size := by have := (Array.getElem?_eq_some_iff.1 hl).1; omega
        exact ⟨none, _, by have := run_endLoop (P := P) hl (by rw [hrec]; simp); rw [hrec] at this; exact this, hdone xs _ hS (hI _ _ _ hi (.putObj hoL _ _)) (by rw [World.putObj_size]; exact hz) ((World.putObj_heap_other (by omega)).trans hk)⟩
      · have hz : w.heap.size + 2 ≤ W2.heap.size := by have := (Array.getElem?_eq_some_iff.1 hl).1; omega
        exact ⟨some j, _, by have := run_endLoop (P := P) hl (by rw [hrec]; simp); rw [hrec] at this; exact this, hstop j pre _ hSp (hIx _ _ _ _ hi (.putObj hoL _ _)) (by rw [World.putObj_size]; exact hz) ((World.putObj_heap_other (by omega)).trans hk)⟩

/-- The wide fence asks for no room. -/
theorem noDepth {n : Nat} : Fence.wide.depth.isSome = true → 1 ≤ n := fun h => by simp [Fence.wide] at h

end Go.Proofs.Ythejomfchjlcnaa
