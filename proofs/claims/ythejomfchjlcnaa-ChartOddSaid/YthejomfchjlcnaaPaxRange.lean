/-
  A range over a function whose iterator reads what the rounds leave: the contract, and the law of the statement, where a round's own slots are laid in cells. Plain words of this proof: no program is spoken of.
-/
import Derived.Test.YthejomfchjlcnaaIterLaw
set_option linter.unusedVariables false
set_option linter.unusedSimpArgs false
namespace Go.Proofs.Ythejomfchjlcnaa
open Go.RowKit Go.Shelf

/-- An iterator: for whatever holds between two rounds, if it abides what the iterator does and a round goes on: so it is behind all of them, or behind those that came till one stopped. -/
def IterK {α : Type} (P : Program) (g : Nat) (lb : Array Value) (encs : α → Array Value) (pv : Nat → Prop) (c : Nat) (S Sp R : List α → Prop) (ok Kp : World → Prop) : Prop :=
  ∀ (n l : Nat) (J Jx : List α → World → Prop) (W : World), ok W →
    (∀ s A B, J s A → Turned (ownOf pv c W) A B → J s B) → (∀ s A B, Jx s A → Turned (ownOf pv c W) A B → Jx s B) →
    (∀ m pre x W1, J pre W1 → W.heap.size + c ≤ W1.heap.size → R (pre ++ [x]) → YieldAt Fence.wide m P l (encs x) W1 fun e W' =>
      Spared (ownOf pv c W) W1 W' ∧ ((e = .returned (.bool true) ∧ J (pre ++ [x]) W') ∨ (e = .returned (.bool false) ∧ Jx (pre ++ [x]) W'))) →
    (∀ s A, J s A → Kp A) →
    J [] W →
    CallsIn Fence.wide n P g (#[.func (.yield l) #[] #[]] ++ lb) W fun e W' => (∃ v, e = .returned v) ∧ ((∃ xs, S xs ∧ J xs W') ∨ (∃ pre, Sp pre ∧ Jx pre W'))

variable {P : Program}
/-- The law of the statement. -/
theorem wpIn_rangeK {α : Type} {g : Operand} {ps : Array Tmp} {assign body : Code} {Q : Exit → Act → World → Prop} {a : Act} {w : World} {n : Nat}
    {gf : Nat} {lb : Array Value} (hg : a.eval g = .func (.func gf) #[] lb) (eg : ∀ args w, (callFunc gf args).run P w = .ok (.enter gf args) w)
    {encs : α → Array Value} {pv : Nat → Prop} {c : Nat} {S Sp R : List α → Prop} {ok Kp : World → Prop} (hseq : IterK P gf lb encs pv c S Sp R ok Kp)
    (hok : ∀ o1 o2, ok ((w.alloc o1).alloc o2)) (hpv : ∀ k, pv k → k < w.heap.size) (hps : ∀ x, (encs x).size = ps.size)
    (I : List α → World → Prop) (Ix : Code → List α → World → Prop) (hI : ∀ s A B, I s A → Turned (ownOf pv (c + 2) w) A B → I s B) (hIx : ∀ j s A B, Ix j s A → Turned (ownOf pv (c + 2) w) A B → Ix j s B)
    (hKp : ∀ s A, I s A → Kp A) (h0 : I [] w)
    (hround : ∀ (pre : List α) (x : α) (W : World), I pre W → w.heap.size + (c + 2) ≤ W.heap.size → R (pre ++ [x]) → ∃ (a₁ : Act) (Wa : World), Spared (ownOf pv (c + 2) w) W Wa ∧ ∀ (l m : Nat),
      (∀ K : Act → World → Prop, K a₁ Wa → assign.wpIn (Fence.wide.inRound l) m P (Exit.then K (fun _ _ _ => False)) { tmps := (ps.zip (encs x)).foldl (fun t (p, v) => t.setIfInBounds p v) a.tmps, defers := [] } W) ∧
      ∀ o, body.wpIn (Fence.wide.inRound l) m P (roundEnd (ownOf pv (c + 2) w) I Ix (pre ++ [x]) (Wa.putObj (w.heap.size + 1) o)) a₁ (Wa.putObj (w.heap.size + 1) o))
    (hdone : ∀ (xs : List α) (W : World), S xs → I xs W → w.heap.size + 2 ≤ W.heap.size → W.heap[w.heap.size]? = some (.deferred (some [])) → Q .normal { a with defers := { target := .collected w.heap.size, args := #[] } :: a.defers } W)
    (hstop : ∀ (j : Code) (pre : List α) (W : World), Sp pre → Ix j pre W → w.heap.size + 2 ≤ W.heap.size → W.heap[w.heap.size]? = some (.deferred (some [])) → j.wpIn Fence.wide n P Q { a with defers := { target := .collected w.heap.size, args := #[] } :: a.defers } W) :
    (Code.rangeFunc g ps assign body).wpIn Fence.wide n P Q a w := by
  refine wpIn_rangeFunc ?_
  intro fn hfn
  rw [show Fence.wide.round = none from rfl]
  obtain ⟨rec, hrec⟩ : ∃ rec : LoopState → Option Code → Loop, rec = fun st pe => { state := st, pending := pe, fn, tmps := a.tmps, params := ps, assign, body, defers := w.heap.size } := ⟨_, rfl⟩
  obtain ⟨W1, hW1⟩ : ∃ W1, (w.alloc (.deferred (some []))).alloc (.loop (rec .ready none)) = W1 := ⟨_, rfl⟩
  have hs1 : W1.heap.size = w.heap.size + 2 := by rw [← hW1]; simp
  have hL1 : W1.heap[w.heap.size + 1]? = some (.loop (rec .ready none)) := by
    rw [← hW1]; have := World.alloc_heap_new (w.alloc (.deferred (some []))) (.loop (rec .ready none)); rwa [World.size_alloc] at this
  have hK1 : W1.heap[w.heap.size]? = some (.deferred (some [])) := by
    rw [← hW1]; exact (Below.heap_alloc _ _ _ (by simp)).trans (World.alloc_heap_new w _)
  have hI1 : I [] W1 := by rw [← hW1]; exact hI _ _ _ (hI _ _ _ h0 (Turned.alloc _ _ _)) (Turned.alloc _ _ _)
  have hown : ∀ k, ownOf pv c W1 k → ownOf pv (c + 2) w k := fun k hk => by
    rcases hk with hk | hk
    · exact .inl hk
    · exact .inr ⟨by omega, by omega⟩
  have hnL : ¬ ownOf pv c W1 (w.heap.size + 1) := fun hk => by
    rcases hk with hk | hk
    · have := hpv _ hk; omega
    · omega
  have hnK : ¬ ownOf pv c W1 w.heap.size := fun hk => by
    rcases hk with hk | hk
    · have := hpv _ hk; omega
    · omega
  have hoL : ownOf pv (c + 2) w (w.heap.size + 1) := .inr ⟨by omega, by omega⟩
  have hoK : ownOf pv (c + 2) w w.heap.size := .inr ⟨by omega, by omega⟩
  refine ⟨w.heap.size + 1, [{ target := .collected w.heap.size, args := #[] }], W1, { target := .fn (.func gf) lb, args := #[.func (.yield (w.heap.size + 1)) #[] #[]] }, W1, gf,
    #[.func (.yield (w.heap.size + 1)) #[] #[]] ++ lb, W1, ?_, ?_, ?_, ?_, fun h => by simp [Fence.wide] at h, ?_⟩
  · rw [← hW1, hrec]; exact run_enterLoop_outer _ _ _ _ _
  · simp only [resolve, hg]
    simp [go_sem]
  · intro f' hf'; trivial
  · simp [invoke, go_sem, eg]
  · refine (hseq (n - 1) (w.heap.size + 1)
      (fun pre W => I pre W ∧ W.heap[w.heap.size + 1]? = some (.loop (rec .ready none)) ∧ W.heap[w.heap.size]? = some (.deferred (some [])))
      (fun pre W => ∃ j, Ix j pre W ∧ W.heap[w.heap.size + 1]? = some (.loop (rec .done (some j))) ∧ W.heap[w.heap.size]? = some (.deferred (some [])))
      W1 (by rw [← hW1]; exact hok _ _)
      (fun s A B hs ht => by
        obtain ⟨hi, hl, hk⟩ := hs
        exact ⟨hI _ _ _ hi (ht.mono hown), (ht.block _ (Array.getElem?_eq_some_iff.1 hl).1 hnL).trans hl, (ht.block _ (Array.getElem?_eq_some_iff.1 hk).1 hnK).trans hk⟩)
      (fun s A B hs ht => by
        obtain ⟨j, hi, hl, hk⟩ := hs
        exact ⟨j, hIx _ _ _ _ hi (ht.mono hown), (ht.block _ (Array.getElem?_eq_some_iff.1 hl).1 hnL).trans hl, (ht.block _ (Array.getElem?_eq_some_iff.1 hk).1 hnK).trans hk⟩)
      ?_ (fun s A h => hKp _ _ h.1) ⟨hI1, hL1, hK1⟩).mono ?_
    · rintro m pre x W ⟨hi, hl, hk⟩ hsz hlen
      have hlt : w.heap.size + 1 < W.heap.size := (Array.getElem?_eq_some_iff.1 hl).1
      have hy := run_yield (P := P) (args := encs x) hl (by rw [hrec]; exact hps x)
      rw [hrec] at hy
      obtain ⟨a₁, Wa, hsa, hrnd⟩ := hround pre x W hi (by omega) hlen
      have hla := (hsa.block _ hoL hlt).trans hl
      have hka := (hsa.block _ hoK (by omega)).trans hk
      have hlta : w.heap.size + 1 < Wa.heap.size := Nat.lt_of_lt_of_le hlt hsa.size
      refine ⟨fn, _, assign, body, hy, roundIn_of_wpIn hfn ((hrnd _ _).1 _ ⟨_, run_beginRound hla (by rw [hrec]), ?_⟩)⟩
      have hl2 : (Wa.putObj (w.heap.size + 1) (.loop { rec .ready none with state := .busy })).heap[w.heap.size + 1]? = some (.loop { rec .ready none with state := .busy }) := World.putObj_heap_same hlta
      have hk2 : (Wa.putObj (w.heap.size + 1) (.loop { rec .ready none with state := .busy })).heap[w.heap.size]? = some (.deferred (some [])) := (World.putObj_heap_other (by omega)).trans hka
      refine wpIn_mono ((hrnd _ _).2 _) ?_
      have fin : ∀ (jump : Option Code) (W3 : World), Spared (ownOf pv (c + 2) w) (Wa.putObj (w.heap.size + 1) (.loop { rec .ready none with state := .busy })) W3 →
          (Instr.endRound (w.heap.size + 1) jump).run P W3 = .ok (.bool jump.isNone) (W3.putObj (w.heap.size + 1) (.loop (rec (if jump.isNone then .ready else .done) jump))) ∧
          (W3.putObj (w.heap.size + 1) (.loop (rec (if jump.isNone then .ready else .done) jump))).heap[w.heap.size + 1]? = some (.loop (rec (if jump.isNone then .ready else .done) jump)) ∧
          (W3.putObj (w.heap.size + 1) (.loop (rec (if jump.isNone then .ready else .done) jump))).heap[w.heap.size]? = some (.deferred (some [])) ∧
          Spared (ownOf pv c W1) W (W3.putObj (w.heap.size + 1) (.loop (rec (if jump.isNone then .ready else .done) jump))) := fun jump W3 hk3 => by
        have hl3 := (hk3.block _ hoL (by rw [World.putObj_size]; omega)).trans hl2
        have := run_endRound (P := P) jump hl3
        rw [hrec] at this ⊢
        refine ⟨this, World.putObj_heap_same (Array.getElem?_eq_some_iff.1 hl3).1, (World.putObj_heap_other (by omega)).trans ((hk3.block _ hoK (by rw [World.putObj_size]; omega)).trans hk2), ?_⟩
        refine ⟨by have := hk3.size; simp only [World.putObj_size] at this ⊢; exact Nat.le_trans hsa.size this, fun k ho hki => ?_⟩
        have hne : k ≠ w.heap.size + 1 := fun e => hnL (e ▸ ho)
        exact (World.putObj_heap_other hne).trans ((hk3.block k (hown k ho) (by rw [World.putObj_size]; exact Nat.lt_of_lt_of_le hki hsa.size)).trans ((World.putObj_heap_other hne).trans (hsa.block k (hown k ho) hki)))
      rintro e a3 W3 hp
      cases e with
      | normal =>
        obtain ⟨hk3, hi3⟩ := hp
        obtain ⟨hr, hl4, hk4, hkp⟩ := fin none W3 hk3
        exact ⟨_, _, hr, hkp, .inl ⟨rfl, hI _ _ _ hi3 (.putObj hoL _ _), hl4, hk4⟩⟩
      | ret =>
        obtain ⟨hk3, hi3⟩ := hp
        obtain ⟨hr, hl4, hk4, hkp⟩ := fin (some .ret) W3 hk3
        exact ⟨_, _, hr, hkp, .inr ⟨rfl, .ret, hIx _ _ _ _ hi3 (.putObj hoL _ _), hl4, hk4⟩⟩
      | exit id =>
        obtain ⟨hk3, hi3⟩ := hp
        obtain ⟨hr, hl4, hk4, hkp⟩ := fin (some (.exit id)) W3 hk3
        exact ⟨_, _, hr, hkp, .inr ⟨rfl, .exit id, hIx _ _ _ _ hi3 (.putObj hoL _ _), hl4, hk4⟩⟩
      | goto t =>
        obtain ⟨hk3, hi3⟩ := hp
        obtain ⟨hr, hl4, hk4, hkp⟩ := fin (some (.goto t)) W3 hk3
        exact ⟨_, _, hr, hkp, .inr ⟨rfl, .goto t, hIx _ _ _ _ hi3 (.putObj hoL _ _), hl4, hk4⟩⟩
      | panic ch => exact hp.elim
      | outgrown => exact hp.elim
    · rintro e W2 ⟨⟨v, rfl⟩, (⟨xs, hS, hi, hl, hk⟩ | ⟨pre, hSp, j, hi, hl, hk⟩)⟩
      · have hz : w.heap.size + 2 ≤ W2.heap.size := by have := (Array.getElem?_eq_some_iff.1 hl).1; omega
        exact ⟨none, _, by have := run_endLoop (P := P) hl (by rw [hrec]; simp); rw [hrec] at this; exact this, hdone xs _ hS (hI _ _ _ hi (.putObj hoL _ _)) (by rw [World.putObj_size]; exact hz) ((World.putObj_heap_other (by omega)).trans hk)⟩
      · have hz : w.heap.size + 2 ≤ W2.heap.size := by have := (Array.getElem?_eq_some_iff.1 hl).1; omega
        exact ⟨some j, _, by have := run_endLoop (P := P) hl (by rw [hrec]; simp); rw [hrec] at this; exact this, hstop j pre _ hSp (hIx _ _ _ _ hi (.putObj hoL _ _)) (by rw [World.putObj_size]; exact hz) ((World.putObj_heap_other (by omega)).trans hk)⟩

end Go.Proofs.Ythejomfchjlcnaa
