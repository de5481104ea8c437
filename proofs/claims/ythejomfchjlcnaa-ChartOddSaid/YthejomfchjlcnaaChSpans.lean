/-
  The contract of Spans.
-/
import Derived.Test.YthejomfchjlcnaaChIter
set_option linter.unusedVariables false
set_option linter.unusedSimpArgs false
namespace Go.Proofs.Ythejomfchjlcnaa
open Go.RowKit Go.Shelf Go.Lib
attribute [local go_sem] Oper.semAt_some

theorem rows_any (A : Option Addr) (n c : Nat) (w : World) :
    Calls Try.prog 13 #[.slice A n c] w fun e w' => e = .returned (.func (.func 18) #[] #[.pointer (some ⟨w.heap.size, 0, none⟩)]) ∧ w' = w.alloc (.cells #[.slice A n c] 23) := by
  go_enter Try.func13, Try.ntmps13
  go_wp2
  go_ret
  exact ⟨rfl, rfl⟩

theorem RdS.lit (w : World) (p : C.Sp) : RdS (w.alloc (.cells #[.int .i64 p.1, .int .i64 p.2.1, .int .i64 p.2.2] 29)) (w.heap.size + 1) (some ⟨w.heap.size, 0, none⟩) 1 [p] := by
  refine ⟨rfl, fun _ => ⟨w.heap.size, 0, rfl, by omega, fun j q hq => ?_⟩⟩
  match j, hq with
  | 0, hq =>
    simp at hq
    subst hq
    have h := BoxS.new w p
    exact ⟨h.cell0, h.cell1, h.cell2⟩

def SpAt (w : World) (pre : List C.Sp) (W : World) : Prop :=
  ∃ v, Boxed W w.heap.size 24 v ∧ OwnS W (w.heap.size + 4) v pre ∧ Below w.heap.size w W
theorem OwnS.turned {own : Nat → Prop} {A B : World} {base : Nat} {v : Value} {l : List C.Sp} (h : OwnS A base v l) (ht : Turned own A B) (hn : ∀ r, v.ownBlock = some r → ¬ own r) : OwnS B base v l := by
  refine ⟨h.1, ?_⟩
  rcases h.2 with h' | ⟨g, cap, cur, h1, h2, h3, h4⟩
  · exact .inl h'
  · subst h1
    exact .inr ⟨g, cap, cur, rfl, h2, (ht.block g (OwnS.lt h rfl).2 (hn g rfl)).trans h3, h4⟩

set_option maxRecDepth 100000 in
set_option maxHeartbeats 8000000 in
theorem spans_in (A : Option Addr) (n c : Nat) (l : List Int) (hn : n ≤ 500000) (w : World) (h : RdI w w.heap.size A n l) :
    CallsIn Fence.wide 5 Try.prog 6 #[.slice A n c] w fun e w' => ∃ v, e = .returned v ∧ OwnS w' w.heap.size v (C.spans l) ∧ Below w.heap.size w w' := by
  have HR := hid h
  have HLE := hid (show (C.spans l).length ≤ n from by have h1 := C.spans_len l; rw [h.len] at h1; exact h1)
  clear h
  refine callsIn_of_wp_marks Try.func6 rfl trivial ?_ rfl
  simp only [Try.ntmps6, List.size_toArray, List.length_cons, List.length_nil, Nat.reduceAdd, Nat.reduceSub, Array.replicate_succ, Array.replicate_zero, List.push_toArray, List.append_toArray, List.nil_append, List.cons_append]
  gi_wp2_with fail
  refine ⟨trivial, ?_⟩
  refine (callsIn_wide.2 (rows_any _ _ _ _)).mono ?_
  rintro e w4 ⟨rfl, hw4⟩
  gi_wp2_with fail
  subst hw4
  obtain ⟨W4, hW4⟩ : ∃ W4, ((w.alloc (.cells #[.slice none 0 0] 24)).alloc (.cells #[.slice A n c] 23)) = W4 := ⟨_, rfl⟩
  have hs4 : W4.heap.size = w.heap.size + 2 := by rw [← hW4]; simp
  have b4 : Below w.heap.size w W4 := by
    rw [← hW4]
    exact ((Below.refl _ w).alloc (Nat.le_refl _) _).alloc (by simp) _
  have x0 : Boxed W4 w.heap.size 24 (.slice none 0 0) := by rw [← hW4]; exact (Boxed.new w _ _).alloc _
  have x1 : Boxed W4 (w.heap.size + 1) 23 (.slice A n c) := by
    rw [← hW4]
    have := Boxed.new (w.alloc (.cells #[.slice none 0 0] 24)) 23 (.slice A n c)
    rwa [World.size_alloc] at this
  rw [hW4]
  clear hW4
  have hno : ∀ k, k < w.heap.size + 1 → ¬ ownOf (fun k => k = w.heap.size + 1) (0 + 2) W4 k := by
    rintro k hk (h | ⟨h1, h2⟩)
    · omega
    · omega
  have HNO := hid hno
  have HNB : Hid (∀ k, w.heap.size + 4 ≤ k → ¬ ownOf (fun k => k = w.heap.size + 1) (0 + 2) W4 k) := hid (by
    rintro k hk (h | ⟨h1, h2⟩)
    · omega
    · omega)
  have HS4 := hid hs4
  clear hno hs4
  refine wpIn_rangeK (gf := 18) (lb := #[.pointer (some ⟨w.heap.size + 1, 0, none⟩)]) rfl (enters_of Try.func18 (by kernel_rfl) rfl)
    (rows_iter A n c l (by omega) (w.heap.size + 1) w.heap.size) (fun o1 o2 => (x1.alloc _).alloc _) ?pv (fun _ => rfl)
    (fun pre wr => SpAt w pre wr) (fun _ _ _ => False) ?hI ?hIx ?hK ?h0 ?round ?done ?stop
  case pv =>
    rintro k rfl
    rw [HS4.out]; omega
  case hI =>
    rintro pre P Q ⟨v, h1, h2, h5⟩ ht
    exact ⟨v, boxed_turned h1 ht (HNO.out _ (by omega)), h2.turned ht (fun r hr => HNB.out r (h2.lt hr).1), ht.below_of h5 (fun k hk => HNO.out k (by omega)) h5.size⟩
  case hIx => intro j pre P Q h _; exact h
  case hK =>
    rintro pre P ⟨_, _, _, h5⟩
    exact HR.out.below h5
  case h0 => exact ⟨_, x0, OwnS.nil _ _, b4⟩
  case round =>
    rintro pre x W ⟨v, h1, h2, h5⟩ hsz hlen
    obtain ⟨A1, c1, rfl, _, _⟩ := h2.rd
    refine ⟨{ tmps := #[.slice A n c, undef, .slice none 0 0, .pointer (some ⟨w.heap.size, 0, none⟩), .pointer (some ⟨W.heap.size, 0, none⟩), .slice A n c,
      .func (.func 18) #[] #[.pointer (some ⟨w.heap.size + 1, 0, none⟩)], sval x, undef, undef, undef, undef, undef], defers := [] },
      W.alloc (.cells #[.int .i64 x.1, .int .i64 x.2.1, .int .i64 x.2.2] 29), Spared.grown (World.grownBy_alloc W _ none) (fun r hr => by cases hr), fun l' m => ⟨?asg, ?bd⟩⟩
    case asg =>
      intro K hK
      dsimp only [sval]
      gi_wp2
      exact hK
    case bd =>
      intro o
      have hsz4 := HS4.out
      have hn1 : w.heap.size ≠ W4.heap.size + 1 := by omega
      have hn4 : W.heap.size ≠ W4.heap.size + 1 := by omega
      have g1 := boxed_put (h1.alloc (.cells #[.int .i64 x.1, .int .i64 x.2.1, .int .i64 x.2.2] 29)) hn1 o
      have g2 : OwnS ((W.alloc (.cells #[.int .i64 x.1, .int .i64 x.2.1, .int .i64 x.2.2] 29)).putObj (W4.heap.size + 1) o) (w.heap.size + 4) (.slice A1 pre.length c1) pre :=
        (h2.alloc _).grown (grownBy_putObj' _ _ _) (.inr (fun e => by have := (h2.lt e).1; omega))
      have gx : BoxS ((W.alloc (.cells #[.int .i64 x.1, .int .i64 x.2.1, .int .i64 x.2.2] 29)).putObj (W4.heap.size + 1) o) W.heap.size x := (World.putObj_heap_other hn4).trans (BoxS.new W x)
      have g5 : Below w.heap.size w ((W.alloc (.cells #[.int .i64 x.1, .int .i64 x.2.1, .int .i64 x.2.2] 29)).putObj (W4.heap.size + 1) o) := (h5.alloc h5.size _).grown (grownBy_putObj' _ _ o) (by rw [World.size_alloc]; have := h5.size; omega) (fun k hk => by injection hk with hk; omega)
      have g6 : w.heap.size + 4 ≤ ((W.alloc (.cells #[.int .i64 x.1, .int .i64 x.2.1, .int .i64 x.2.2] 29)).putObj (W4.heap.size + 1) o).heap.size := by rw [World.putObj_size, World.size_alloc]; omega
      obtain ⟨V, hV⟩ : ∃ V, (W.alloc (.cells #[.int .i64 x.1, .int .i64 x.2.1, .int .i64 x.2.2] 29)).putObj (W4.heap.size + 1) o = V := ⟨_, rfl⟩
      rw [hV] at g1 g2 g5 gx g6 ⊢
      have c0 := gx.cell0
      have c1' := gx.cell1
      have c2' := gx.cell2
      have d1 := g1.cell
      have G1 := hid g1
      have G2 := hid g2
      have G5 := hid g5
      have G6 := hid g6
      have HLN : Hid (pre.length + 1 ≤ 1000000) := hid (by have h7 := hlen.length_le; rw [List.length_append, List.length_cons, List.length_nil] at h7; have := HLE.out; omega)
      clear hV hn1 hn4 h1 h2 h5 g1 g2 g5 g6 gx hlen hsz
      gi_wp2_with (gi_at_builtin; refine wpListIn_appS rfl (.tmp 8) (.tmp 10) rfl (w.heap.size + 4) (.slice A1 pre.length c1) pre (by simp [Act.eval]) (G2.out.alloc _) (V.heap.size + 1) (some ⟨V.heap.size, 0, none⟩) 1 1 [x] (by simp [Act.eval]) (RdS.lit V x) HLN.out (by rw [World.size_alloc]; have := G6.out; omega) ?_; intro v' w3 k1 k2 k3; apply Classical.byContradiction; intro hgoal)
      obtain ⟨A3, c3, rfl, _, _⟩ := k1.rd
      have hub : ∀ r, (Value.slice A1 pre.length c1).ownBlock = some r → w.heap.size + 4 ≤ r ∧ r < V.heap.size := fun r hr => G2.out.lt hr
      have x3 := (G1.out.alloc (.cells #[.int .i64 x.1, .int .i64 x.2.1, .int .i64 x.2.2] 29)).kept k2 (fun e => by have := (hub _ e.symm).1; omega)
      have d3 := x3.cell
      have f3 := x3.frozen
      have X3 := hid x3
      have K1 := hid k1
      have K2 := hid k2
      have HG := hid hgoal
      clear x3 k1 k2 k3 hgoal
      refine HG.out ?_
      gi_wp2
      have hgs := grownBy_setCell' w3 w.heap.size (.slice A3 (pre.length + 1) c3)
      have ha := World.grownBy_alloc V (.cells #[.int .i64 x.1, .int .i64 x.2.1, .int .i64 x.2.2] 29) none
      have hne : ∀ k, ownOf (fun k => k = w.heap.size + 1) (0 + 2) W4 k → k ≠ w.heap.size ∧ k < w.heap.size + 4 := by
        rintro k (h | ⟨h1, h2⟩)
        · omega
        · omega
      refine ⟨⟨Nat.le_trans ha.size (Nat.le_trans K2.out.size hgs.size), fun k ho hk => ?_⟩, _, X3.out.set _, ?_, ?_⟩
      · have hn := hne k ho
        have hk2 : k < (V.alloc (.cells #[.int .i64 x.1, .int .i64 x.2.1, .int .i64 x.2.2] 29)).heap.size := Nat.lt_of_lt_of_le hk ha.size
        exact (hgs.block k (Nat.lt_of_lt_of_le hk2 K2.out.size) (fun e => by injection e with e; omega)).trans ((K2.out.block k hk2 (fun e => by have := (hub _ e.symm).1; omega)).trans (ha.block k hk (fun e => by cases e)))
      · have h9 : OwnS w3 (w.heap.size + 4) (.slice A3 (pre.length + 1) c3) (pre ++ [x]) := by
          have h8 := K1.out
          rw [List.length_append] at h8
          exact h8
        exact h9.grown hgs (.inr (fun e => by have := (h9.lt e).1; omega))
      · exact (below_grown (G5.out.alloc G5.out.size _) K2.out (by rw [World.size_alloc]; have := G5.out.size; omega) (fun k hk => by have := (hub _ hk).1; omega)).setCell (p := ⟨w.heap.size, 0, none⟩) (Nat.le_refl _) _
  case done =>
    rintro xs V rfl ⟨v, h1, h2, h5⟩ hsz hk
    obtain ⟨A1, c1, rfl, _, _⟩ := h2.rd
    have d1 := h1.cell
    have H1 := hid h1
    have H2 := hid h2
    have H5 := hid h5
    clear h1 h2 h5
    gi_wp2
    refine ⟨by simp, .inl ⟨_, _, rfl, run_takeDeferred hk, ?_⟩⟩
    have e2 := HS4.out
    refine ⟨.slice A1 (C.spans l).length c1, by simp [results, show Try.f6.results = _ from rfl, go_sem], _, rfl, ?_, ?_⟩
    · exact (H2.out.lower (by omega)).grown (grownBy_putObj' _ _ _) (.inr (fun e => by have := (H2.out.lt e).1; omega))
    · exact H5.out.grown (grownBy_putObj' _ _ _) H5.out.size (fun k hk => by injection hk with hk; omega)
  case stop =>
    rintro j pre V hS h hsz hk
    exact h.elim

theorem spans_any (A : Option Addr) (n c : Nat) (l : List Int) (hn : n ≤ 500000) (w : World) (h : RdI w w.heap.size A n l) :
    Calls Try.prog 6 #[.slice A n c] w fun e w' => ∃ v, e = .returned v ∧ OwnS w' w.heap.size v (C.spans l) ∧ Below w.heap.size w w' := (callsIn_wide (n := 5)).1 (spans_in A n c l hn w h)
end Go.Proofs.Ythejomfchjlcnaa
