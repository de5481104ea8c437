/-
  The walk of pax.Find.
-/
import Derived.Test.YtefkgkdocglgaaaDoorPaxBackw
namespace Go.Proofs.YtefkgkdocglgaaaDoor
open Go.RowKit Go.Shelf
attribute [local go_sem] Oper.semAt_some

/-- None of these has the key. -/
def NoKey (key : ByteArray) (pre : List (Nat × R2)) : Prop := ∀ x ∈ pre, tl x.2.1 ≠ tl key
def FindAt (w : World) (key : ByteArray) (pre : List (Nat × R2)) (W : World) : Prop :=
  NoKey key pre ∧ Boxed W w.heap.size 9 (.string key) ∧ Boxed W (w.heap.size + 1) 9 (.string ⟨#[]⟩) ∧ Boxed W (w.heap.size + 1 + 1) 4 (.bool false) ∧ Below w.heap.size w W
def FoundAt (w : World) (key : ByteArray) (pre : List (Nat × R2)) (W : World) : Prop :=
  ∃ pre0 x, pre = pre0 ++ [x] ∧ NoKey key pre0 ∧ tl x.2.1 = tl key ∧ Boxed W (w.heap.size + 1) 9 (.string x.2.2) ∧ Boxed W (w.heap.size + 1 + 1) 4 (.bool true) ∧ Below w.heap.size w W

theorem boxed_put {A : World} {b k : Nat} {t : TypeId} {v : Value} (h : Boxed A b t v) (hne : b ≠ k) (o : Obj) : Boxed (A.putObj k o) b t v := h.kept (grownBy_putObj' A k o) (fun e => hne (by injection e))
theorem boxed_set_far {A : World} {b c : Nat} {t : TypeId} {v u : Value} (h : Boxed A b t v) (hne : b ≠ c) : Boxed (A.setCell ⟨c, 0, none⟩ u) b t v := h.kept (grownBy_setCell' A c u) (fun e => hne (by injection e))
theorem NoKey.snoc {key : ByteArray} {pre : List (Nat × R2)} {x : Nat × R2} (h : NoKey key pre) (hx : tl x.2.1 ≠ tl key) : NoKey key (pre ++ [x]) := fun y hy => by
  rcases List.mem_append.1 hy with hy | hy
  · exact h y hy
  · rw [List.mem_singleton] at hy
    subst hy
    exact hx

theorem find_none {key : ByteArray} {l : List R2} (h : ∀ r ∈ l, tl r.1 ≠ tl key) : M.find (rcs l) (tl key) = none := by
  induction l with
  | nil => rfl
  | cons r l ih =>
    rw [show rcs (r :: l) = rc r :: rcs l from rfl, M.find_cons, ih fun x hx => h x (List.mem_cons_of_mem _ hx), if_neg (show ¬ (rc r).1 = tl key from h r (by simp))]; rfl

theorem results_find {tmps : Array Value} {a b : Nat} {u v : Value} {w : World} (h2 : tmps.getD 4 undef = .pointer (some ⟨a, 0, none⟩)) (h3 : tmps.getD 5 undef = .pointer (some ⟨b, 0, none⟩))
    (c1 : w.cell? ⟨a, 0, none⟩ = some u) (c2 : w.cell? ⟨b, 0, none⟩ = some v) : (results Tryd.f22 tmps).run Tryd.prog w = .ok (.tuple #[u, v]) w := by
  simp only [results, show Tryd.f22.results = #[ResultVar.cell 4 9, ResultVar.cell 5 4] from rfl]
  rw [Array.getD_eq_getD_getElem?] at h2 h3
  simp [go_sem, h2, h3, c1, c2]

theorem find_last {key : ByteArray} {l : List R2} {pre0 : List (Nat × R2)} {x : Nat × R2} (h : (pre0 ++ [x]).map Prod.snd <+: l.reverse) (h0 : NoKey key pre0) (hx : tl x.2.1 = tl key) : M.find (rcs l) (tl key) = some (tl x.2.2) := by
  obtain ⟨q, hq⟩ := h
  have hl : l = (q.reverse ++ [x.2]) ++ (pre0.map Prod.snd).reverse := by
    have := congrArg List.reverse hq
    rw [List.reverse_reverse] at this
    rw [← this]; simp
  rw [hl, rcs_app, rcs_app, M.find_app, M.find_app]
  have h1 : M.find (rcs (pre0.map Prod.snd).reverse) (tl key) = none := find_none fun r hr => by
    rw [List.mem_reverse] at hr
    obtain ⟨y, hy, rfl⟩ := List.mem_map.1 hr
    exact h0 y hy
  have h2 : M.find (rcs [x.2]) (tl key) = some (tl x.2.2) := by
    rw [show rcs [x.2] = [rc x.2] from rfl, M.find_cons, M.find_nil, if_pos (show (rc x.2).1 = tl key from hx)]; rfl
  rw [h1, h2]; rfl

theorem backward_any (A : Option Addr) (n c : Nat) (w : World) :
    Calls Tryd.prog 36 #[.slice A n c] w fun e w' => e = .returned (.func (.func 48) #[] #[.pointer (some ⟨w.heap.size, 0, none⟩)]) ∧ w' = w.alloc (.cells #[.slice A n c] 23) := by
  go_enter Tryd.func36, Tryd.ntmps36
  go_wp2
  go_ret
  exact ⟨rfl, rfl⟩

set_option maxRecDepth 100000 in
set_option maxHeartbeats 8000000 in
theorem find_in (A : Option Addr) (c : Nat) (l : List R2) (key : ByteArray) (hl : l.length ≤ 1000000) (w : World) (h : RdR w w.heap.size A l) :
    CallsIn Fence.wide 5 Tryd.prog 22 #[.slice A l.length c, .string key] w (fun e w' => ∃ (v : ByteArray) (b : Bool), e = .returned (.tuple #[.string v, .bool b]) ∧ tl v = (M.find (rcs l) (tl key)).getD [] ∧ b = (M.find (rcs l) (tl key)).isSome ∧ Below w.heap.size w w') := by
  have HR := Lib.hid h
  clear h
  refine callsIn_of_wp_marks Tryd.func22 rfl trivial ?_ rfl
  simp only [Tryd.ntmps22, List.size_toArray, List.length_cons, List.length_nil, Nat.reduceAdd, Nat.reduceSub, Array.replicate_succ, Array.replicate_zero, List.push_toArray, List.append_toArray, List.nil_append, List.cons_append]
  gi_wp2_with fail
  refine ⟨trivial, ?_⟩
  refine (callsIn_wide.2 (backward_any _ _ _ _)).mono ?_
  rintro e w4 ⟨rfl, hw4⟩
  gi_wp2_with fail
  subst hw4
  obtain ⟨W4, hW4⟩ : ∃ W4, ((((w.alloc (.cells #[.string key] 9)).alloc (.cells #[.string ⟨#[]⟩] 9)).alloc (.cells #[.bool false] 4)).alloc (.cells #[.slice A l.length c] 23)) = W4 := ⟨_, rfl⟩
  have hs4 : W4.heap.size = w.heap.size + 4 := by rw [← hW4]; simp
  have b4 : Below w.heap.size w W4 := by
    rw [← hW4]
    exact ((((Below.refl _ w).alloc (Nat.le_refl _) _).alloc (by simp) _).alloc (by simp; omega) _).alloc (by simp; omega) _
  have x0 : Boxed W4 w.heap.size 9 (.string key) := by rw [← hW4]; exact (((Boxed.new w _ _).alloc _).alloc _).alloc _
  have x1 : Boxed W4 (w.heap.size + 1) 9 (.string ⟨#[]⟩) := by
    rw [← hW4]
    have := ((Boxed.new (w.alloc (.cells #[.string key] 9)) 9 (.string ⟨#[]⟩)).alloc (.cells #[.bool false] 4)).alloc (.cells #[.slice A l.length c] 23)
    rwa [World.size_alloc] at this
  have x2 : Boxed W4 (w.heap.size + 1 + 1) 4 (.bool false) := by
    rw [← hW4]
    have := (Boxed.new ((w.alloc (.cells #[.string key] 9)).alloc (.cells #[.string ⟨#[]⟩] 9)) 4 (.bool false)).alloc (.cells #[.slice A l.length c] 23)
    rwa [World.size_alloc, World.size_alloc] at this
  have x3 : Boxed W4 (w.heap.size + 1 + 1 + 1) 23 (.slice A l.length c) := by
    rw [← hW4]
    have := Boxed.new (((w.alloc (.cells #[.string key] 9)).alloc (.cells #[.string ⟨#[]⟩] 9)).alloc (.cells #[.bool false] 4)) 23 (.slice A l.length c)
    rwa [World.size_alloc, World.size_alloc, World.size_alloc] at this
  rw [hW4]
  clear hW4
  have hno : ∀ k, k < w.heap.size + 3 → ¬ ownOf (fun k => k = w.heap.size + 1 + 1 + 1) (0 + 2) W4 k := by
    rintro k hk (h | ⟨h1, h2⟩)
    · omega
    · omega
  have HNO := Lib.hid hno
  have HS4 := Lib.hid hs4
  clear hno hs4
  refine wpIn_rangeK (gf := 48) (lb := #[.pointer (some ⟨w.heap.size + 1 + 1 + 1, 0, none⟩)]) rfl (enters_of Tryd.func48 (by kernel_rfl) rfl)
    (back_iter A c l hl (w.heap.size + 1 + 1 + 1) w.heap.size) (fun o1 o2 => (x3.alloc _).alloc _) ?pv (fun _ => rfl)
    (fun pre wr => FindAt w key pre wr) (fun j pre wr => j = .ret ∧ FoundAt w key pre wr) ?hI ?hIx ?hK ?h0 ?round ?done ?stop
  case pv =>
    rintro k rfl
    rw [HS4.out]; omega
  case hI =>
    rintro pre P Q ⟨h1, h2, h3, h4, h5⟩ ht
    exact ⟨h1, boxed_turned h2 ht (HNO.out _ (by omega)), boxed_turned h3 ht (HNO.out _ (by omega)), boxed_turned h4 ht (HNO.out _ (by omega)), ht.below_of h5 (fun k hk => HNO.out k (by omega)) h5.size⟩
  case hIx =>
    rintro j pre P Q ⟨h0, p0, x, h1, h2, h3, h4, h5, h6⟩ ht
    exact ⟨h0, p0, x, h1, h2, h3, boxed_turned h4 ht (HNO.out _ (by omega)), boxed_turned h5 ht (HNO.out _ (by omega)), ht.below_of h6 (fun k hk => HNO.out k (by omega)) h6.size⟩
  case hK =>
    rintro pre P ⟨_, _, _, _, h5⟩
    exact HR.out.below h5
  case h0 => exact ⟨fun x hx => absurd hx (by simp), x0, x1, x2, b4⟩
  case round =>
    rintro pre ⟨i, s, t⟩ W ⟨h1, h2, h3, h4, h5⟩ hsz hlen
    refine ⟨{ tmps := #[.slice A l.length c, .string key, undef, .pointer (some ⟨w.heap.size, 0, none⟩), .pointer (some ⟨w.heap.size + 1, 0, none⟩), .pointer (some ⟨w.heap.size + 1 + 1, 0, none⟩), undef, .pointer (some ⟨W.heap.size, 0, none⟩), .slice A l.length c,
      .func (.func 48) #[] #[.pointer (some ⟨w.heap.size + 1 + 1 + 1, 0, none⟩)], .int .i64 i, .agg #[.string s, .string t], undef, undef, undef, undef, undef, undef], defers := [] },
      W.alloc (.cells #[.string s, .string t] 45), Spared.grown (World.grownBy_alloc W _ none) (fun r hr => by cases hr), fun l' m => ⟨?asg, ?bd⟩⟩
    case asg =>
      intro K hK
      dsimp only [encP]
      gi_wp2
      exact hK
    case bd =>
      intro o
      have hsz4 := HS4.out
      have hn1 : w.heap.size ≠ W4.heap.size + 1 := by omega
      have hn2 : w.heap.size + 1 ≠ W4.heap.size + 1 := by omega
      have hn3 : w.heap.size + 1 + 1 ≠ W4.heap.size + 1 := by omega
      have hn4 : W.heap.size ≠ W4.heap.size + 1 := by omega
      have g2 := boxed_put (h2.alloc (.cells #[.string s, .string t] 45)) hn1 o
      have g3 := boxed_put (h3.alloc (.cells #[.string s, .string t] 45)) hn2 o
      have g4 := boxed_put (h4.alloc (.cells #[.string s, .string t] 45)) hn3 o
      have gx : BoxR ((W.alloc (.cells #[.string s, .string t] 45)).putObj (W4.heap.size + 1) o) W.heap.size s t := (World.putObj_heap_other hn4).trans (BoxR.new W s t)
      have g5 : Below w.heap.size w ((W.alloc (.cells #[.string s, .string t] 45)).putObj (W4.heap.size + 1) o) := (h5.alloc h5.size _).grown (grownBy_putObj' _ _ o) (by rw [World.size_alloc]; have := h5.size; omega) (fun k hk => by injection hk with hk; omega)
      obtain ⟨V, hV⟩ : ∃ V, (W.alloc (.cells #[.string s, .string t] 45)).putObj (W4.heap.size + 1) o = V := ⟨_, rfl⟩
      rw [hV] at g2 g3 g4 gx g5 ⊢
      have c0 := gx.cell0
      have c1 := gx.cell1
      have ck := g2.cell
      have f3 := g3.frozen
      have f4 := g4.frozen
      have d3 := g3.cell
      have d4 := g4.cell
      have HN := Lib.hid h1
      clear hV hn1 hn2 hn3 hn4 h1 h2 h3 h4 h5
      by_cases hk : s = key
      · subst hk
        have e12 : w.heap.size + 1 ≠ w.heap.size + 1 + 1 := by omega
        have e21 : w.heap.size + 1 + 1 ≠ w.heap.size + 1 := by omega
        gi_wp2
        refine ⟨?_, rfl, pre, (i, s, t), rfl, HN.out, rfl, boxed_set_far (g3.set _) e12, (boxed_set_far g4 e21).set _, ?_⟩
        · refine (Spared.grown (grownBy_setCell' V (w.heap.size + 1) _) ?_).trans (Spared.grown (grownBy_setCell' _ (w.heap.size + 1 + 1) _) ?_)
          · intro r hr
            injection hr with hr
            exact HNO.out r (by omega)
          · intro r hr
            injection hr with hr
            exact HNO.out r (by omega)
        · exact (g5.setCell (p := ⟨w.heap.size + 1, 0, none⟩) (by show w.heap.size ≤ w.heap.size + 1; omega) _).setCell (p := ⟨w.heap.size + 1 + 1, 0, none⟩) (by show w.heap.size ≤ w.heap.size + 1 + 1; omega) _
      · have hne : (s.toList == key.toList) = false := by
          rw [beq_eq_false_iff_ne, tl_eq, tl_eq]
          exact fun e => hk (tl_inj e)
        have HK := Lib.hid hk
        clear hk
        gi_wp2
        exact ⟨Spared.refl _ _, HN.out.snoc (fun e => HK.out (tl_inj e)), g2, g3, g4, g5⟩
  case done =>
    rintro xs V hS ⟨h1, h2, h3, h4, h5⟩ hsz hk
    have hsz4 := HS4.out
    have c3 := h3.cell
    have c4 := h4.cell
    have f3 := h3.frozen
    have f4 := h4.frozen
    have e1 : W4.heap.size ≠ w.heap.size + 1 := by omega
    have e2 : W4.heap.size ≠ w.heap.size + 1 + 1 := by omega
    have HF := Lib.hid (find_none (key := key) (l := l) fun r hr => by
      have : r ∈ xs.map Prod.snd := by rw [hS]; exact List.mem_reverse.2 hr
      obtain ⟨y, hy, rfl⟩ := List.mem_map.1 this
      exact h1 y hy)
    clear h1 hS
    gi_wp2
    have hk2 := ((Below.heap_setCell _ ⟨w.heap.size + 1 + 1, 0, none⟩ (.bool false) _ e2).trans (Below.heap_setCell V ⟨w.heap.size + 1, 0, none⟩ (.string ⟨#[]⟩) _ e1)).trans hk
    refine ⟨by simp, .inl ⟨_, _, rfl, run_takeDeferred hk2, ?_⟩⟩
    have k3 := boxed_put (boxed_set_far (u := .bool false) (h3.set (.string ⟨#[]⟩)) (show w.heap.size + 1 ≠ w.heap.size + 1 + 1 by omega)) (fun e => e1 e.symm) (.deferred none)
    have k4 := boxed_put ((boxed_set_far (u := .string ⟨#[]⟩) h4 (show w.heap.size + 1 + 1 ≠ w.heap.size + 1 by omega)).set (.bool false)) (fun e => e2 e.symm) (.deferred none)
    refine ⟨_, results_find rfl rfl k3.cell k4.cell, ⟨#[]⟩, false, rfl, by rw [HF.out]; rfl, by rw [HF.out]; rfl, ?_⟩
    exact ((h5.setCell (p := ⟨w.heap.size + 1, 0, none⟩) (by show w.heap.size ≤ w.heap.size + 1; omega) _).setCell (p := ⟨w.heap.size + 1 + 1, 0, none⟩) (by show w.heap.size ≤ w.heap.size + 1 + 1; omega) _).grown (grownBy_putObj' _ _ _) (by simp [World.setCell]; have := h5.size; omega) (fun k hk => by injection hk with hk; omega)
  case stop =>
    rintro j pre V hS ⟨rfl, p0, x, rfl, h2, h3, h4, h5, h6⟩ hsz hk
    have hsz4 := HS4.out
    have HF := Lib.hid (find_last hS h2 h3)
    have e1 : w.heap.size + 1 ≠ W4.heap.size := by omega
    have e2 : w.heap.size + 1 + 1 ≠ W4.heap.size := by omega
    clear hS h2 h3
    gi_wp2
    refine ⟨by simp, .inl ⟨_, _, rfl, run_takeDeferred hk, ?_⟩⟩
    refine ⟨_, results_find rfl rfl (boxed_put h4 e1 _).cell (boxed_put h5 e2 _).cell, _, true, rfl, by rw [HF.out]; rfl, by rw [HF.out]; rfl, ?_⟩
    exact h6.grown (grownBy_putObj' _ _ _) h6.size (fun k hk => by injection hk with hk; omega)
end Go.Proofs.YtefkgkdocglgaaaDoor
