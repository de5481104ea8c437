/-
  str.Clean.
-/
import Derived.Test.YtpmhmglckeafgaaDoorStrBuild
namespace Go.Proofs.YtpmhmglckeafgaaDoor
open Go.RowKit Go.Shelf
attribute [local go_sem] Oper.semAt_some

theorem join_ne {ps : List (List UInt8)} (h : ∀ p ∈ ps, p ≠ []) (hne : ps ≠ []) : M.join ps ≠ [] := by
  match ps with
  | [] => exact absurd rfl hne
  | [p] => simpa [M.join] using h p (by simp)
  | p :: q :: r => simp [M.join]

theorem join_prefix_length {ps : List (List UInt8)} {s : ByteArray} (h : ps <+: M.names (tl s)) : (M.join ps).length ≤ s.size + 1 ∧ ∀ p ∈ ps, p.length ≤ s.size + 1 := by
  obtain ⟨q, h⟩ := h
  have h1 := M.join_length ps
  have h2 := M.sum_filter M.leads (M.parts (tl s))
  have h3 := M.joinlen_parts (tl s)
  have h4 : (tl s).length = s.size := rfl
  unfold M.names at h
  rw [← h] at h2
  simp at h2
  refine ⟨by omega, fun p hp => ?_⟩
  have : p.length ≤ (ps.map List.length).sum := by
    clear h h1 h2 h3 h4
    induction ps with
    | nil => cases hp
    | cons a r ih =>
      simp
      rcases List.mem_cons.1 hp with rfl | hp
      · omega
      · have := ih hp; omega
  omega

theorem names_ne {ps : List (List UInt8)} {l : List UInt8} (h : ps <+: M.names l) : ∀ p ∈ ps, p ≠ [] := fun _ hp => (M.names_spec (h.subset hp)).1

/-- What Clean answers. -/
def cleanV (l : List UInt8) : Value := .tuple #[.string ⟨(M.clean l).1.toArray⟩, .bool (M.clean l).2]

/-- Between two rounds. -/
def CleanAt (W : World) (b base : Nat) (pre : List ByteArray) (V : World) : Prop :=
  Bld base (b + 2) (M.join (pre.map tl)) V ∧ Boxed V b 9 (.string ⟨#[]⟩) ∧ Boxed V (b + 1) 4 (.bool false) ∧ (pre.map tl).contains [46, 46] = false ∧ Turned (fun k => b ≤ k) W V
/-- Behind a round that stopped. -/
def CleanNo (W : World) (b : Nat) (pre : List ByteArray) (V : World) : Prop :=
  Boxed V b 9 (.string ⟨#[]⟩) ∧ Boxed V (b + 1) 4 (.bool false) ∧ (pre.map tl).contains [46, 46] = true ∧ Turned (fun k => b ≤ k) W V

theorem results_clean {tmps : Array Value} {a b : Nat} {u v : Value} {w : World} (h2 : tmps.getD 2 undef = .pointer (some ⟨a, 0, none⟩)) (h3 : tmps.getD 3 undef = .pointer (some ⟨b, 0, none⟩))
    (c1 : w.cell? ⟨a, 0, none⟩ = some u) (c2 : w.cell? ⟨b, 0, none⟩ = some v) : (results Tryd.f23 tmps).run Tryd.prog w = .ok (.tuple #[u, v]) w := by
  simp only [results, show Tryd.f23.results = #[ResultVar.cell 2 9, ResultVar.cell 3 4] from rfl]
  rw [Array.getD_eq_getD_getElem?] at h2 h3
  simp [go_sem, h2, h3, c1, c2]

set_option maxRecDepth 100000 in
set_option maxHeartbeats 2000000 in
theorem clean_in (s : ByteArray) (hs : s.size ≤ 1000000) (w : World) (n : Nat) :
    CallsIn Fence.wide n Tryd.prog 23 #[.string s] w fun e w' => e = .returned (cleanV (tl s)) ∧ Turned (fun k => w.heap.size ≤ k) w w' := by
  refine callsIn_of_wp_marks Tryd.func23 rfl trivial ?_ rfl
  simp only [Tryd.ntmps23, List.size_toArray, List.length_cons, List.length_nil, Nat.reduceAdd, Nat.reduceSub, Array.replicate_succ, Array.replicate_zero, List.push_toArray, List.append_toArray, List.nil_append, List.cons_append]
  by_cases hp : [47].isPrefixOf (tl s) = true
  · have HP := Lib.hid hp; clear hp
    gi_wp2_with (first
      | (refine ⟨trivial, noDepth, ?_⟩; gi_at_call 27; refine (callsIn_wide.2 (Tryd.strings_HasPrefix _ _ _)).mono ?_; rintro e w' ⟨rfl, rfl⟩; rw [show Lib.hasPrefix s.data.toList _ = true from HP.out]))
    have ht : Turned (fun k => w.heap.size ≤ k) w ((w.alloc (.cells #[.string ⟨#[]⟩] 9)).alloc (.cells #[.bool false] 4)) := (Turned.alloc _ _ _).trans (.alloc _ _ _)
    have hb1 := (Boxed.new w 9 (.string ⟨#[]⟩)).alloc (.cells #[.bool false] 4)
    have hb2 := Boxed.new (w.alloc (.cells #[.string ⟨#[]⟩] 9)) 4 (.bool false)
    rw [World.size_alloc] at hb2
    refine ⟨_, results_clean rfl rfl hb1.cell hb2.cell, ?_, ht⟩
    unfold cleanV M.clean
    rw [if_pos HP.out]
  · have hp' : [47].isPrefixOf (tl s) = false := by cases h : [47].isPrefixOf (tl s) with
      | true => exact absurd h hp
      | false => rfl
    have HP := Lib.hid hp'; clear hp hp'
    gi_wp2_with (first
      | (refine ⟨trivial, noDepth, ?_⟩; gi_at_call 27; refine (callsIn_wide.2 (Tryd.strings_HasPrefix _ _ _)).mono ?_; rintro e w' ⟨rfl, rfl⟩; rw [show Lib.hasPrefix s.data.toList _ = false from HP.out])
      | (refine ⟨trivial, noDepth, ?_⟩; gi_at_call 26; refine (callsIn_wide.2 (names_make _ _)).mono ?_; rintro e w' ⟨rfl, rfl⟩))
    obtain ⟨W3, hW3⟩ : ∃ W3, ((w.alloc (.cells #[.string ⟨#[]⟩] 9)).alloc (.cells #[.bool false] 4)).alloc (.cells #[.pointer none, .slice none 0 0] 50) = W3 := ⟨_, rfl⟩
    have hs3 : W3.heap.size = w.heap.size + 3 := by rw [← hW3]; simp
    have ht3 : Turned (fun k => w.heap.size ≤ k) w W3 := by rw [← hW3]; exact ((Turned.alloc _ _ _).trans (.alloc _ _ _)).trans (.alloc _ _ _)
    have hb1 : Boxed W3 w.heap.size 9 (.string ⟨#[]⟩) := by rw [← hW3]; exact ((Boxed.new w 9 (.string ⟨#[]⟩)).alloc _).alloc _
    have hb2 : Boxed W3 (w.heap.size + 1) 4 (.bool false) := by
      have h := Boxed.new (w.alloc (.cells #[.string ⟨#[]⟩] 9)) 4 (.bool false)
      rw [World.size_alloc] at h
      rw [← hW3]; exact h.alloc _
    have hbl : Bld (w.heap.size + 12) (w.heap.size + 2) [] W3 := by
      have h := Bld.new ((w.alloc (.cells #[.string ⟨#[]⟩] 9)).alloc (.cells #[.bool false] 4)) (w.heap.size + 12)
      simp only [World.size_alloc] at h
      rw [← hW3]; exact h
    rw [hW3]
    clear hW3
    rw [show w.heap.size + 1 + 1 + 1 = W3.heap.size from by omega, show w.heap.size + 1 + 1 = w.heap.size + 2 from rfl]
    have hlt1 := hb1.lt
    have hlt2 := hb2.lt
    have HS := Lib.hid hs3; clear hs3
    have hs4 : ∀ o, (W3.alloc o).heap.size = w.heap.size + 4 := fun o => by rw [World.size_alloc, HS.out]
    have HS4 := Lib.hid hs4; clear hs4
    have hown : ∀ k, ownOf (fun k => k = W3.heap.size) 8 (W3.alloc (.cells #[.string s] 9)) k → w.heap.size + 3 ≤ k ∧ k < w.heap.size + 12 := by
      have := HS.out; have h4 := HS4.out (.cells #[.string s] 9)
      rintro k (rfl | ⟨h1, h2⟩)
      · omega
      · omega
    have hnb : ∀ k, bldOwn (w.heap.size + 12) (w.heap.size + 2) k → w.heap.size ≤ k ∧ k ≠ w.heap.size ∧ k ≠ w.heap.size + 1 ∧ ¬ ownOf (fun k => k = W3.heap.size) 8 (W3.alloc (.cells #[.string s] 9)) k := by
      intro k hk
      refine ⟨?_, ?_, ?_, fun ho => ?_⟩
      · rcases hk with rfl | hk <;> omega
      · rcases hk with rfl | hk <;> omega
      · rcases hk with rfl | hk <;> omega
      · have := hown k ho
        rcases hk with rfl | hk <;> omega
    refine wpIn_range (gf := 38) (lb := #[.pointer (some ⟨W3.heap.size, 0, none⟩)]) rfl (enters_of Tryd.func38 (by kernel_rfl) rfl)
      (names_iter s hs W3.heap.size) (fun o1 o2 => ((Boxed.new W3 9 (.string s)).alloc _).alloc _) ?pv (fun _ => rfl)
      (fun pre V => CleanAt w w.heap.size (w.heap.size + 12) pre V) (fun j pre V => j = .ret ∧ CleanNo w w.heap.size pre V) ?hI ?hIx ?h0
      (fun x => { tmps := #[.string s, undef, .pointer (some ⟨w.heap.size, 0, none⟩), .pointer (some ⟨w.heap.size + 1, 0, none⟩), .pointer (some ⟨w.heap.size + 2, 0, none⟩), .string x, .string s, .bool false, .string s,
        .func (.func 38) #[] #[.pointer (some ⟨W3.heap.size, 0, none⟩)], .string x, undef, undef, undef, undef, undef, undef, undef, undef], defers := [] }) ?assign ?body ?done ?stop
    case pv => rintro k rfl; simp
    case hI =>
      rintro pre A B ⟨h1, h2, h3, h4, h5⟩ ht
      exact ⟨h1.turned ht (fun ho => by have := hown _ ho; omega) (fun k hk ho => by have := hown _ ho; omega), boxed_turned h2 ht (fun ho => by have := hown _ ho; omega), boxed_turned h3 ht (fun ho => by have := hown _ ho; omega), h4,
        h5.trans (ht.mono (fun k hk => by have := hown _ hk; omega))⟩
    case hIx =>
      rintro j pre A B ⟨h0, h2, h3, h4, h5⟩ ht
      exact ⟨h0, boxed_turned h2 ht (fun ho => by have := hown _ ho; omega), boxed_turned h3 ht (fun ho => by have := hown _ ho; omega), h4, h5.trans (ht.mono (fun k hk => by have := hown _ hk; omega))⟩
    case h0 =>
      exact ⟨hbl.turned (own := fun _ => False) (.alloc _ _ _) (fun h => h) (fun _ _ h => h), hb1.alloc _, hb2.alloc _, rfl, ht3.trans (.alloc _ _ _)⟩
    case assign =>
      intro l' m x V K hK
      gi_wp2
      exact hK
    case body =>
      rintro l' m pre x V ⟨h1, h2, h3, h4, h5⟩ hsz hR
      have hc2 := h2.cell
      have hc3 := h3.cell
      have hf2 := h2.frozen
      have hf3 := h3.frozen
      have hbase : w.heap.size + 12 ≤ V.heap.size := by have := HS4.out (.cells #[.string s] 9); omega
      obtain ⟨hjl, hpl⟩ := join_prefix_length hR
      have hxl : x.size ≤ 1000001 := by have := hpl (tl x) (by simp); have h6 : (tl x).length = x.size := rfl; omega
      have hjl0 : (M.join (pre.map tl)).length ≤ 1000001 := by
        have : pre.map tl <+: M.names (tl s) := by rw [List.map_append] at hR; exact (List.prefix_append _ _).trans hR
        have := (join_prefix_length this).1
        omega
      have hne := names_ne hR
      have HR := Lib.hid hR
      clear hR hpl hjl
      by_cases hdd : (x.toList == [46, 46]) = true
      · have hd : tl x = [46, 46] := by rw [tl_eq] at hdd; simpa using hdd
        have HD := Lib.hid hd; clear hd
        have H4 := Lib.hid h4; clear h4
        have HN := Lib.hid hne; clear hne
        gi_wp2
        refine ⟨(Spared.grown (grownBy_setCell' _ _ _) (fun r e ho => ?_)).trans (Spared.grown (grownBy_setCell' _ _ _) (fun r e ho => ?_)), rfl, boxed_set_far (h2.set _) (by omega), (boxed_set_far h3 (by omega)).set _, ?_, ?_⟩
        · cases e; have := hown _ ho; omega
        · cases e; have := hown _ ho; omega
        · simp [HD.out]
        · exact (h5.trans (.setCell (p := ⟨w.heap.size, 0, none⟩) (Nat.le_refl _) _ _)).trans (.setCell (p := ⟨w.heap.size + 1, 0, none⟩) (Nat.le_succ _) _ _)
      · have hdd' : (x.toList == [46, 46]) = false := by simpa using hdd
        have hd : (pre.map tl ++ [tl x]).contains [46, 46] = false := by
          rw [tl_eq] at hdd'
          have h6 : ¬ [46, 46] ∈ pre.map tl := by simpa using h4
          have h7 : tl x ≠ [46, 46] := by simpa using hdd'
          simp only [List.contains_eq_mem, List.mem_append, List.mem_singleton, decide_eq_false_iff_not, not_or]
          exact ⟨h6, fun e => h7 e.symm⟩
        have HD := Lib.hid hd; clear hd hdd
        have H4 := Lib.hid h4; clear h4
        have hj := M.join_snoc (pre.map tl) (tl x)
        have hjn : pre.map tl ≠ [] → M.join (pre.map tl) ≠ [] := join_ne (fun p hp => hne p (by rw [List.map_append]; exact List.mem_append_left _ hp))
        clear hne
        have fin : ∀ (L : List UInt8) (W' : World), L = M.join (pre.map tl ++ [tl x]) → Bld (w.heap.size + 12) (w.heap.size + 2) L W' → Turned (bldOwn (w.heap.size + 12) (w.heap.size + 2)) V W' →
            Spared (ownOf (fun k => k = W3.heap.size) (6 + 2) (W3.alloc (.cells #[.string s] 9))) V W' ∧ CleanAt w w.heap.size (w.heap.size + 12) (pre ++ [x]) W' := by
          intro L W' hL hb ht
          refine ⟨Spared.turned ht (fun k hk => (hnb k hk).2.2.2), ?_, boxed_turned h2 ht (fun ho => (hnb _ ho).2.1 rfl), boxed_turned h3 ht (fun ho => (hnb _ ho).2.2.1 rfl), ?_, h5.trans (ht.mono (fun k hk => (hnb k hk).1))⟩
          · rw [List.map_append, List.map_singleton, ← hL]; exact hb
          · rw [List.map_append, List.map_singleton]; exact HD.out
        by_cases hpre : pre.map tl = []
        · rw [hpre] at h1 hj fin
          have HJ := Lib.hid hj; clear hj hjn hjl0
          have HP2 := Lib.hid hpre; clear hpre
          gi_wp2_with (first
            | (refine ⟨trivial, noDepth, ?_⟩; gi_at_call 33; refine (CallsIn.inRound _ (callsIn_wide.2 (bldLen_any (w.heap.size + 12) (w.heap.size + 2) (by omega) _ V h1))).mono ?_; rintro e w' ⟨rfl, rfl⟩; simp only [M.join, List.length_nil])
            | (refine ⟨trivial, noDepth, ?_⟩; gi_at_call 35; refine (CallsIn.inRound _ (callsIn_wide.2 (writeString_any (w.heap.size + 12) (w.heap.size + 2) (by omega) _ (by simp [M.join]) x (by omega) _ h1 hbase))).mono ?_; rintro e w' ⟨rfl, hb', ht'⟩))
          exact fin _ w' (by rw [HJ.out]; simp [M.join]) hb' ht'
        · have hpos : (0 : Int) < (M.join (pre.map tl)).length := by have := List.length_pos_iff.2 (hjn hpre); omega
          have hj2 : M.join (pre.map tl ++ [tl x]) = M.join (pre.map tl) ++ 47 :: tl x := by rw [hj, if_neg hpre]
          clear hj hjn hpre
          have HJ := Lib.hid hj2; clear hj2
          generalize M.join (pre.map tl) = L at *
          have hlen2 : (L ++ [47]).length ≤ 10000000 := by simp; omega
          gi_wp2_with (first
            | (refine ⟨trivial, noDepth, ?_⟩; gi_at_call 33; refine (CallsIn.inRound _ (callsIn_wide.2 (bldLen_any (w.heap.size + 12) (w.heap.size + 2) (by omega) _ V h1))).mono ?_; rintro e w' ⟨rfl, rfl⟩)
            | (refine ⟨trivial, noDepth, ?_⟩; gi_at_call 34; refine (CallsIn.inRound _ (callsIn_wide.2 (writeByte_any (w.heap.size + 12) (w.heap.size + 2) (by omega) L (by omega) 47 _ h1 hbase))).mono ?_; rintro e w1 ⟨rfl, hb1', ht1'⟩; have hbase1 : w.heap.size + 12 ≤ w1.heap.size := Nat.le_trans hbase ht1'.size)
            | (refine ⟨trivial, noDepth, ?_⟩; gi_at_call 35; refine (CallsIn.inRound _ (callsIn_wide.2 (writeString_any (w.heap.size + 12) (w.heap.size + 2) (by omega) (L ++ [47]) hlen2 x (by omega) _ hb1' hbase1))).mono ?_; rintro e w' ⟨rfl, hb', ht'⟩))
          exact fin _ w' (by rw [HJ.out]; simp) hb' (ht1'.trans ht')
    case done =>
      rintro xs V hS ⟨h1, h2, h3, h4, h5⟩ hsz hk
      have hkl : V.heap.size > (W3.alloc (.cells #[.string s] 9)).heap.size := (Array.getElem?_eq_some_iff.1 hk).1
      have hD := HS4.out (.cells #[.string s] 9)
      gi_wp2_with (first
        | (refine ⟨trivial, noDepth, ?_⟩; gi_at_call 36; refine (callsIn_wide.2 (bldString_any (w.heap.size + 12) (w.heap.size + 2) _ V h1)).mono ?_; rintro e w' ⟨rfl, ht'⟩;
           have g2 := boxed_turned h2 ht' (fun ho => (hnb _ ho).2.1 rfl); have g3 := boxed_turned h3 ht' (fun ho => (hnb _ ho).2.2.1 rfl);
           have c2 := g2.cell; have c3 := g3.cell; have f2 := g2.frozen; have f3 := g3.frozen))
      have hk' : w'.heap[(W3.alloc (.cells #[.string s] 9)).heap.size]? = some (.deferred (some [])) := (ht'.block _ hkl (fun ho => by rcases ho with ho | ho <;> omega)).trans hk
      rw [hD] at hk'
      have e0 : w.heap.size + 4 ≠ w.heap.size := by omega
      have e1 : w.heap.size + 4 ≠ w.heap.size + 1 := by omega
      have hk2 := ((Below.heap_setCell _ ⟨w.heap.size + 1, 0, none⟩ (.bool true) _ e1).trans (Below.heap_setCell w' ⟨w.heap.size, 0, none⟩ (.string ⟨(M.join (M.names (tl s))).toArray⟩) _ e0)).trans hk'
      refine ⟨by simp, .inl ⟨_, _, rfl, run_takeDeferred hk2, ?_⟩⟩
      have k2 := boxed_set_far (u := .bool true) (g2.set (.string ⟨(M.join (M.names (tl s))).toArray⟩)) (show w.heap.size ≠ w.heap.size + 1 by omega)
      have k3 := (boxed_set_far (u := .string ⟨(M.join (M.names (tl s))).toArray⟩) g3 (show w.heap.size + 1 ≠ w.heap.size by omega)).set (.bool true)
      have ht2 : Turned (fun k => w.heap.size ≤ k) w ((w'.setCell ⟨w.heap.size, 0, none⟩ (.string ⟨(M.join (M.names (tl s))).toArray⟩)).setCell ⟨w.heap.size + 1, 0, none⟩ (.bool true)) :=
        ((h5.trans (ht'.mono (fun k hk => (hnb k hk).1))).trans (.setCell (p := ⟨w.heap.size, 0, none⟩) (Nat.le_refl _) _ _)).trans (.setCell (p := ⟨w.heap.size + 1, 0, none⟩) (Nat.le_succ _) _ _)
      have hp := Turned.putObj (own := fun k => k = w.heap.size + 4) rfl ((w'.setCell ⟨w.heap.size, 0, none⟩ (.string ⟨(M.join (M.names (tl s))).toArray⟩)).setCell ⟨w.heap.size + 1, 0, none⟩ (.bool true)) (.deferred none)
      refine ⟨_, results_clean rfl rfl (boxed_turned k2 hp (fun e => e0 e.symm)).cell (boxed_turned k3 hp (fun e => e1 e.symm)).cell, ?_, ht2.trans (hp.mono (fun k hk => by omega))⟩
      rw [hS] at h4
      unfold cleanV M.clean
      rw [if_neg (by rw [HP.out]; decide), if_neg (by rw [h4]; decide)]
    case stop =>
      rintro j pre V ⟨q, hS⟩ ⟨rfl, h2, h3, h4, h5⟩ hsz hk
      have hD := HS4.out (.cells #[.string s] 9)
      gi_wp2
      refine ⟨by simp, .inl ⟨_, _, rfl, run_takeDeferred hk, ?_⟩⟩
      have ht := Turned.putObj (own := fun k => k = (W3.alloc (.cells #[.string s] 9)).heap.size) rfl V (.deferred none)
      refine ⟨_, results_clean rfl rfl (boxed_turned h2 ht (by omega)).cell (boxed_turned h3 ht (by omega)).cell, ?_, h5.trans (ht.mono (fun k hk => by omega))⟩
      unfold cleanV M.clean
      rw [if_neg (by rw [HP.out]; decide), if_pos (by rw [← hS, List.contains_eq_mem, decide_eq_true_eq]; exact List.mem_append_left _ (by simpa using h4))]

/-- str.Clean. -/
theorem clean_any (s : ByteArray) (hs : s.size ≤ 1000000) (w : World) :
    Calls Tryd.prog 23 #[.string s] w fun e w' => e = .returned (cleanV (tl s)) ∧ Below w.heap.size w w' :=
  (callsIn_wide.1 (clean_in s hs w 0)).mono fun _ _ ⟨he, ht⟩ => ⟨he, ht.below (fun _ hk => hk) (Nat.le_refl _)⟩
end Go.Proofs.YtpmhmglckeafgaaDoor
