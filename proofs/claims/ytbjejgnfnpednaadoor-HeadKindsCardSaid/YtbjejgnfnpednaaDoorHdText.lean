/-
  A text's field is parsed.
-/
import Derived.Test.YtbjejgnfnpednaaDoorHdField
import Derived.Test.YtbjejgnfnpednaaDoorHStrCut
import Derived.IntWalk
namespace Go.Proofs.YtbjejgnfnpednaaDoor
open Go.RowKit Go.Lib

/-- What parsing a text's field answers. -/
def TxtTo (zs : List Int) (a m : Nat) (there : Bool) (p : Addr) (w : World) (e : Ending) (w' : World) : Prop :=
  e = .returned (.tuple #[]) ∧ if there = true then ∃ w1, Below w.heap.size w w1 ∧ w' = w1.setCell p (.string (M.txt zs a m)) else Below w.heap.size w w'

set_option maxRecDepth 100000 in
set_option maxHeartbeats 1000000 in
theorem text_parse (a m : Nat) (there : Bool) (g i : Nat) (b off n c : Nat) (zs : List Int) (old : Value) (w : World) (B : Nat) (hr : Rd w B (some ⟨b, off, none⟩) n zs) (hB : B ≤ w.heap.size) (ham : a + m ≤ n) (hm : 0 < m) (hms : m ≤ 1000) (hc : n ≤ c) (hcm : c ≤ maxLen)
    (hcell : w.cell? ⟨g, i, none⟩ = some old) (hfz : w.frozen? ⟨g, i, none⟩ = false) :
    Calls Tryd.prog 36 #[tfv a m there ⟨g, i, none⟩, .slice (some ⟨b, off, none⟩) n c] w (TxtTo zs a m there ⟨g, i, none⟩ w) := by
  have hg : g < w.heap.size := World.block_lt_of_cell? _ _ hcell
  cases there with
  | false =>
    unfold tfv
    go_enter Tryd.func36, Tryd.ntmps36
    go_wp2
    go_end0
    all_goals exact ⟨rfl, (Below.refl _ _).alloc (Nat.le_refl _) _⟩
  | true =>
    have HC0 := fun (W : World) (hW : Below w.heap.size w W) => S.cut_any (some ⟨b, off + a, none⟩) m (c - a) (M.toB (M.sub zs a m)) W (by
      rw [M.ints_toB (M.sub_bd hr.bd)]
      exact (((hr.sub ham).more hB).below hW).more hW.size) (by omega) (by omega) (fun h => by cases h)
    unfold maxLen at hcm
    have E1 := hid (IntWalk.i64_in ((a : Int) + (m : Int)) (by omega))
    have E2 := hid (show (0 : Int) ≤ (a : Int) + (m : Int) ∧ (a : Int) + (m : Int) ≤ (c : Int) by omega)
    have E3 := hid (show ((a : Int) + (m : Int)).toNat = a + m by omega)
    have E4 := hid (show ¬ c = a by omega)
    unfold tfv
    go_enter Tryd.func36, Tryd.ntmps36
    go_wp2_with fail
    generalize hW1 : w.alloc _ = W1
    obtain ⟨hq, hb1, _⟩ := after_alloc hW1
    have CF := hid (fun (W : World) (hW : Below W1.heap.size W1 W) => (show W.cell? ⟨w.heap.size, 0, none⟩ = some (.int .i64 a) ∧ W.cell? ⟨w.heap.size, 1, none⟩ = some (.int .i64 m) ∧ W.cell? ⟨w.heap.size, 3, none⟩ = some (.pointer (some ⟨g, i, none⟩)) ∧ W.cell? ⟨g, i, none⟩ = some old ∧ W.frozen? ⟨g, i, none⟩ = false ∧ Below w.heap.size w W by
      have h1 := hb1.trans (hW.mono hb1.size)
      have hlt : w.heap.size < W1.heap.size := (Array.getElem?_eq_some_iff.1 hq).1
      have hq2 : W.heap[w.heap.size]? = _ := (hW.block _ hlt).trans hq
      exact ⟨(cell_of_row _ _ 0 _ _ _ hq2).trans rfl, (cell_of_row _ _ 1 _ _ _ hq2).trans rfl, (cell_of_row _ _ 3 _ _ _ hq2).trans rfl, (h1.cell hg).trans hcell, (frozen_of_heap (h1.block g hg)).trans hfz, h1⟩))
    have HC := hid (fun (W : World) (hW : Below W1.heap.size W1 W) => HC0 W (hb1.trans (hW.mono hb1.size)))
    have CS := hid (fun (W : World) (hW : ∃ W0, Below W1.heap.size W1 W0 ∧ (W = W0 ∨ W = W0.setCell ⟨g, i, none⟩ (.string (M.txt zs a m)))) => (show W.cell? ⟨w.heap.size, 0, none⟩ = some (.int .i64 a) ∧ W.cell? ⟨w.heap.size, 1, none⟩ = some (.int .i64 m) ∧ W.cell? ⟨w.heap.size, 3, none⟩ = some (.pointer (some ⟨g, i, none⟩)) by
      obtain ⟨W0, h0, h1⟩ := hW
      obtain ⟨y0, y1, y3, _⟩ := CF.out W0 h0
      rcases h1 with rfl | rfl
      · exact ⟨y0, y1, y3⟩
      · have hne : ∀ k : Nat, (⟨w.heap.size, k, none⟩ : Addr) ≠ ⟨g, i, none⟩ := fun k e => by injection e with e _; omega
        exact ⟨(World.cell?_setCell_other _ _ _ _ (hne 0).symm).trans y0, (World.cell?_setCell_other _ _ _ _ (hne 1).symm).trans y1, (World.cell?_setCell_other _ _ _ _ (hne 3).symm).trans y3⟩))
    clear HC0 hq hb1 hW1 hr hcell hfz
    refine wp_region_held_drew (S := fun W => ∃ W0, Below W1.heap.size W1 W0 ∧ (W = W0 ∨ W = W0.setCell ⟨g, i, none⟩ (.string (M.txt zs a m)))) (by kernel_rfl) ⟨_, below_drew' (Below.refl _ _), .inl rfl⟩ (fun hS => ?_)
    refine takeH (i := 0) (v := ?_) 6 rfl rfl (by kernel_rfl) (by kernel_rfl) (by kernel_rfl) (fun _ _ _ h => h) (by rfl) ?hy0 hS ?rest0
    case hy0 => (intro W hW; have f0 := (CS.out W hW).1; have f1 := (CS.out W hW).2.1; have f2 := (CS.out W hW).2.2; clear hW; go_simp; first | done | with_reducible rfl)
    try simp only [Act.put, List.setIfInBounds_toArray, List.set_cons_zero, List.set_cons_succ]
    refine takeH (i := 1) (v := ?_) 7 rfl rfl (by kernel_rfl) (by kernel_rfl) (by kernel_rfl) (fun _ _ _ h => h) (by rfl) ?hy1 hS ?rest1
    case hy1 => (intro W hW; have f0 := (CS.out W hW).1; have f1 := (CS.out W hW).2.1; have f2 := (CS.out W hW).2.2; clear hW; go_simp; first | done | with_reducible rfl)
    try simp only [Act.put, List.setIfInBounds_toArray, List.set_cons_zero, List.set_cons_succ]
    refine takeH (i := 2) (v := ?_) 8 rfl rfl (by kernel_rfl) (by kernel_rfl) (by kernel_rfl) (fun _ _ _ h => h) (by rfl) ?hy2 hS ?rest2
    case hy2 => (intro W hW; have f0 := (CS.out W hW).1; have f1 := (CS.out W hW).2.1; have f2 := (CS.out W hW).2.2; clear hW; go_simp; first | done | with_reducible rfl)
    try simp only [Act.put, List.setIfInBounds_toArray, List.set_cons_zero, List.set_cons_succ]
    refine takeH (i := 3) (v := ?_) 9 rfl rfl (by kernel_rfl) (by kernel_rfl) (by kernel_rfl) (fun _ _ _ h => h) (by rfl) ?hy3 hS ?rest3
    case hy3 => (intro W hW; have f0 := (CS.out W hW).1; have f1 := (CS.out W hW).2.1; have f2 := (CS.out W hW).2.2; clear hW; go_simp; first | done | with_reducible rfl)
    try simp only [Act.put, List.setIfInBounds_toArray, List.set_cons_zero, List.set_cons_succ]
    refine takeH (i := 4) (v := ?_) 10 rfl rfl (by kernel_rfl) (by kernel_rfl) (by kernel_rfl) (fun _ _ _ h => h) (by rfl) ?hy4 hS ?rest4
    case hy4 => (intro W hW; have f0 := (CS.out W hW).1; have f1 := (CS.out W hW).2.1; have f2 := (CS.out W hW).2.2; clear hW; go_simp; first | done | with_reducible rfl)
    try simp only [Act.put, List.setIfInBounds_toArray, List.set_cons_zero, List.set_cons_succ]
    refine takeH (i := 5) (v := ?_) 11 rfl rfl (by kernel_rfl) (by kernel_rfl) (by kernel_rfl) (fun _ _ _ h => h) (by rfl) ?hy5 hS ?rest5
    case hy5 => (intro W hW; have f0 := (CS.out W hW).1; have f1 := (CS.out W hW).2.1; have f2 := (CS.out W hW).2.2; clear hW; go_simp; first | done | with_reducible rfl)
    try simp only [Act.put, List.setIfInBounds_toArray, List.set_cons_zero, List.set_cons_succ]
    refine takeH (i := 6) (v := ?_) 12 rfl rfl (by kernel_rfl) (by kernel_rfl) (by kernel_rfl) (fun _ _ _ h => h) (by rfl) ?hy6 hS ?rest6
    case hy6 => (intro W hW; have f0 := (CS.out W hW).1; have f1 := (CS.out W hW).2.1; have f2 := (CS.out W hW).2.2; clear hW; go_simp; first | done | with_reducible rfl)
    try simp only [Act.put, List.setIfInBounds_toArray, List.set_cons_zero, List.set_cons_succ]
    refine takeH (i := 7) (v := ?_) 13 rfl rfl (by kernel_rfl) (by kernel_rfl) (by kernel_rfl) (fun _ _ _ h => h) (by rfl) ?hy7 hS ?rest7
    case hy7 => (intro W hW; have f0 := (CS.out W hW).1; have f1 := (CS.out W hW).2.1; have f2 := (CS.out W hW).2.2; clear hW; go_simp; first | done | with_reducible rfl)
    try simp only [Act.put, List.setIfInBounds_toArray, List.set_cons_zero, List.set_cons_succ]
    refine takeH (i := 8) (v := ?_) 14 rfl rfl (by kernel_rfl) (by kernel_rfl) (by kernel_rfl) (fun _ _ _ h => h) (by rfl) ?hy8 hS ?rest8
    case hy8 => (intro W hW; have f0 := (CS.out W hW).1; have f1 := (CS.out W hW).2.1; have f2 := (CS.out W hW).2.2; clear hW; go_simp; first | done | with_reducible rfl)
    try simp only [Act.put, List.setIfInBounds_toArray, List.set_cons_zero, List.set_cons_succ]
    refine takeH (i := 9) (v := ?_) 15 rfl rfl (by kernel_rfl) (by kernel_rfl) (by kernel_rfl) (fun _ _ _ h => h) (by rfl) ?hy9 hS ?rest9
    case hy9 => (intro W hW; have f0 := E1.out; clear hW; go_simp; first | done | with_reducible rfl)
    try simp only [Act.put, List.setIfInBounds_toArray, List.set_cons_zero, List.set_cons_succ]
    refine takeH (i := 10) (v := ?_) 16 rfl rfl (by kernel_rfl) (by kernel_rfl) (by kernel_rfl) (fun _ _ _ h => h) (by rfl) ?hy10 hS ?rest10
    case hy10 => (intro W hW; have f0 := E2.out; have f1 := E3.out; have f2 := E4.out; clear hW; go_simp; first | done | with_reducible rfl)
    try simp only [Act.put, List.setIfInBounds_toArray, List.set_cons_zero, List.set_cons_succ]
    refine loneH (i := 11) 17 rfl rfl (by kernel_rfl) (by rfl) (fun K hK => ?_)
    go_simp
    (with_reducible refine (HC.out _ (below_drew' (Below.refl _ _))).mono ?_)
    rintro e w2 ⟨rfl, b2⟩
    have B2 := (below_drew' (Below.refl W1.heap.size W1)).trans (b2.mono (Nat.le_refl _))
    clear hS b2
    refine hK.out _ _ ⟨_, B2, .inl rfl⟩ (fun hS => ?_)
    clear hK K
    try simp only [Act.put, List.setIfInBounds_toArray, List.set_cons_zero, List.set_cons_succ]
    refine takeH (i := 12) (v := ?_) 18 rfl rfl (by kernel_rfl) (by kernel_rfl) (by kernel_rfl) (fun _ _ _ h => h) (by rfl) ?hy12 hS ?rest12
    case hy12 => (intro W hW; clear hW; go_simp; first | done | with_reducible rfl)
    try simp only [Act.put, List.setIfInBounds_toArray, List.set_cons_zero, List.set_cons_succ]
    obtain ⟨_, _, _, x4, x5, x6⟩ := CF.out _ B2
    have HX := hid x6
    clear x6
    refine loneN (i := 13) rfl rfl (by kernel_rfl) (by rfl) (fun K hK => ?_)
    go_simp
    refine hK.out _ _ ⟨_, B2, .inr rfl⟩ (fun hS => ?_)
    clear hK K
    try simp only [Act.put, List.setIfInBounds_toArray, List.set_cons_zero, List.set_cons_succ]
    refine wpAnyH_done (by kernel_rfl) ?_ _
    go_wp2
    go_end0
    all_goals exact ⟨rfl, by rw [if_pos rfl]; exact ⟨_, HX.out, rfl⟩⟩
end Go.Proofs.YtbjejgnfnpednaaDoor
