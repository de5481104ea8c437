/-
  Texts of one chapter, merged.
-/
import Derived.Test.YtkpnhggpcpjddaaGreatDoorHMc
import Derived.Test.YtkpnhggpcpjddaaGreatDoorHMi
import Derived.Test.YtkpnhggpcpjddaaGreatDoorHMr
import Derived.Test.YtkpnhggpcpjddaaGreatDoorHMb
import Derived.IntWalk
import Derived.LoopTactic
set_option linter.unusedVariables false
set_option linter.unusedSimpArgs false
/-! A field is parsed: a text's, a number's. -/
namespace Go.Proofs.YtkpnhggpcpjddaaGreatDoor
open Go.RowKit Go.Lib

theorem Rd.sub {w : World} {B b off n : Nat} {zs : List Int} (h : Rd w B (some ⟨b, off, none⟩) n zs) {a m : Nat} (ham : a + m ≤ n) : Rd w B (some ⟨b, off + a, none⟩) m (M.sub zs a m) := by
  refine ⟨M.sub_len (by rw [h.len]; exact ham), M.sub_bd h.bd, fun hm => ?_⟩
  obtain ⟨b', off', e, hb, hc⟩ := h.2.2 (by omega)
  injection e with e
  injection e with e1 e2
  subst e1 e2
  refine ⟨_, _, rfl, hb, fun j z hj => ?_⟩
  unfold M.sub at hj
  rw [List.getElem?_take] at hj
  split at hj
  · rw [List.getElem?_drop] at hj
    rw [Nat.add_assoc]
    exact hc _ z hj
  · cases hj

/-- What parsing a number's field answers. -/
def NumTo (zs : List Int) (a m : Nat) (there : Bool) (lo up : Int) (p : Addr) (w : World) (e : Ending) (w' : World) : Prop :=
  if there = true then
    if M.numOk zs a m lo up = true then e = .returned (.tuple #[]) ∧ ∃ w1, Below w.heap.size w w1 ∧ w' = w1.setCell p (.int .i64 (M.num zs a m))
    else e = .panicked (boom 32) ∧ Below w.heap.size w w'
  else e = .returned (.tuple #[]) ∧ Below w.heap.size w w'

set_option maxRecDepth 100000 in
set_option maxHeartbeats 1000000 in
theorem number_parse (a m : Nat) (there : Bool) (lo up : Int) (g i : Nat) (b off n c : Nat) (zs : List Int) (old : Value) (w : World) (B : Nat) (hr : Rd w B (some ⟨b, off, none⟩) n zs) (hB : B ≤ w.heap.size) (ham : a + m ≤ n) (hm : 0 < m) (hc : n ≤ c) (hcm : c ≤ maxLen)
    (hcell : w.cell? ⟨g, i, none⟩ = some old) (hfz : w.frozen? ⟨g, i, none⟩ = false) :
    Calls Tryz.prog 55 #[nfv a m there lo up ⟨g, i, none⟩, .slice (some ⟨b, off, none⟩) n c] w (NumTo zs a m there lo up ⟨g, i, none⟩ w) := by
  have hg : g < w.heap.size := World.block_lt_of_cell? _ _ hcell
  cases there with
  | false =>
    unfold nfv
    go_enter Tryz.func55, Tryz.ntmps55
    go_wp2
    go_end0
    all_goals exact ⟨rfl, (Below.refl _ _).alloc (Nat.le_refl _) _⟩
  | true =>
    obtain ⟨x, hx⟩ : ∃ x, M.num zs a m = x := ⟨_, rfl⟩
    have HP := hid (fun (o : Obj) => (show Calls Tryz.prog 73 #[.slice (some ⟨b, off + a, none⟩) m (c - a)] (w.alloc o) fun e w' => e = .returned (.tuple #[.int .i64 x, .bool (M.parOk (M.sub zs a m))]) ∧ w.alloc o = w' by
      rw [← hx]
      exact parse_any _ m (c - a) _ _ B ((hr.sub ham).alloc hB o) (by omega) (Nat.le_trans (Nat.sub_le _ _) hcm)))
    unfold maxLen at hcm
    have HM := fun W => mayTell_any a m true lo up ⟨g, i, none⟩ x W
    unfold nfv at HM
    have HMM := hid HM
    clear HM
    have HX := hid (fun (W1 W2 : World) (vs : Array Value) (t : TypeId) (e : W1 = w.alloc (.cells vs t)) (hb : Below W1.heap.size W1 W2) => (show W2.cell? ⟨g, i, none⟩ = some old ∧ W2.frozen? ⟨g, i, none⟩ = false ∧ W2.heap[w.heap.size]? = some (.cells vs t (0, 0)) ∧ Below w.heap.size w W2 by
      subst e
      have h0 := (Below.refl w.heap.size w).alloc (Nat.le_refl _) (.cells vs t)
      have h1 := h0.trans (hb.mono h0.size)
      refine ⟨(h1.cell hg).trans hcell, (frozen_of_heap (h1.block g hg)).trans hfz, ?_, h1⟩
      rw [hb.block _ (by simp)]
      exact heap_alloc_new w _))
    have HN : Hid (M.numOk zs a m lo up = (M.parOk (M.sub zs a m) && (decide (lo ≤ x) && decide (x ≤ up)))) := hid (by unfold M.numOk; rw [hx])
    have HXX := hid hx
    clear hx hr
    cases hok : M.parOk (M.sub zs a m) with
    | false =>
      rw [hok] at HP HN
      unfold nfv
      go_enter Tryz.func55, Tryz.ntmps55
      go_wp2_with (first
        | (go_at_call 73; (with_reducible refine (HP.out _).mono ?_); rintro e w1 ⟨rfl, rfl⟩)
        | (go_at_call 48; (with_reducible refine (demand_no _ _).mono ?_); rintro e w1 ⟨rfl, rfl⟩))
      exact ⟨rfl, (by unfold NumTo; rw [if_pos rfl, HN.out]; exact ⟨rfl, (Below.refl _ _).alloc (Nat.le_refl _) _⟩)⟩
    | true =>
      rw [hok] at HP HN
      cases hlu : (decide (lo ≤ x) && decide (x ≤ up)) with
      | false =>
        rw [hlu] at HN HMM
        unfold nfv
        go_enter Tryz.func55, Tryz.ntmps55
        go_wp2_with (first
          | (go_at_call 73; (with_reducible refine (HP.out _).mono ?_); rintro e w1 ⟨rfl, rfl⟩)
          | (go_at_call 75; (with_reducible refine (HMM.out _).mono ?_); rintro e w2 ⟨rfl, b2⟩)
          | (go_at_call 48; (with_reducible refine (demand_no _ _).mono ?_); rintro e w1 ⟨rfl, rfl⟩))
        exact ⟨rfl, (by unfold NumTo; rw [if_pos rfl, HN.out]; exact ⟨rfl, (HX.out _ _ _ _ rfl b2).2.2.2⟩)⟩
      | true =>
        rw [hlu] at HN HMM
        unfold nfv
        go_enter Tryz.func55, Tryz.ntmps55
        go_wp2_with (first
          | (go_at_call 73; (with_reducible refine (HP.out _).mono ?_); rintro e w1 ⟨rfl, rfl⟩)
          | (go_at_call 75; (with_reducible refine (HMM.out _).mono ?_); rintro e w2 ⟨rfl, b2⟩; obtain ⟨x1, x2, x3, x4⟩ := HX.out _ _ _ _ rfl b2; have x5 := cell_of_row _ _ 5 _ _ _ x3; have HX4 := hid x4; simp at x5; clear x3 x4 b2)
          | (go_at_call 48; (with_reducible refine (demand_yes _ _).mono ?_); rintro e w1 ⟨rfl, rfl⟩))
        go_end0
        all_goals exact (by unfold NumTo; rw [if_pos rfl, HN.out]; exact ⟨rfl, _, HX4.out, by rw [HXX.out]⟩)
end Go.Proofs.YtkpnhggpcpjddaaGreatDoor

/-! A text's field is parsed. -/
namespace Go.Proofs.YtkpnhggpcpjddaaGreatDoor
open Go.RowKit Go.Lib

/-- What parsing a text's field answers. -/
def TxtTo (zs : List Int) (a m : Nat) (there : Bool) (p : Addr) (w : World) (e : Ending) (w' : World) : Prop :=
  e = .returned (.tuple #[]) ∧ if there = true then ∃ w1, Below w.heap.size w w1 ∧ w' = w1.setCell p (.string (M.txt zs a m)) else Below w.heap.size w w'

set_option maxRecDepth 100000 in
set_option maxHeartbeats 1000000 in
theorem text_parse (a m : Nat) (there : Bool) (g i : Nat) (b off n c : Nat) (zs : List Int) (old : Value) (w : World) (B : Nat) (hr : Rd w B (some ⟨b, off, none⟩) n zs) (hB : B ≤ w.heap.size) (ham : a + m ≤ n) (hm : 0 < m) (hms : m ≤ 1000) (hc : n ≤ c) (hcm : c ≤ maxLen)
    (hcell : w.cell? ⟨g, i, none⟩ = some old) (hfz : w.frozen? ⟨g, i, none⟩ = false) :
    Calls Tryz.prog 53 #[tfv a m there ⟨g, i, none⟩, .slice (some ⟨b, off, none⟩) n c] w (TxtTo zs a m there ⟨g, i, none⟩ w) := by
  have hg : g < w.heap.size := World.block_lt_of_cell? _ _ hcell
  cases there with
  | false =>
    unfold tfv
    go_enter Tryz.func53, Tryz.ntmps53
    go_wp2
    go_end0
    all_goals exact ⟨rfl, (Below.refl _ _).alloc (Nat.le_refl _) _⟩
  | true =>
    have HC0 := fun (W : World) (hW : Below w.heap.size w W) => S.cut_any (some ⟨b, off + a, none⟩) m (c - a) (M.toB (M.sub zs a m)) W (by
      rw [M.ints_toB (M.sub_bd hr.bd)]
      exact (((hr.sub ham).more hB).below hW).more hW.size) (by omega) (by omega) (fun h => by cases h)
    unfold maxLen at hcm
    have E1 := hid (IntWalk.i64_in ((a : Int) + (m : Int)) (by omega))
    have E2 := hid (show (0 : Int) ≤ (a : Int) + (m : Int) ∧ (a : Int) + (m : Int) ≤ (c : Int) by omega)
    have E3 := hid (show ((a : Int) + (m : Int)).toNat = a + m by omega)
    have E4 := hid (show ¬ c = a by omega)
    unfold tfv
    go_enter Tryz.func53, Tryz.ntmps53
    go_wp2_with fail
    generalize hW1 : w.alloc _ = W1
    obtain ⟨hq, hb1, _⟩ := after_alloc hW1
    have CF := hid (fun (W : World) (hW : Below W1.heap.size W1 W) => (show W.cell? ⟨w.heap.size, 0, none⟩ = some (.int .i64 a) ∧ W.cell? ⟨w.heap.size, 1, none⟩ = some (.int .i64 m) ∧ W.cell? ⟨w.heap.size, 3, none⟩ = some (.pointer (some ⟨g, i, none⟩)) ∧ W.cell? ⟨g, i, none⟩ = some old ∧ W.frozen? ⟨g, i, none⟩ = false ∧ Below w.heap.size w W by
      have h1 := hb1.trans (hW.mono hb1.size)
      have hlt : w.heap.size < W1.heap.size := (Array.getElem?_eq_some_iff.1 hq).1
      have hq2 : W.heap[w.heap.size]? = _ := (hW.block _ hlt).trans hq
      exact ⟨(cell_of_row _ _ 0 _ _ _ hq2).trans rfl, (cell_of_row _ _ 1 _ _ _ hq2).trans rfl, (cell_of_row _ _ 3 _ _ _ hq2).trans rfl, (h1.cell hg).trans hcell, (frozen_of_heap (h1.block g hg)).trans hfz, h1⟩))
    have HC := hid (fun (W : World) (hW : Below W1.heap.size W1 W) => HC0 W (hb1.trans (hW.mono hb1.size)))
    have CS := hid (fun (W : World) (hW : ∃ W0, Below W1.heap.size W1 W0 ∧ (W = W0 ∨ W = W0.setCell ⟨g, i, none⟩ (.string (M.txt zs a m)))) => (show W.cell? ⟨w.heap.size, 0, none⟩ = some (.int .i64 a) ∧ W.cell? ⟨w.heap.size, 1, none⟩ = some (.int .i64 m) ∧ W.cell? ⟨w.heap.size, 3, none⟩ = some (.pointer (some ⟨g, i, none⟩)) by
      obtain ⟨W0, h0, h1⟩ := hW
      obtain ⟨y0, y1, y3, _⟩ := CF.out W0 h0
      rcases h1 with rfl | rfl
      · exact ⟨y0, y1, y3⟩
      · have hne : ∀ k : Nat, (⟨w.heap.size, k, none⟩ : Addr) ≠ ⟨g, i, none⟩ := fun k e => by injection e with e _; omega
        exact ⟨(World.cell?_setCell_other _ _ _ _ (hne 0).symm).trans y0, (World.cell?_setCell_other _ _ _ _ (hne 1).symm).trans y1, (World.cell?_setCell_other _ _ _ _ (hne 3).symm).trans y3⟩))
    clear HC0 hq hb1 hW1 hr hcell hfz
    refine wp_region_held_drew (S := fun W => ∃ W0, Below W1.heap.size W1 W0 ∧ (W = W0 ∨ W = W0.setCell ⟨g, i, none⟩ (.string (M.txt zs a m)))) (by kernel_rfl) ⟨_, below_drew' (Below.refl _ _), .inl rfl⟩ (fun hS => ?_)
    refine takeH (i := 0) (v := ?_) 6 rfl rfl (by kernel_rfl) (by kernel_rfl) (by kernel_rfl) (fun _ _ _ h => h) (by rfl) ?hy0 hS ?rest0
    case hy0 => (intro W hW; have f0 := (CS.out W hW).1; have f1 := (CS.out W hW).2.1; have f2 := (CS.out W hW).2.2; clear hW; go_simp; first | done | with_reducible rfl)
    try simp only [Act.put, List.setIfInBounds_toArray, List.set_cons_zero, List.set_cons_succ]
    refine takeH (i := 1) (v := ?_) 7 rfl rfl (by kernel_rfl) (by kernel_rfl) (by kernel_rfl) (fun _ _ _ h => h) (by rfl) ?hy1 hS ?rest1
    case hy1 => (intro W hW; have f0 := (CS.out W hW).1; have f1 := (CS.out W hW).2.1; have f2 := (CS.out W hW).2.2; clear hW; go_simp; first | done | with_reducible rfl)
    try simp only [Act.put, List.setIfInBounds_toArray, List.set_cons_zero, List.set_cons_succ]
    refine takeH (i := 2) (v := ?_) 8 rfl rfl (by kernel_rfl) (by kernel_rfl) (by kernel_rfl) (fun _ _ _ h => h) (by rfl) ?hy2 hS ?rest2
    case hy2 => (intro W hW; have f0 := (CS.out W hW).1; have f1 := (CS.out W hW).2.1; have f2 := (CS.out W hW).2.2; clear hW; go_simp; first | done | with_reducible rfl)
    try simp only [Act.put, List.setIfInBounds_toArray, List.set_cons_zero, List.set_cons_succ]
    refine takeH (i := 3) (v := ?_) 9 rfl rfl (by kernel_rfl) (by kernel_rfl) (by kernel_rfl) (fun _ _ _ h => h) (by rfl) ?hy3 hS ?rest3
    case hy3 => (intro W hW; have f0 := (CS.out W hW).1; have f1 := (CS.out W hW).2.1; have f2 := (CS.out W hW).2.2; clear hW; go_simp; first | done | with_reducible rfl)
    try simp only [Act.put, List.setIfInBounds_toArray, List.set_cons_zero, List.set_cons_succ]
    refine takeH (i := 4) (v := ?_) 10 rfl rfl (by kernel_rfl) (by kernel_rfl) (by kernel_rfl) (fun _ _ _ h => h) (by rfl) ?hy4 hS ?rest4
    case hy4 => (intro W hW; have f0 := (CS.out W hW).1; have f1 := (CS.out W hW).2.1; have f2 := (CS.out W hW).2.2; clear hW; go_simp; first | done | with_reducible rfl)
    try simp only [Act.put, List.setIfInBounds_toArray, List.set_cons_zero, List.set_cons_succ]
    refine takeH (i := 5) (v := ?_) 11 rfl rfl (by kernel_rfl) (by kernel_rfl) (by kernel_rfl) (fun _ _ _ h => h) (by rfl) ?hy5 hS ?rest5
    case hy5 => (intro W hW; have f0 := (CS.out W hW).1; have f1 := (CS.out W hW).2.1; have f2 := (CS.out W hW).2.2; clear hW; go_simp; first | done | with_reducible rfl)
    try simp only [Act.put, List.setIfInBounds_toArray, List.set_cons_zero, List.set_cons_succ]
    refine takeH (i := 6) (v := ?_) 12 rfl rfl (by kernel_rfl) (by kernel_rfl) (by kernel_rfl) (fun _ _ _ h => h) (by rfl) ?hy6 hS ?rest6
    case hy6 => (intro W hW; have f0 := (CS.out W hW).1; have f1 := (CS.out W hW).2.1; have f2 := (CS.out W hW).2.2; clear hW; go_simp; first | done | with_reducible rfl)
    try simp only [Act.put, List.setIfInBounds_toArray, List.set_cons_zero, List.set_cons_succ]
    refine takeH (i := 7) (v := ?_) 13 rfl rfl (by kernel_rfl) (by kernel_rfl) (by kernel_rfl) (fun _ _ _ h => h) (by rfl) ?hy7 hS ?rest7
    case hy7 => (intro W hW; have f0 := (CS.out W hW).1; have f1 := (CS.out W hW).2.1; have f2 := (CS.out W hW).2.2; clear hW; go_simp; first | done | with_reducible rfl)
    try simp only [Act.put, List.setIfInBounds_toArray, List.set_cons_zero, List.set_cons_succ]
    refine takeH (i := 8) (v := ?_) 14 rfl rfl (by kernel_rfl) (by kernel_rfl) (by kernel_rfl) (fun _ _ _ h => h) (by rfl) ?hy8 hS ?rest8
    case hy8 => (intro W hW; have f0 := (CS.out W hW).1; have f1 := (CS.out W hW).2.1; have f2 := (CS.out W hW).2.2; clear hW; go_simp; first | done | with_reducible rfl)
    try simp only [Act.put, List.setIfInBounds_toArray, List.set_cons_zero, List.set_cons_succ]
    refine takeH (i := 9) (v := ?_) 15 rfl rfl (by kernel_rfl) (by kernel_rfl) (by kernel_rfl) (fun _ _ _ h => h) (by rfl) ?hy9 hS ?rest9
    case hy9 => (intro W hW; have f0 := E1.out; clear hW; go_simp; first | done | with_reducible rfl)
    try simp only [Act.put, List.setIfInBounds_toArray, List.set_cons_zero, List.set_cons_succ]
    refine takeH (i := 10) (v := ?_) 16 rfl rfl (by kernel_rfl) (by kernel_rfl) (by kernel_rfl) (fun _ _ _ h => h) (by rfl) ?hy10 hS ?rest10
    case hy10 => (intro W hW; have f0 := E2.out; have f1 := E3.out; have f2 := E4.out; clear hW; go_simp; first | done | with_reducible rfl)
    try simp only [Act.put, List.setIfInBounds_toArray, List.set_cons_zero, List.set_cons_succ]
    refine loneH (i := 11) 17 rfl rfl (by kernel_rfl) (by rfl) (fun K hK => ?_)
    go_simp
    (with_reducible refine (HC.out _ (below_drew' (Below.refl _ _))).mono ?_)
    rintro e w2 ⟨rfl, b2⟩
    have B2 := (below_drew' (Below.refl W1.heap.size W1)).trans (b2.mono (Nat.le_refl _))
    clear hS b2
    refine hK.out _ _ ⟨_, B2, .inl rfl⟩ (fun hS => ?_)
    clear hK K
    try simp only [Act.put, List.setIfInBounds_toArray, List.set_cons_zero, List.set_cons_succ]
    refine takeH (i := 12) (v := ?_) 18 rfl rfl (by kernel_rfl) (by kernel_rfl) (by kernel_rfl) (fun _ _ _ h => h) (by rfl) ?hy12 hS ?rest12
    case hy12 => (intro W hW; clear hW; go_simp; first | done | with_reducible rfl)
    try simp only [Act.put, List.setIfInBounds_toArray, List.set_cons_zero, List.set_cons_succ]
    obtain ⟨_, _, _, x4, x5, x6⟩ := CF.out _ B2
    have HX := hid x6
    clear x6
    refine loneN (i := 13) rfl rfl (by kernel_rfl) (by rfl) (fun K hK => ?_)
    go_simp
    refine hK.out _ _ ⟨_, B2, .inr rfl⟩ (fun hS => ?_)
    clear hK K
    try simp only [Act.put, List.setIfInBounds_toArray, List.set_cons_zero, List.set_cons_succ]
    refine wpAnyH_done (by kernel_rfl) ?_ _
    go_wp2
    go_end0
    all_goals exact ⟨rfl, by rw [if_pos rfl]; exact ⟨_, HX.out, rfl⟩⟩
end Go.Proofs.YtkpnhggpcpjddaaGreatDoor

/-! Way, and the table that it reads. -/
namespace Go.Proofs.YtkpnhggpcpjddaaGreatDoor
open Go.RowKit Go.Lib

/-- The table of the ways' texts, as it lies. -/
def mgs : Nat → ByteArray
  | 0 => ⟨#[0, 0, 0, 0, 0, 0, 0, 0]⟩
  | 1 => ⟨#[117, 115, 116, 97, 114, 0, 48, 48]⟩
  | _ => ⟨#[117, 115, 116, 97, 114, 32, 32, 0]⟩
def MG (w : World) : Prop := w.cell? ⟨0, 0, none⟩ = some (.string ⟨#[0, 0, 0, 0, 0, 0, 0, 0]⟩) ∧ w.cell? ⟨0, 1, none⟩ = some (.string ⟨#[117, 115, 116, 97, 114, 0, 48, 48]⟩) ∧ w.cell? ⟨0, 2, none⟩ = some (.string ⟨#[117, 115, 116, 97, 114, 32, 32, 0]⟩)
theorem MG.lt {w : World} (h : MG w) : 0 < w.heap.size := World.block_lt_of_cell? _ _ h.1
theorem MG.below {w w' : World} {B : Nat} (h : MG w) (hb : Below B w w') (hB : 0 < B) : MG w' :=
  ⟨(hb.cell (p := ⟨_, 0, none⟩) hB).trans h.1, (hb.cell (p := ⟨_, 1, none⟩) hB).trans h.2.1, (hb.cell (p := ⟨_, 2, none⟩) hB).trans h.2.2⟩
theorem MG.later {w w' : World} (h : MG w) (hb : Below w.heap.size w w') : MG w' := h.below hb h.lt

def wayN (zs : List Int) : Int := ((M.way zs).getD 0 : Nat)
def wayText (zs : List Int) : ByteArray := ⟨(M.toB (M.sub zs 257 8)).toArray⟩

/-- The place of a text in the table. -/
def wayX (X : ByteArray) : Option Nat := if X = mgs 0 then some 0 else if X = mgs 1 then some 1 else if X = mgs 2 then some 2 else none
theorem toB_inj {a b : List Int} (ha : ∀ z ∈ a, 0 ≤ z ∧ z ≤ 255) (hb : ∀ z ∈ b, 0 ≤ z ∧ z ≤ 255) (h : M.toB a = M.toB b) : a = b := by
  rw [← M.ints_toB ha, ← M.ints_toB hb, h]
theorem way_eq {zs : List Int} (hz : ∀ z ∈ zs, 0 ≤ z ∧ z ≤ 255) (hl : zs.length = 512) : M.way zs = wayX (wayText zs) := by
  have key : ∀ k, k < 3 → (wayText zs = mgs k ↔ M.sub zs 257 8 = M.magic k) := by
    intro k hk
    have hm : ∀ z ∈ M.magic k, 0 ≤ z ∧ z ≤ 255 := by
      have : k = 0 ∨ k = 1 ∨ k = 2 := by omega
      rcases this with rfl | rfl | rfl <;> decide
    have hx : mgs k = ⟨(M.toB (M.magic k)).toArray⟩ := by
      have : k = 0 ∨ k = 1 ∨ k = 2 := by omega
      rcases this with rfl | rfl | rfl <;> rfl
    rw [hx]
    unfold wayText
    constructor
    · intro h
      injection h with h
      have h2 := congrArg Array.toList h
      exact toB_inj (M.sub_bd hz) hm (by simpa using h2)
    · intro h; rw [h]
  unfold M.way wayX
  rw [if_pos hl]
  simp only [key 0 (by decide), key 1 (by decide), key 2 (by decide)]

theorem toList_inj {a b : ByteArray} (h : a.toList = b.toList) : a = b := by
  rw [ByteArray.toList_eq, ByteArray.toList_eq] at h
  obtain ⟨⟨a⟩⟩ := a
  obtain ⟨⟨b⟩⟩ := b
  simpa using h
theorem wayX_at {X : ByteArray} {k : Nat} (hk : k < 3) (h : X = mgs k) (hno : ∀ j, j < k → X ≠ mgs j) : wayX X = some k := by
  unfold wayX
  have : k = 0 ∨ k = 1 ∨ k = 2 := by omega
  rcases this with rfl | rfl | rfl
  · rw [if_pos h]
  · rw [if_neg (hno 0 (by decide)), if_pos h]
  · rw [if_neg (hno 0 (by decide)), if_neg (hno 1 (by decide)), if_pos h]
theorem wayX_none {X : ByteArray} (hno : ∀ j, j < 3 → X ≠ mgs j) : wayX X = none := by
  unfold wayX
  rw [if_neg (hno 0 (by decide)), if_neg (hno 1 (by decide)), if_neg (hno 2 (by decide))]
theorem way_more {X : ByteArray} {k : Nat} (hno : ∀ j, j < k → X ≠ mgs j) (h : X ≠ mgs k) : ∀ j, j < k + 1 → X ≠ mgs j := by
  intro j hj
  rcases Nat.lt_or_ge j k with h1 | h1
  · exact hno j h1
  · have : j = k := by omega
    subst this; exact h
theorem ret_way {N : Int} {o : Option Nat} {k : Nat} (hN : N = (o.getD 0 : Nat)) (h : o = some k) : Ending.returned (.tuple #[.int .i64 (k : Int), .bool true]) = .returned (.tuple #[.int .i64 N, .bool o.isSome]) := by
  subst h hN; rfl
theorem ret_noway {N : Int} {o : Option Nat} (hN : N = (o.getD 0 : Nat)) (h : o = none) : Ending.returned (.tuple #[.int .i64 0, .bool false]) = .returned (.tuple #[.int .i64 N, .bool o.isSome]) := by
  subst h hN; rfl

set_option maxRecDepth 100000 in
set_option maxHeartbeats 1000000 in
theorem way_any (A : Option Addr) (n c : Nat) (zs : List Int) (w : World) (B : Nat) (hr : Rd w B A n zs) (hc : n ≤ c) (hcm : c ≤ maxLen) (hmg : MG w) :
    Calls Tryz.prog 51 #[.slice A n c] w fun e w' => e = .returned (.tuple #[.int .i64 (wayN zs), .bool (M.way zs).isSome]) ∧ w = w' := by
  by_cases hn : n = 512
  · subst hn
    have HW := hid (way_eq hr.bd hr.len)
    obtain ⟨b, off, rfl, _, _⟩ := hr.2.2 (by decide)
    have hrs := hr.sub (a := 257) (m := 8) (by decide)
    have hcv := S.run_text (l := M.toB (M.sub zs 257 8)) (by rw [M.ints_toB (M.sub_bd hr.bd)]; exact hrs) (c - 257)
    rw [show (⟨(M.toB (M.sub zs 257 8)).toArray⟩ : ByteArray) = wayText zs from rfl] at hcv
    have HN : Hid (wayN zs = ((M.way zs).getD 0 : Nat)) := hid rfl
    generalize wayText zs = X at *
    generalize wayN zs = N at *
    obtain ⟨m0, m1, m2⟩ := hmg
    have hx0 : ∀ w : World, (Instr.index 94 (.agg #[.string ⟨#[0, 0, 0, 0, 0, 0, 0, 0]⟩, .string ⟨#[117, 115, 116, 97, 114, 0, 48, 48]⟩, .string ⟨#[117, 115, 116, 97, 114, 32, 32, 0]⟩]) (.int .i64 0)).run Tryz.prog w = .ok (.string ⟨#[0, 0, 0, 0, 0, 0, 0, 0]⟩) w := fun _ => by kernel_rfl
    have hx1 : ∀ w : World, (Instr.index 94 (.agg #[.string ⟨#[0, 0, 0, 0, 0, 0, 0, 0]⟩, .string ⟨#[117, 115, 116, 97, 114, 0, 48, 48]⟩, .string ⟨#[117, 115, 116, 97, 114, 32, 32, 0]⟩]) (.int .i64 1)).run Tryz.prog w = .ok (.string ⟨#[117, 115, 116, 97, 114, 0, 48, 48]⟩) w := fun _ => by kernel_rfl
    have hx2 : ∀ w : World, (Instr.index 94 (.agg #[.string ⟨#[0, 0, 0, 0, 0, 0, 0, 0]⟩, .string ⟨#[117, 115, 116, 97, 114, 0, 48, 48]⟩, .string ⟨#[117, 115, 116, 97, 114, 32, 32, 0]⟩]) (.int .i64 2)).run Tryz.prog w = .ok (.string ⟨#[117, 115, 116, 97, 114, 32, 32, 0]⟩) w := fun _ => by kernel_rfl
    unfold maxLen at hcm
    clear hr hrs
    go_enter Tryz.func51, Tryz.ntmps51
    go_wp2
    go_loop [4, 5, 10] (fun u v i => ∃ k : Nat, i = .int .i64 k ∧ k ≤ 3 ∧ ∀ j, j < k → X ≠ mgs j) (fun _ _ i => 3 - (RowKit.intOf i).toNat)
    case atStart => exact ⟨0, rfl, Nat.zero_le _, fun j hj => absurd hj (by omega)⟩
    case round =>
      obtain ⟨k, rfl, hk, hno⟩ := hrel
      have h4 : k = 0 ∨ k = 1 ∨ k = 2 ∨ k = 3 := by omega
      rcases h4 with rfl | rfl | rfl | rfl
      · by_cases hX : X = mgs 0
        · have e1 : (X.toList == [0, 0, 0, 0, 0, 0, 0, 0]) = true := by rw [hX, ByteArray.toList_eq]; rfl
          have HX := hid ((HW.out).trans (wayX_at (by decide) hX hno))
          clear hX hno
          go_wp2
          go_ret2
          exact ⟨ret_way HN.out HX.out, rfl⟩
        · have e1 : (X.toList == [0, 0, 0, 0, 0, 0, 0, 0]) = false := by
            rw [beq_eq_false_iff_ne]; exact fun e => hX (toList_inj (by rw [e, ByteArray.toList_eq]; rfl))
          have HR := hid (way_more hno hX)
          clear hX hno
          go_wp2
          go_round
          case rel => exact ⟨1, by go_num, by decide, HR.out⟩
          case measure => simp [RowKit.intOf]
      · by_cases hX : X = mgs 1
        · have e1 : (X.toList == [117, 115, 116, 97, 114, 0, 48, 48]) = true := by rw [hX, ByteArray.toList_eq]; rfl
          have HX := hid ((HW.out).trans (wayX_at (by decide) hX hno))
          clear hX hno
          go_wp2
          go_ret2
          exact ⟨ret_way HN.out HX.out, rfl⟩
        · have e1 : (X.toList == [117, 115, 116, 97, 114, 0, 48, 48]) = false := by
            rw [beq_eq_false_iff_ne]; exact fun e => hX (toList_inj (by rw [e, ByteArray.toList_eq]; rfl))
          have HR := hid (way_more hno hX)
          clear hX hno
          go_wp2
          go_round
          case rel => exact ⟨2, by go_num, by decide, HR.out⟩
          case measure => simp [RowKit.intOf]
      · by_cases hX : X = mgs 2
        · have e1 : (X.toList == [117, 115, 116, 97, 114, 32, 32, 0]) = true := by rw [hX, ByteArray.toList_eq]; rfl
          have HX := hid ((HW.out).trans (wayX_at (by decide) hX hno))
          clear hX hno
          go_wp2
          go_ret2
          exact ⟨ret_way HN.out HX.out, rfl⟩
        · have e1 : (X.toList == [117, 115, 116, 97, 114, 32, 32, 0]) = false := by
            rw [beq_eq_false_iff_ne]; exact fun e => hX (toList_inj (by rw [e, ByteArray.toList_eq]; rfl))
          have HR := hid (way_more hno hX)
          clear hX hno
          go_wp2
          go_round
          case rel => exact ⟨3, by go_num, by decide, HR.out⟩
          case measure => simp [RowKit.intOf]
      · have HX := hid ((HW.out).trans (wayX_none hno))
        clear hno
        go_wp2
        go_ret2
        exact ⟨ret_noway HN.out HX.out, rfl⟩
  · have e1 : ((n : Int) != 512) = true := by simp; omega
    have HX := hid (show M.way zs = none by unfold M.way; rw [if_neg (by rw [hr.len]; exact hn)])
    have HN : Hid (wayN zs = ((M.way zs).getD 0 : Nat)) := hid rfl
    clear hr hmg hn
    go_enter Tryz.func51, Tryz.ntmps51
    go_wp2
    go_ret2
    exact ⟨ret_noway HN.out HX.out, rfl⟩
end Go.Proofs.YtkpnhggpcpjddaaGreatDoor
