/-
  A field is parsed: a text's, a number's.
-/
import Derived.Test.YtjpflljmeaihgaaDoorPSmall
import Derived.Test.YtjpflljmeaihgaaDoorPNumBinary
namespace Go.Proofs.YtjpflljmeaihgaaDoor.H
open Go.RowKit Go.Lib

theorem _root_.Go.Proofs.YtjpflljmeaihgaaDoor.Rd.sub {w : World} {B b off n : Nat} {zs : List Int} (h : Rd w B (some ⟨b, off, none⟩) n zs) {a m : Nat} (ham : a + m ≤ n) : Rd w B (some ⟨b, off + a, none⟩) m (M.sub zs a m) := by
  refine ⟨M.sub_len (by rw [h.len]; exact ham), M.sub_bd h.bd, fun hm => ?_⟩
  obtain ⟨b', off', e, hb, hc⟩ := h.2.2 (by omega)
  injection e with e
  injection e with e1 e2
  subst e1 e2
  refine ⟨_, _, rfl, hb, fun j z hj => ?_⟩
  unfold M.sub at hj
  rw [List.getElem?_take] at hj
  split at hj
  · rw [List.getElem?_drop] at hj
    rw [Nat.add_assoc]
    exact hc _ z hj
  · cases hj

/-- What parsing a number's field answers. -/
def NumTo (zs : List Int) (a m : Nat) (there : Bool) (lo up : Int) (p : Addr) (w : World) (e : Ending) (w' : World) : Prop :=
  if there = true then
    if M.numOk zs a m lo up = true then e = .returned (.tuple #[]) ∧ ∃ w1, Below w.heap.size w w1 ∧ w' = w1.setCell p (.int .i64 (M.num zs a m))
    else e = .panicked (boom 32) ∧ Below w.heap.size w w'
  else e = .returned (.tuple #[]) ∧ Below w.heap.size w w'

set_option maxRecDepth 100000 in
set_option maxHeartbeats 1000000 in
theorem number_parse (a m : Nat) (there : Bool) (lo up : Int) (g i : Nat) (b off n c : Nat) (zs : List Int) (old : Value) (w : World) (B : Nat) (hr : Rd w B (some ⟨b, off, none⟩) n zs) (hB : B ≤ w.heap.size) (ham : a + m ≤ n) (hm : 0 < m) (hc : n ≤ c) (hcm : c ≤ maxLen)
    (hcell : w.cell? ⟨g, i, none⟩ = some old) (hfz : w.frozen? ⟨g, i, none⟩ = false) :
    Calls Tryd.prog 53 #[nfv a m there lo up ⟨g, i, none⟩, .slice (some ⟨b, off, none⟩) n c] w (NumTo zs a m there lo up ⟨g, i, none⟩ w) := by
  have hg : g < w.heap.size := World.block_lt_of_cell? _ _ hcell
  cases there with
  | false =>
    unfold nfv
    go_enter Tryd.func53, Tryd.ntmps53
    go_wp2
    go_end0
    all_goals exact ⟨rfl, (Below.refl _ _).alloc (Nat.le_refl _) _⟩
  | true =>
    obtain ⟨x, hx⟩ : ∃ x, M.num zs a m = x := ⟨_, rfl⟩
    have HP := hid (fun (o : Obj) => (show Calls Tryd.prog 64 #[.slice (some ⟨b, off + a, none⟩) m (c - a)] (w.alloc o) fun e w' => e = .returned (.tuple #[.int .i64 x, .bool (M.parOk (M.sub zs a m))]) ∧ w.alloc o = w' by
      rw [← hx]
      exact parse_any _ m (c - a) _ _ B ((hr.sub ham).alloc hB o) (by omega) (Nat.le_trans (Nat.sub_le _ _) hcm)))
    unfold maxLen at hcm
    have HM := fun W => mayTell_any a m true lo up ⟨g, i, none⟩ x W
    unfold nfv at HM
    have HMM := hid HM
    clear HM
    have HX := hid (fun (W1 W2 : World) (vs : Array Value) (t : TypeId) (e : W1 = w.alloc (.cells vs t)) (hb : Below W1.heap.size W1 W2) => (show W2.cell? ⟨g, i, none⟩ = some old ∧ W2.frozen? ⟨g, i, none⟩ = false ∧ W2.heap[w.heap.size]? = some (.cells vs t (0, 0)) ∧ Below w.heap.size w W2 by
      subst e
      have h0 := (Below.refl w.heap.size w).alloc (Nat.le_refl _) (.cells vs t)
      have h1 := h0.trans (hb.mono h0.size)
      refine ⟨(h1.cell hg).trans hcell, (frozen_of_heap (h1.block g hg)).trans hfz, ?_, h1⟩
      rw [hb.block _ (by simp)]
      exact heap_alloc_new w _))
    have HN : Hid (M.numOk zs a m lo up = (M.parOk (M.sub zs a m) && (decide (lo ≤ x) && decide (x ≤ up)))) := hid (by unfold M.numOk; rw [hx])
    have HXX := hid hx
    clear hx hr
    cases hok : M.parOk (M.sub zs a m) with
    | false =>
      rw [hok] at HP HN
      unfold nfv
      go_enter Tryd.func53, Tryd.ntmps53
      go_wp2_with (first
        | (go_at_call 64; (with_reducible refine (HP.out _).mono ?_); rintro e w1 ⟨rfl, rfl⟩)
        | (go_at_call 51; (with_reducible refine (demand_no _ _).mono ?_); rintro e w1 ⟨rfl, rfl⟩))
      exact ⟨rfl, (by unfold NumTo; rw [if_pos rfl, HN.out]; exact ⟨rfl, (Below.refl _ _).alloc (Nat.le_refl _) _⟩)⟩
    | true =>
      rw [hok] at HP HN
      cases hlu : (decide (lo ≤ x) && decide (x ≤ up)) with
      | false =>
        rw [hlu] at HN HMM
        unfold nfv
        go_enter Tryd.func53, Tryd.ntmps53
        go_wp2_with (first
          | (go_at_call 64; (with_reducible refine (HP.out _).mono ?_); rintro e w1 ⟨rfl, rfl⟩)
          | (go_at_call 65; (with_reducible refine (HMM.out _).mono ?_); rintro e w2 ⟨rfl, b2⟩)
          | (go_at_call 51; (with_reducible refine (demand_no _ _).mono ?_); rintro e w1 ⟨rfl, rfl⟩))
        exact ⟨rfl, (by unfold NumTo; rw [if_pos rfl, HN.out]; exact ⟨rfl, (HX.out _ _ _ _ rfl b2).2.2.2⟩)⟩
      | true =>
        rw [hlu] at HN HMM
        unfold nfv
        go_enter Tryd.func53, Tryd.ntmps53
        go_wp2_with (first
          | (go_at_call 64; (with_reducible refine (HP.out _).mono ?_); rintro e w1 ⟨rfl, rfl⟩)
          | (go_at_call 65; (with_reducible refine (HMM.out _).mono ?_); rintro e w2 ⟨rfl, b2⟩; obtain ⟨x1, x2, x3, x4⟩ := HX.out _ _ _ _ rfl b2; have x5 := cell_of_row _ _ 5 _ _ _ x3; have HX4 := hid x4; simp at x5; clear x3 x4 b2)
          | (go_at_call 51; (with_reducible refine (demand_yes _ _).mono ?_); rintro e w1 ⟨rfl, rfl⟩))
        go_end0
        all_goals exact (by unfold NumTo; rw [if_pos rfl, HN.out]; exact ⟨rfl, _, HX4.out, by rw [HXX.out]⟩)
end Go.Proofs.YtjpflljmeaihgaaDoor.H
