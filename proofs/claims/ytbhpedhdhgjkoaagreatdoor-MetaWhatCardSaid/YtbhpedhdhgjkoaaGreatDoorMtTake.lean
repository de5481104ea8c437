/-
  What a field takes from a record.
-/
import Derived.Test.YtbhpedhdhgjkoaaGreatDoorMtGive
import Derived.Test.YtbhpedhdhgjkoaaGreatDoorKT
set_option linter.unusedVariables false
set_option linter.unusedSimpArgs false
namespace Go.Proofs.YtbhpedhdhgjkoaaGreatDoor
open Go.RowKit Go.Lib
open Px (R2 tl)

/-- A value is laid in a cell of block g. -/
def TakePost (w : World) (g i : Nat) (v : Value) (ok : Bool) (e : Ending) (w' : World) : Prop :=
  e = .returned (.bool ok) ∧ w'.heap[g]? = (w.setCell ⟨g, i, none⟩ v).heap[g]? ∧ Fg g w w'
theorem Fg.kept0 {g i : Nat} {w w1 : World} (hg : g < w.heap.size) (h1 : Below w.heap.size w w1) (v : Value) {cs : Array Value} {t : TypeId} (hc : w.heap[g]? = some (.cells cs t (0, 0))) :
    (w1.setCell ⟨g, i, none⟩ v).heap[g]? = (w.setCell ⟨g, i, none⟩ v).heap[g]? ∧ Fg g w (w1.setCell ⟨g, i, none⟩ v) :=
  Fg.kept hg h1 v i hc (Below.refl _ _)
set_option maxRecDepth 100000 in
set_option maxHeartbeats 2000000 in
theorem takeText_any (b g i : Nat) (s u : ByteArray) (w : World) (hb : BoxP w b g i) (hbg : b ≠ g) (hc : w.cell? ⟨g, i, none⟩ = some (.string u)) (hf : w.frozen? ⟨g, i, none⟩ = false) :
    Calls Tryz.prog 64 #[.string s, .pointer (some ⟨b, 0, none⟩)] w (TakePost w g i (.string s) true) := by
  have hbc : w.cell? ⟨b, 0, none⟩ = some (.pointer (some ⟨g, i, none⟩)) := hb
  clear hb
  go_enter Tryz.func64, Tryz.ntmps64
  go_wp2
  go_ret
  exact ⟨rfl, rfl, Fg.set w g i _⟩

theorem numV_parts (o : Option Int) : Sp.numV o = .tuple #[.int .i64 (o.getD 0), .bool o.isSome] := by cases o <;> rfl
set_option maxRecDepth 100000 in
set_option maxHeartbeats 2000000 in
theorem takeNumber_any (b k g i : Nat) (s : ByteArray) (u most : Int) (cs : Array Value) (t : TypeId) (B : Nat) (w : World) (hb : BoxP w b g i) (hk : w.cell? ⟨k, 0, none⟩ = some (.int .i64 most)) (hbg : b ≠ g) (hh : w.heap[g]? = some (.cells cs t (0, 0))) (hc : w.cell? ⟨g, i, none⟩ = some (.int .i64 u))
    (hs : s.size ≤ 1000000) (hB : B ≤ w.heap.size) (ht : Sp.EV B w) :
    Calls Tryz.prog 68 #[.string s, .pointer (some ⟨k, 0, none⟩), .pointer (some ⟨b, 0, none⟩)] w (TakePost w g i (.int .i64 ((M.dec (tl s) most).getD 0)) (M.dec (tl s) most).isSome) := by
  have hbc : w.cell? ⟨b, 0, none⟩ = some (.pointer (some ⟨g, i, none⟩)) := hb
  have hbl : b < w.heap.size := World.block_lt_of_cell? _ _ hbc
  have hgl : g < w.heap.size := World.block_lt_of_cell? _ _ hc
  have HD := hid (decimal_any s hs most B w hB ht)
  have HH := hid hh
  rw [numV_parts] at HD
  generalize (M.dec (tl s) most).getD 0 = n at *
  generalize (M.dec (tl s) most).isSome = ok at *
  clear hb ht hh hs
  go_enter Tryz.func68, Tryz.ntmps68
  go_wp2_with fail
  refine HD.out.mono ?_
  rintro e w1 ⟨rfl, hb1⟩
  have HB1 := hid hb1
  have c1 : w1.cell? ⟨b, 0, none⟩ = some (.pointer (some ⟨g, i, none⟩)) := (hb1.cell (p := ⟨b, 0, none⟩) hbl).trans hbc
  have c2 : w1.cell? ⟨g, i, none⟩ = some (.int .i64 u) := (hb1.cell (p := ⟨g, i, none⟩) hgl).trans hc
  have f1 : w1.frozen? ⟨g, i, none⟩ = false := frozen_of_row w1 g i _ _ ((hb1.block g hgl).trans HH.out)
  clear hb1 hbc hc
  go_wp2
  go_ret
  have K := Fg.kept0 (i := i) hgl HB1.out (.int .i64 n) HH.out
  exact ⟨rfl, K.1, K.2⟩

theorem below_of_drew {W w3 : World} (h : Below W.drew.heap.size W.drew w3) : Below W.heap.size W w3 := ⟨h.os, h.tape, h.output, h.size, h.block⟩
theorem Fg.kept2 {g i : Nat} {w w1 : World} (hg : g < w.heap.size) (h1 : Below w.heap.size w w1) (v v' : Value) {cs : Array Value} {t : TypeId} (hc : w.heap[g]? = some (.cells cs t (0, 0))) :
    ((w1.setCell ⟨g, i, none⟩ v).setCell ⟨g, i + 1, none⟩ v').heap[g]? = ((w.setCell ⟨g, i, none⟩ v).setCell ⟨g, i + 1, none⟩ v').heap[g]? ∧ Fg g w ((w1.setCell ⟨g, i, none⟩ v).setCell ⟨g, i + 1, none⟩ v') := by
  have e1 : w1.heap[g]? = some (.cells cs t (0, 0)) := (h1.block g hg).trans hc
  refine ⟨?_, ((Fg.of_below h1).trans (Fg.set w1 g i v)).trans (Fg.set _ g (i + 1) v')⟩
  rw [heap_setCell_same _ g (i + 1) _ _ v' (heap_setCell_same w1 g i _ _ v e1), heap_setCell_same _ g (i + 1) _ _ v' (heap_setCell_same w g i _ _ v hc)]
/-- A time is laid in two cells of block g. -/
def TakeTime (w : World) (g i : Nat) (S n : Int) (ok : Bool) (e : Ending) (w' : World) : Prop :=
  e = .returned (.bool ok) ∧ w'.heap[g]? = ((w.setCell ⟨g, i, none⟩ (.int .i64 S)).setCell ⟨g, i + 1, none⟩ (.int .i64 n)).heap[g]? ∧ Fg g w w'
theorem parseV_parts (o : Option St.M.Tm) : St.parseV o = .tuple #[.agg #[.int .i64 (o.getD (0, 0)).1, .int .i64 (o.getD (0, 0)).2], .bool o.isSome] := by cases o <;> rfl
set_option maxRecDepth 100000 in
set_option maxHeartbeats 2000000 in
theorem takeTime_any (b g i : Nat) (s : ByteArray) (u v : Int) (cs : Array Value) (t : TypeId) (w : World) (hb : BoxP w b g i) (hbg : b ≠ g) (hh : w.heap[g]? = some (.cells cs t (0, 0))) (hc : w.cell? ⟨g, i, none⟩ = some (.int .i64 u)) (hc1 : w.cell? ⟨g, i + 1, none⟩ = some (.int .i64 v))
    (hs : s.size ≤ 1000000) :
    Calls Tryz.prog 71 #[.string s, .pointer (some ⟨b, 0, none⟩)] w (TakeTime w g i (St.M.norm ((St.M.parse (tl s)).getD (0, 0))).1 (St.M.norm ((St.M.parse (tl s)).getD (0, 0))).2 (St.M.parse (tl s)).isSome) := by
  have hbc : w.cell? ⟨b, 0, none⟩ = some (.pointer (some ⟨g, i, none⟩)) := hb
  have hbl : b < w.heap.size := World.block_lt_of_cell? _ _ hbc
  have hgl : g < w.heap.size := World.block_lt_of_cell? _ _ hc
  have HD := hid (show Calls Tryz.prog 72 #[.string s] w (fun e w' => e = .returned (St.parseV (St.M.parse (tl s))) ∧ Below w.heap.size w w') from St.parse_any s hs w)
  rw [parseV_parts] at HD
  have HH := hid hh
  generalize (St.M.parse (tl s)).isSome = ok at *
  generalize (St.M.parse (tl s)).getD (0, 0) = q at *
  obtain ⟨q1, q2⟩ := q
  have HN := hid (fun W => St.norm_any q1 q2 W)
  unfold St.TimeIs St.tv at HN
  generalize St.M.norm (q1, q2) = r at *
  obtain ⟨r1, r2⟩ := r
  dsimp only at HN HD ⊢
  clear hb hh hs
  go_enter Tryz.func71, Tryz.ntmps71
  go_wp2_with fail
  refine HD.out.mono ?_
  rintro e w1 ⟨rfl, hb1⟩
  go_upto_region 2 with fail
  have hn := heap_alloc_new w1 (.cells #[.int .i64 q1, .int .i64 q2] 24)
  have hsz := World.size_alloc w1 (.cells #[.int .i64 q1, .int .i64 q2] 24)
  have HB1 := hid (hb1.alloc hb1.size (.cells #[.int .i64 q1, .int .i64 q2] 24))
  have hw1 := hb1.size
  generalize World.alloc w1 _ = W at *
  have HC := hid (show ∀ V, Below W.heap.size W V → V.cell? ⟨b, 0, none⟩ = some (.pointer (some ⟨g, i, none⟩)) ∧ V.cell? ⟨g, i, none⟩ = some (.int .i64 u) ∧ V.cell? ⟨g, i + 1, none⟩ = some (.int .i64 v) ∧ V.frozen? ⟨g, i, none⟩ = false ∧ V.frozen? ⟨g, i + 1, none⟩ = false ∧ V.cell? ⟨w1.heap.size, 0, none⟩ = some (.int .i64 q1) ∧ V.cell? ⟨w1.heap.size, 1, none⟩ = some (.int .i64 q2) from fun V hV => by
    have hB : Below w.heap.size w V := HB1.out.trans (hV.mono HB1.out.size)
    have e := (hV.block w1.heap.size (by rw [hsz]; omega)).trans hn
    refine ⟨(hB.cell (p := ⟨b, 0, none⟩) hbl).trans hbc, (hB.cell (p := ⟨g, i, none⟩) hgl).trans hc, (hB.cell (p := ⟨g, i + 1, none⟩) hgl).trans hc1, frozen_of_row V g i _ _ ((hB.block g hgl).trans HH.out), frozen_of_row V g (i + 1) _ _ ((hB.block g hgl).trans HH.out), ?_, ?_⟩
    · rw [cell_of_row V w1.heap.size _ _ _ _ e]; rfl
    · rw [cell_of_row V w1.heap.size _ _ _ _ e]; rfl)
  obtain ⟨x1, x2, x3, x4, x5, x6, x7⟩ := HC.out W (Below.refl _ _)
  clear hbc hc hc1 hn hb1 HD
  go_region_with (go_at_call 30; (with_reducible refine (HN.out _).mono ?_); rintro e w3 ⟨rfl, hb3⟩; (have HB3 := hid (below_of_drew hb3)); obtain ⟨y1, y2, y3, y4, y5, y6, y7⟩ := HC.out w3 HB3.out; clear hb3)
  all_goals
    have HK := hid (Fg.kept2 (i := i) hgl (HB1.out.trans (HB3.out.mono HB1.out.size)) (.int .i64 r1) (.int .i64 r2) HH.out)
    clear HC HN HB1 HB3 HH
    go_wp2
    go_ret
    exact ⟨rfl, HK.out.1, HK.out.2⟩
end Go.Proofs.YtbhpedhdhgjkoaaGreatDoor
