/-
  The arrays of fields.
-/
import Derived.Test.YtjpflljmeaihgaaDoorPSmall
import Derived.StillTailTactics
import Derived.IntWalk
namespace Go.Proofs.YtjpflljmeaihgaaDoor.H
open Go.RowKit Go.Lib

theorem below_setRow {B : Nat} {w0 w : World} (h : Below B w0 w) {g : Nat} (hg : B ≤ g) (cs : Array Value) : Below B w0 (w.setRow g cs) :=
  h.trans ⟨rfl, rfl, rfl, by simp, fun k hk => setRow_other w g k cs (by omega)⟩
/-- A result that is a whole block. -/
theorem results_row {f : Func} {k : Nat} {t : TypeId} {d : TypeDesc} (hf : f.results = #[ResultVar.cell k t]) (hd : (match d with | .struct _ | .array _ _ => true | _ => false) = true) (hu : Tryd.prog.underlying t = some d)
    {tmps : Array Value} {g : Nat} {cs : Array Value} {e : TypeId} {w : World} (hk : tmps.getD k undef = .pointer (some ⟨g, 0, none⟩)) (hb : w.heap[g]? = some (.cells cs e (0, 0)))
    (hs : (Tryd.prog.info? t).map (·.size) = some cs.size) : (results f tmps).run Tryd.prog w = .ok (.agg cs) w := by
  rw [Array.getD_eq_getD_getElem?] at hk
  have hl := run_loadVar_row (P := Tryd.prog) w g e t cs (0, 0) d hb hu (by cases d <;> first | rfl | cases hd) hs
  simp [results, hf, hk, asAddr, hl]
/-- A part in block g, whose numbers stand from a on. -/
def pairV (g : Nat) (a : Int) : Array Value :=
  #[.int .i64 a, .int .i64 12, .bool true, .int .i64 0, .int .i64 4611686018427387904, .pointer (some ⟨g, 0, none⟩),
    .int .i64 (a + 12), .int .i64 12, .bool true, .int .i64 0, .int .i64 4611686018427387904, .pointer (some ⟨g, 1, none⟩)]
theorem pairV_one (g : Nat) (a : Int) : (pairV g a).all (·.oneCell') = true := by simp [pairV, Value.oneCell']
theorem pair_size : (Tryd.prog.info? 85).map (·.size) = some 12 := by kernel_rfl
set_option maxRecDepth 100000 in
set_option maxHeartbeats 2000000 in
theorem pair_any (g : Nat) (a : Int) (h0 : 0 ≤ a) (h1 : a ≤ 100000) (w : World) :
    Calls Tryd.prog 52 #[.pointer (some ⟨g, 0, none⟩), .int .i64 a] w fun e w' => e = .returned (.agg (pairV g a)) ∧ Below w.heap.size w w' := by
  have e1 : IntKind.i64.wrap (a + 12) = a + 12 := IntWalk.i64_in _ (by omega)
  go_enter Tryd.func52, Tryd.ntmps52
  go_wp2
  generalize hW : w.alloc _ = W
  obtain ⟨hq, hB, hold⟩ := after_alloc hW
  have HB := hid (below_drew' hB)
  unfold World.drew at HB
  clear hW hold hB
  refine wp_region_still_tail 12 (by kernel_rfl) (by kernel_rfl) ?_
  simp only [List.take_succ_cons, List.take_zero, List.drop_succ_cons, List.drop_zero]
  have HQ := hid (show ({ W with drawn := W.drawn + 1 } : World).heap[w.heap.size]? = _ from hq)
  clear hq
  generalize ({ W with drawn := W.drawn + 1 } : World) = V at *
  repeat still_step
  try refine wpStill_nil ?_
  go_wp2_with (refine wpList_store_row rfl 85 (.tmp 4) (.tmp 16) rfl w.heap.size (pairV g a) (by simp [Act.eval]) (by simp [Act.eval, pairV, e1]) 85 _ HQ.out pair_size rfl (pairV_one _ _) ?_)
  refine bodyPost_ret (results_row rfl rfl Tryd.underlying85 (by rfl) (setRow_heap _ _ _ _ _ _ HQ.out) pair_size) rfl ⟨rfl, below_setRow HB.out (Nat.le_refl _) _⟩
end Go.Proofs.YtjpflljmeaihgaaDoor.H
