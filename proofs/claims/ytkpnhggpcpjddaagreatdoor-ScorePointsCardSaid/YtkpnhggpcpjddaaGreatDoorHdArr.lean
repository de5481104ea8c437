/-
  The arrays of fields.
-/
import Derived.Test.YtkpnhggpcpjddaaGreatDoorHMc
import Derived.StillTailTactics
import Derived.IntWalk
set_option linter.unusedVariables false
set_option linter.unusedSimpArgs false
namespace Go.Proofs.YtkpnhggpcpjddaaGreatDoor
open Go.RowKit Go.Lib

/-- The fields of texts, and of numbers, of the header in block g. -/
def textsV (g : Nat) (v : Int) : Array Value :=
  #[.int .i64 0, .int .i64 100, .bool true, .pointer (some ⟨g, 0, none⟩),
    .int .i64 157, .int .i64 100, .bool true, .pointer (some ⟨g, 7, none⟩),
    .int .i64 265, .int .i64 32, .bool (v != 0), .pointer (some ⟨g, 9, none⟩),
    .int .i64 297, .int .i64 32, .bool (v != 0), .pointer (some ⟨g, 10, none⟩),
    .int .i64 345, .int .i64 155, .bool (v == 1), .pointer (some ⟨g, 13, none⟩)]
theorem textsV_one (g : Nat) (v : Int) : (textsV g v).all (·.oneCell') = true := by simp [textsV, Value.oneCell']
theorem texts_size : (Tryz.prog.info? 75).map (·.size) = some 20 := by kernel_rfl
theorem below_setRow {B : Nat} {w0 w : World} (h : Below B w0 w) {g : Nat} (hg : B ≤ g) (cs : Array Value) : Below B w0 (w.setRow g cs) :=
  h.trans ⟨rfl, rfl, rfl, by simp, fun k hk => setRow_other w g k cs (by omega)⟩
/-- A result that is a whole block. -/
theorem results_row {f : Func} {k : Nat} {t : TypeId} {d : TypeDesc} (hf : f.results = #[ResultVar.cell k t]) (hd : (match d with | .struct _ | .array _ _ => true | _ => false) = true) (hu : Tryz.prog.underlying t = some d)
    {tmps : Array Value} {g : Nat} {cs : Array Value} {e : TypeId} {w : World} (hk : tmps.getD k undef = .pointer (some ⟨g, 0, none⟩)) (hb : w.heap[g]? = some (.cells cs e (0, 0)))
    (hs : (Tryz.prog.info? t).map (·.size) = some cs.size) : (results f tmps).run Tryz.prog w = .ok (.agg cs) w := by
  rw [Array.getD_eq_getD_getElem?] at hk
  have hl := run_loadVar_row (P := Tryz.prog) w g e t cs (0, 0) d hb hu (by cases d <;> first | rfl | cases hd) hs
  simp [results, hf, hk, asAddr, hl]
set_option maxRecDepth 100000 in
set_option maxHeartbeats 2000000 in
theorem texts_any (g : Nat) (h : M.Hdr) (pv : Value) (w : World) (hb : HB w g h pv) :
    Calls Tryz.prog 52 #[.pointer (some ⟨g, 0, none⟩)] w fun e w' => e = .returned (.agg (textsV g h.way)) ∧ Below w.heap.size w w' := by
  have hw : w.cell? ⟨g, 8, none⟩ = some (.int .i64 h.way) := hb.cell rfl
  have hlt := hb.lt
  go_enter Tryz.func52, Tryz.ntmps52
  go_wp2
  generalize hW : w.alloc _ = W
  obtain ⟨hq, hB, hold⟩ := after_alloc hW
  have c0 : ({ W with drawn := W.drawn + 1 } : World).cell? ⟨g, 8, none⟩ = some (.int .i64 h.way) := (hold ⟨g, 8, none⟩ hlt).trans hw
  have HB := hid (below_drew' hB)
  unfold World.drew at HB
  clear hW hw hold hB
  refine wp_region_still_tail 28 (by kernel_rfl) (by kernel_rfl) ?_
  simp only [List.take_succ_cons, List.take_zero, List.drop_succ_cons, List.drop_zero]
  have HQ := hid (show ({ W with drawn := W.drawn + 1 } : World).heap[w.heap.size]? = _ from hq)
  clear hq
  generalize ({ W with drawn := W.drawn + 1 } : World) = V at *
  repeat still_step
  try refine wpStill_nil ?_
  go_wp2_with ((refine wpList_store_row rfl 75 (.tmp 2) (.tmp 36) rfl w.heap.size (textsV g h.way) (by simp [Act.eval]) (by simp [Act.eval, textsV]) 75 _ HQ.out texts_size rfl (textsV_one _ _) ?_))
  refine bodyPost_ret (results_row rfl rfl Tryz.underlying75 (by rfl) (setRow_heap _ _ _ _ _ _ HQ.out) texts_size) rfl ⟨rfl, below_setRow HB.out (Nat.le_refl _) _⟩

def numbersV (g : Nat) (k v : Int) : Array Value :=
  #[.int .i64 100, .int .i64 8, .bool true, .int .i64 0, .int .i64 4611686018427387904, .pointer (some ⟨g, 1, none⟩),
    .int .i64 108, .int .i64 8, .bool true, .int .i64 0, .int .i64 4611686018427387904, .pointer (some ⟨g, 2, none⟩),
    .int .i64 116, .int .i64 8, .bool true, .int .i64 0, .int .i64 4611686018427387904, .pointer (some ⟨g, 3, none⟩),
    .int .i64 124, .int .i64 12, .bool true, .int .i64 0, .int .i64 1099511627776, .pointer (some ⟨g, 4, none⟩),
    .int .i64 136, .int .i64 12, .bool true, .int .i64 (-4611686018427387904), .int .i64 4611686018427387904, .pointer (some ⟨g, 5, none⟩),
    .int .i64 329, .int .i64 8, .bool (v != 0), .int .i64 0, .int .i64 4611686018427387904, .pointer (some ⟨g, 11, none⟩),
    .int .i64 337, .int .i64 8, .bool (v != 0), .int .i64 0, .int .i64 4611686018427387904, .pointer (some ⟨g, 12, none⟩),
    .int .i64 483, .int .i64 12, .bool (k == 83 && v == 2), .int .i64 0, .int .i64 1099511627776, .pointer (some ⟨g, 16, none⟩)]
theorem numbersV_one (g : Nat) (k v : Int) : (numbersV g k v).all (·.oneCell') = true := by simp [numbersV, Value.oneCell']
theorem numbers_size : (Tryz.prog.info? 82).map (·.size) = some 48 := by kernel_rfl
set_option maxRecDepth 100000 in
set_option maxHeartbeats 2000000 in
theorem numbers_any (g : Nat) (h : M.Hdr) (pv : Value) (w : World) (hb : HB w g h pv) :
    Calls Tryz.prog 54 #[.pointer (some ⟨g, 0, none⟩)] w fun e w' => e = .returned (.agg (numbersV g h.kind h.way)) ∧ Below w.heap.size w w' := by
  have hw : w.cell? ⟨g, 8, none⟩ = some (.int .i64 h.way) := hb.cell rfl
  have hk : w.cell? ⟨g, 6, none⟩ = some (.int .u8 h.kind) := hb.cell rfl
  have hlt := hb.lt
  cases hkk : h.kind == 83
  all_goals
    go_enter Tryz.func54, Tryz.ntmps54
    go_wp2
    generalize hW : w.alloc _ = W
    obtain ⟨hq, hB, hold⟩ := after_alloc hW
    have c0 : ({ W with drawn := W.drawn + 1 } : World).cell? ⟨g, 8, none⟩ = some (.int .i64 h.way) := (hold ⟨g, 8, none⟩ hlt).trans hw
    have c1 : ({ W with drawn := W.drawn + 1 } : World).cell? ⟨g, 6, none⟩ = some (.int .u8 h.kind) := (hold ⟨g, 6, none⟩ hlt).trans hk
    have HB := hid (below_drew' hB)
    unfold World.drew at HB
    clear hW hw hk hold hB
    refine wp_region_still_tail 36 (by kernel_rfl) (by kernel_rfl) ?_
    simp only [List.take_succ_cons, List.take_zero, List.drop_succ_cons, List.drop_zero]
    have HQ := hid (show ({ W with drawn := W.drawn + 1 } : World).heap[w.heap.size]? = _ from hq)
    clear hq
    generalize ({ W with drawn := W.drawn + 1 } : World) = V at *
    repeat still_step
    try refine wpStill_nil ?_
    go_wp2_with (refine wpList_store_row rfl 82 (.tmp 2) (.tmp 57) rfl w.heap.size (numbersV g h.kind h.way) (by simp [Act.eval]) (by simp [Act.eval, numbersV, hkk]) 82 _ HQ.out numbers_size rfl (numbersV_one _ _ _) ?_)
    refine bodyPost_ret (results_row rfl rfl Tryz.underlying82 (by rfl) (setRow_heap _ _ _ _ _ _ HQ.out) numbers_size) rfl ⟨rfl, below_setRow HB.out (Nat.le_refl _) _⟩

/-- A part in block g, whose numbers stand from a on. -/
def pairV (g : Nat) (a : Int) : Array Value :=
  #[.int .i64 a, .int .i64 12, .bool true, .int .i64 0, .int .i64 4611686018427387904, .pointer (some ⟨g, 0, none⟩),
    .int .i64 (a + 12), .int .i64 12, .bool true, .int .i64 0, .int .i64 4611686018427387904, .pointer (some ⟨g, 1, none⟩)]
theorem pairV_one (g : Nat) (a : Int) : (pairV g a).all (·.oneCell') = true := by simp [pairV, Value.oneCell']
theorem pair_size : (Tryz.prog.info? 96).map (·.size) = some 12 := by kernel_rfl
set_option maxRecDepth 100000 in
set_option maxHeartbeats 2000000 in
theorem pair_any (g : Nat) (a : Int) (h0 : 0 ≤ a) (h1 : a ≤ 100000) (w : World) :
    Calls Tryz.prog 77 #[.pointer (some ⟨g, 0, none⟩), .int .i64 a] w fun e w' => e = .returned (.agg (pairV g a)) ∧ Below w.heap.size w w' := by
  have e1 : IntKind.i64.wrap (a + 12) = a + 12 := IntWalk.i64_in _ (by omega)
  go_enter Tryz.func77, Tryz.ntmps77
  go_wp2
  generalize hW : w.alloc _ = W
  obtain ⟨hq, hB, hold⟩ := after_alloc hW
  have HB := hid (below_drew' hB)
  unfold World.drew at HB
  clear hW hold hB
  refine wp_region_still_tail 12 (by kernel_rfl) (by kernel_rfl) ?_
  simp only [List.take_succ_cons, List.take_zero, List.drop_succ_cons, List.drop_zero]
  have HQ := hid (show ({ W with drawn := W.drawn + 1 } : World).heap[w.heap.size]? = _ from hq)
  clear hq
  generalize ({ W with drawn := W.drawn + 1 } : World) = V at *
  repeat still_step
  try refine wpStill_nil ?_
  go_wp2_with (refine wpList_store_row rfl 96 (.tmp 4) (.tmp 16) rfl w.heap.size (pairV g a) (by simp [Act.eval]) (by simp [Act.eval, pairV, e1]) 96 _ HQ.out pair_size rfl (pairV_one _ _) ?_)
  refine bodyPost_ret (results_row rfl rfl Tryz.underlying96 (by rfl) (setRow_heap _ _ _ _ _ _ HQ.out) pair_size) rfl ⟨rfl, below_setRow HB.out (Nat.le_refl _) _⟩
end Go.Proofs.YtkpnhggpcpjddaaGreatDoor
