/-
  Are the texts such as may be?
-/
import Derived.Test.YtbhpedhdhgjkoaaGreatDoorMtKeys
import Derived.Test.YtbhpedhdhgjkoaaGreatDoorKX
set_option linter.unusedVariables false
set_option linter.unusedSimpArgs false
namespace Go.Proofs.YtbhpedhdhgjkoaaGreatDoor
open Go.RowKit Go.Lib
open Px (R2 tl)

/-- Block g is what is known. -/
def MB (w : World) (g : Nat) (m : M.Met) (pv ev : Value) : Prop := w.heap[g]? = some (.cells (mcells m pv ev) 28 (0, 0))
section
variable {w w' : World} {g : Nat} {m : M.Met} {pv ev : Value}
theorem MB.lt (hb : MB w g m pv ev) : g < w.heap.size := (Array.getElem?_eq_some_iff.1 hb).1
theorem MB.cell (hb : MB w g m pv ev) {i : Nat} {v : Value} (hv : (mcells m pv ev)[i]? = some v) : w.cell? ⟨g, i, none⟩ = some v := by
  rw [cell_of_row w g i _ _ (0, 0) hb]; exact hv
theorem MB.of_block (hb : MB w g m pv ev) (e : w'.heap[g]? = w.heap[g]?) : MB w' g m pv ev := e.trans hb
theorem MB.below {B : Nat} (hb : MB w g m pv ev) (hw : Below B w w') (hB : g < B) : MB w' g m pv ev := hb.of_block (hw.block g hB)
theorem MB.new (w : World) (m : M.Met) (pv ev : Value) : MB (w.alloc (.cells (mcells m pv ev) 28)) w.heap.size m pv ev := heap_alloc_new w _
end

theorem ret_bool {a b : Bool} (h : a = b) : Ending.returned (.bool a) = .returned (.bool b) := by rw [h]
theorem isText_any (s : ByteArray) (a b : Int) (w : World) : Calls Tryz.prog 82 #[.string s, .int .i64 a, .int .i64 b] w fun e w' => e = .returned (.bool (M.isText s a b)) ∧ w = w' := by
  have HI := hid (Px.indexByte_all (tl s))
  unfold M.isText M.noNul
  have HW := hid (within_any (s.size : Int) a b w)
  cases hv : M.within (s.size : Int) a b with
  | false =>
    rw [hv] at HW
    clear hv
    go_enter Tryz.func82, Tryz.ntmps82
    go_wp2_with (go_at_call 10; (with_reducible refine HW.out.mono ?_); rintro e w2 ⟨rfl, rfl⟩)
    go_ret
    exact ⟨rfl, rfl⟩
  | true =>
    rw [hv] at HW
    clear hv
    rcases HI.out with ⟨h1, h2⟩ | ⟨h1, h2⟩
    · rw [h2]
      have HX := Lib.hid h1
      clear h1 h2 HI
      go_enter Tryz.func82, Tryz.ntmps82
      go_wp2_with (first | (go_at_call 10; (with_reducible refine HW.out.mono ?_); rintro e w2 ⟨rfl, rfl⟩) | (go_at_call 87; refine (Tryz.strings_IndexByte _ _ _).mono ?_; rintro e w' ⟨rfl, rfl⟩; rw [show Lib.indexByte s.data.toList (0 : Int).toNat.toUInt8 = -1 from HX.out]))
      go_ret
      exact ⟨rfl, rfl⟩
    · rw [h2]
      have hd : decide (Lib.indexByte s.data.toList (0 : Int).toNat.toUInt8 < 0) = false := by rw [decide_eq_false_iff_not]; show ¬ Lib.indexByte (tl s) 0 < 0; omega
      obtain ⟨z, hz⟩ : ∃ z, Lib.indexByte s.data.toList (0 : Int).toNat.toUInt8 = z := ⟨_, rfl⟩
      rw [hz] at hd
      have HX := Lib.hid hz
      clear h1 h2 HI hz
      go_enter Tryz.func82, Tryz.ntmps82
      go_wp2_with (first | (go_at_call 10; (with_reducible refine HW.out.mono ?_); rintro e w2 ⟨rfl, rfl⟩) | (go_at_call 87; refine (Tryz.strings_IndexByte _ _ _).mono ?_; rintro e w' ⟨rfl, rfl⟩; rw [HX.out]))
      go_ret
      exact ⟨rfl, rfl⟩
end Go.Proofs.YtbhpedhdhgjkoaaGreatDoor
