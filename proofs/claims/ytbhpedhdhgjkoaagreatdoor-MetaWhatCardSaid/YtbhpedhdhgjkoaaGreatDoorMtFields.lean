/-
  The fields, all eight.
-/
import Derived.Test.YtbhpedhdhgjkoaaGreatDoorMtField
set_option linter.unusedVariables false
set_option linter.unusedSimpArgs false
namespace Go.Proofs.YtbhpedhdhgjkoaaGreatDoor
open Go.RowKit Go.Lib
open Px (R2 tl)

/-- One variable was made, at block b. -/
structure Made (w w' : World) (b : Nat) : Prop where
  lo : w.heap.size ≤ b
  hi : b < w'.heap.size
  below : Below w.heap.size w w'
theorem takeText_new (g i : Nat) (w : World) : Calls Tryz.prog 33 #[.pointer (some ⟨g, i, none⟩)] w fun e w' => ∃ b, e = .returned (.func (.func 64) #[] #[.pointer (some ⟨b, 0, none⟩)]) ∧ BoxP w' b g i ∧ Made w w' b := by
  go_enter Tryz.func33, Tryz.ntmps33
  go_wp2
  go_ret
  refine ⟨w.heap.size, rfl, ?_, Nat.le_refl _, by simp, (Below.refl _ w).alloc (Nat.le_refl _) _⟩
  unfold BoxP
  rw [cell_of_row _ _ _ _ _ _ (heap_alloc_new w _)]; rfl
theorem giveName_new (g : Nat) (w : World) : Calls Tryz.prog 34 #[.pointer (some ⟨g, 0, none⟩)] w fun e w' => ∃ b, e = .returned (.func (.func 65) #[] #[.pointer (some ⟨b, 0, none⟩)]) ∧ BoxP w' b g 0 ∧ Made w w' b := by
  go_enter Tryz.func34, Tryz.ntmps34
  go_wp2
  go_ret
  refine ⟨w.heap.size, rfl, ?_, Nat.le_refl _, by simp, (Below.refl _ w).alloc (Nat.le_refl _) _⟩
  unfold BoxP
  rw [cell_of_row _ _ _ _ _ _ (heap_alloc_new w _)]; rfl
theorem takeTime_new (g i : Nat) (w : World) : Calls Tryz.prog 38 #[.pointer (some ⟨g, i, none⟩)] w fun e w' => ∃ b, e = .returned (.func (.func 71) #[] #[.pointer (some ⟨b, 0, none⟩)]) ∧ BoxP w' b g i ∧ Made w w' b := by
  go_enter Tryz.func38, Tryz.ntmps38
  go_wp2
  go_ret
  refine ⟨w.heap.size, rfl, ?_, Nat.le_refl _, by simp, (Below.refl _ w).alloc (Nat.le_refl _) _⟩
  unfold BoxP
  rw [cell_of_row _ _ _ _ _ _ (heap_alloc_new w _)]; rfl
theorem two_boxes (w : World) (a c : Array Value) (t u : TypeId) : ((w.alloc (.cells a t)).alloc (.cells c u)).heap[w.heap.size]? = some (.cells a t (0, 0)) ∧ ((w.alloc (.cells a t)).alloc (.cells c u)).heap[w.heap.size + 1]? = some (.cells c u (0, 0)) := by
  have h2 := heap_alloc_new (w.alloc (.cells a t)) (.cells c u)
  rw [World.size_alloc] at h2
  refine ⟨?_, h2⟩
  have h1 := heap_alloc_new w (.cells a t)
  have hb : Below (w.alloc (.cells a t)).heap.size (w.alloc (.cells a t)) ((w.alloc (.cells a t)).alloc (.cells c u)) := (Below.refl _ _).alloc (Nat.le_refl _) _
  rw [hb.block w.heap.size (by simp)]
  exact h1
theorem below2 (w : World) (o o' : Obj) : Below w.heap.size w ((w.alloc o).alloc o') := ((Below.refl _ w).alloc (Nat.le_refl _) _).alloc (by simp) _
theorem giveText_new (g i : Nat) (n : Int) (w : World) : Calls Tryz.prog 35 #[.pointer (some ⟨g, i, none⟩), .int .i64 n] w fun e w' => ∃ b k, e = .returned (.func (.func 67) #[] #[.pointer (some ⟨b, 0, none⟩), .pointer (some ⟨k, 0, none⟩)]) ∧ BoxP w' b g i ∧ w'.cell? ⟨k, 0, none⟩ = some (.int .i64 n) ∧ Made w w' b ∧ Made w w' k := by
  go_enter Tryz.func35, Tryz.ntmps35
  go_wp2
  go_ret
  obtain ⟨h1, h2⟩ := two_boxes w #[.pointer (some ⟨g, i, none⟩)] #[.int .i64 n] 83 3
  have hb := below2 w (.cells #[.pointer (some ⟨g, i, none⟩)] 83) (.cells #[.int .i64 n] 3)
  refine ⟨w.heap.size, w.heap.size + 1, rfl, ?_, ?_, ⟨Nat.le_refl _, by simp only [World.size_alloc]; omega, hb⟩, ⟨by omega, by simp only [World.size_alloc]; omega, hb⟩⟩
  · unfold BoxP; rw [cell_of_row _ _ _ _ _ _ h1]; rfl
  · rw [cell_of_row _ _ _ _ _ _ h2]; rfl
theorem giveNumber_new (g i : Nat) (n : Int) (w : World) : Calls Tryz.prog 37 #[.pointer (some ⟨g, i, none⟩), .int .i64 n] w fun e w' => ∃ b k, e = .returned (.func (.func 69) #[] #[.pointer (some ⟨b, 0, none⟩), .pointer (some ⟨k, 0, none⟩)]) ∧ BoxP w' b g i ∧ w'.cell? ⟨k, 0, none⟩ = some (.int .i64 n) ∧ Made w w' b ∧ Made w w' k := by
  go_enter Tryz.func37, Tryz.ntmps37
  go_wp2
  go_ret
  obtain ⟨h1, h2⟩ := two_boxes w #[.pointer (some ⟨g, i, none⟩)] #[.int .i64 n] 87 3
  have hb := below2 w (.cells #[.pointer (some ⟨g, i, none⟩)] 87) (.cells #[.int .i64 n] 3)
  refine ⟨w.heap.size, w.heap.size + 1, rfl, ?_, ?_, ⟨Nat.le_refl _, by simp only [World.size_alloc]; omega, hb⟩, ⟨by omega, by simp only [World.size_alloc]; omega, hb⟩⟩
  · unfold BoxP; rw [cell_of_row _ _ _ _ _ _ h1]; rfl
  · rw [cell_of_row _ _ _ _ _ _ h2]; rfl
theorem takeNumber_new (g i : Nat) (n : Int) (w : World) : Calls Tryz.prog 36 #[.pointer (some ⟨g, i, none⟩), .int .i64 n] w fun e w' => ∃ b k, e = .returned (.func (.func 68) #[] #[.pointer (some ⟨k, 0, none⟩), .pointer (some ⟨b, 0, none⟩)]) ∧ BoxP w' b g i ∧ w'.cell? ⟨k, 0, none⟩ = some (.int .i64 n) ∧ Made w w' b ∧ Made w w' k := by
  go_enter Tryz.func36, Tryz.ntmps36
  go_wp2
  go_ret
  obtain ⟨h1, h2⟩ := two_boxes w #[.pointer (some ⟨g, i, none⟩)] #[.int .i64 n] 87 3
  have hb := below2 w (.cells #[.pointer (some ⟨g, i, none⟩)] 87) (.cells #[.int .i64 n] 3)
  refine ⟨w.heap.size, w.heap.size + 1, rfl, ?_, ?_, ⟨Nat.le_refl _, by simp only [World.size_alloc]; omega, hb⟩, ⟨by omega, by simp only [World.size_alloc]; omega, hb⟩⟩
  · unfold BoxP; rw [cell_of_row _ _ _ _ _ _ h1]; rfl
  · rw [cell_of_row _ _ _ _ _ _ h2]; rfl
theorem giveTime_new (g i : Nat) (S n : Int) (w : World) : Calls Tryz.prog 39 #[.pointer (some ⟨g, i, none⟩), .agg #[.int .i64 S, .int .i64 n]] w fun e w' => ∃ b k, e = .returned (.func (.func 73) #[] #[.pointer (some ⟨b, 0, none⟩), .pointer (some ⟨k, 0, none⟩)]) ∧ BoxP w' b g i ∧ w'.cell? ⟨k, 0, none⟩ = some (.int .i64 S) ∧ w'.cell? ⟨k, 1, none⟩ = some (.int .i64 n) ∧ Made w w' b ∧ Made w w' k := by
  go_enter Tryz.func39, Tryz.ntmps39
  go_wp2
  go_ret
  obtain ⟨h1, h2⟩ := two_boxes w #[.pointer (some ⟨g, i, none⟩)] #[.int .i64 S, .int .i64 n] 87 24
  have hb := below2 w (.cells #[.pointer (some ⟨g, i, none⟩)] 87) (.cells #[.int .i64 S, .int .i64 n] 24)
  refine ⟨w.heap.size, w.heap.size + 1, rfl, ?_, ?_, ?_, ⟨Nat.le_refl _, by simp only [World.size_alloc]; omega, hb⟩, ⟨by omega, by simp only [World.size_alloc]; omega, hb⟩⟩
  · unfold BoxP; rw [cell_of_row _ _ _ _ _ _ h1]; rfl
  · rw [cell_of_row _ _ _ _ _ _ h2]; rfl
  · rw [cell_of_row _ _ _ _ _ _ h2]; rfl
end Go.Proofs.YtbhpedhdhgjkoaaGreatDoor
