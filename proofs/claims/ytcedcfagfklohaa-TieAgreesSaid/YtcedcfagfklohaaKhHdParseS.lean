/-
  head.Parse: its steps.
-/
import Derived.Test.YtcedcfagfklohaaKhHdParts
import Derived.Test.YtcedcfagfklohaaKhHdMathP
set_option linter.unusedVariables false
set_option linter.unusedSimpArgs false
namespace Go.Proofs.Ytcedcfagfklohaa.Hd
open Go.RowKit Go.Lib

/-! What each step lays. -/
theorem rt_step0 (zs : List Int) (h : M.Hdr) (pv : Value) : (true = true → (hcells (M.rt zs h 0) pv).set! 0 (.string (M.txt zs 0 100)) = hcells (M.rt zs h 1) pv) ∧ (true = false → M.rt zs h 0 = M.rt zs h 1) := by
  exact ⟨fun _ => rfl, fun h => by cases h⟩
theorem rt_step1 (zs : List Int) (h : M.Hdr) (pv : Value) : (true = true → (hcells (M.rt zs h 1) pv).set! 7 (.string (M.txt zs 157 100)) = hcells (M.rt zs h 2) pv) ∧ (true = false → M.rt zs h 1 = M.rt zs h 2) := by
  exact ⟨fun _ => rfl, fun h => by cases h⟩
theorem rt_step2 (zs : List Int) (h : M.Hdr) (pv : Value) : ((h.way != 0) = true → (hcells (M.rt zs h 2) pv).set! 9 (.string (M.txt zs 265 32)) = hcells (M.rt zs h 3) pv) ∧ ((h.way != 0) = false → M.rt zs h 2 = M.rt zs h 3) := by
  refine ⟨fun e => ?_, fun e => ?_⟩
  · unfold hcells M.rt
    simp [e]
  · unfold M.rt
    simp [e]
theorem rt_step3 (zs : List Int) (h : M.Hdr) (pv : Value) : ((h.way != 0) = true → (hcells (M.rt zs h 3) pv).set! 10 (.string (M.txt zs 297 32)) = hcells (M.rt zs h 4) pv) ∧ ((h.way != 0) = false → M.rt zs h 3 = M.rt zs h 4) := by
  refine ⟨fun e => ?_, fun e => ?_⟩
  · unfold hcells M.rt
    simp [e]
  · unfold M.rt
    simp [e]
theorem rt_step4 (zs : List Int) (h : M.Hdr) (pv : Value) : ((h.way == 1) = true → (hcells (M.rt zs h 4) pv).set! 13 (.string (M.txt zs 345 155)) = hcells (M.rt zs h 5) pv) ∧ ((h.way == 1) = false → M.rt zs h 4 = M.rt zs h 5) := by
  refine ⟨fun e => ?_, fun e => ?_⟩
  · unfold hcells M.rt
    simp [e]
  · unfold M.rt
    simp [e]
theorem rn_step0 (zs : List Int) (h : M.Hdr) (pv : Value) : (true = true → (hcells (M.rn zs h 0) pv).set! 1 (.int .i64 (M.num zs 100 8)) = hcells (M.rn zs h 1) pv) ∧ (true = false → M.rn zs h 0 = M.rn zs h 1) := by
  exact ⟨fun _ => rfl, fun h => by cases h⟩
theorem rn_step1 (zs : List Int) (h : M.Hdr) (pv : Value) : (true = true → (hcells (M.rn zs h 1) pv).set! 2 (.int .i64 (M.num zs 108 8)) = hcells (M.rn zs h 2) pv) ∧ (true = false → M.rn zs h 1 = M.rn zs h 2) := by
  exact ⟨fun _ => rfl, fun h => by cases h⟩
theorem rn_step2 (zs : List Int) (h : M.Hdr) (pv : Value) : (true = true → (hcells (M.rn zs h 2) pv).set! 3 (.int .i64 (M.num zs 116 8)) = hcells (M.rn zs h 3) pv) ∧ (true = false → M.rn zs h 2 = M.rn zs h 3) := by
  exact ⟨fun _ => rfl, fun h => by cases h⟩
theorem rn_step3 (zs : List Int) (h : M.Hdr) (pv : Value) : (true = true → (hcells (M.rn zs h 3) pv).set! 4 (.int .i64 (M.num zs 124 12)) = hcells (M.rn zs h 4) pv) ∧ (true = false → M.rn zs h 3 = M.rn zs h 4) := by
  exact ⟨fun _ => rfl, fun h => by cases h⟩
theorem rn_step4 (zs : List Int) (h : M.Hdr) (pv : Value) : (true = true → (hcells (M.rn zs h 4) pv).set! 5 (.int .i64 (M.num zs 136 12)) = hcells (M.rn zs h 5) pv) ∧ (true = false → M.rn zs h 4 = M.rn zs h 5) := by
  exact ⟨fun _ => rfl, fun h => by cases h⟩
theorem rn_step5 (zs : List Int) (h : M.Hdr) (pv : Value) : ((h.way != 0) = true → (hcells (M.rn zs h 5) pv).set! 11 (.int .i64 (M.num zs 329 8)) = hcells (M.rn zs h 6) pv) ∧ ((h.way != 0) = false → M.rn zs h 5 = M.rn zs h 6) := by
  refine ⟨fun e => ?_, fun e => ?_⟩
  · unfold hcells M.rn
    simp [M.holed, e]
  · unfold M.rn
    simp [M.holed, e]
theorem rn_step6 (zs : List Int) (h : M.Hdr) (pv : Value) : ((h.way != 0) = true → (hcells (M.rn zs h 6) pv).set! 12 (.int .i64 (M.num zs 337 8)) = hcells (M.rn zs h 7) pv) ∧ ((h.way != 0) = false → M.rn zs h 6 = M.rn zs h 7) := by
  refine ⟨fun e => ?_, fun e => ?_⟩
  · unfold hcells M.rn
    simp [M.holed, e]
  · unfold M.rn
    simp [M.holed, e]
theorem rn_step7 (zs : List Int) (h : M.Hdr) (pv : Value) : ((h.kind == 83 && h.way == 2) = true → (hcells (M.rn zs h 7) pv).set! 16 (.int .i64 (M.num zs 483 12)) = hcells (M.rn zs h 8) pv) ∧ ((h.kind == 83 && h.way == 2) = false → M.rn zs h 7 = M.rn zs h 8) := by
  refine ⟨fun e => ?_, fun e => ?_⟩
  · unfold hcells M.rn
    simp [M.holed, e]
  · unfold M.rn
    simp [M.holed, e]
theorem rn_none (zs : List Int) (h : M.Hdr) : M.rn zs h 0 = h := by unfold M.rn; simp
theorem rt_way (zs : List Int) (h : M.Hdr) (k : Nat) : (M.rt zs h k).way = h.way ∧ (M.rt zs h k).kind = h.kind ∧ (M.rt zs h k).parts = h.parts := by
  match k with
  | 0 => exact ⟨rfl, rfl, rfl⟩
  | 1 => exact ⟨rfl, rfl, rfl⟩
  | 2 => exact ⟨rfl, rfl, rfl⟩
  | 3 => exact ⟨rfl, rfl, rfl⟩
  | 4 => exact ⟨rfl, rfl, rfl⟩
  | k + 5 => exact ⟨rfl, rfl, rfl⟩
end Go.Proofs.Ytcedcfagfklohaa.Hd
