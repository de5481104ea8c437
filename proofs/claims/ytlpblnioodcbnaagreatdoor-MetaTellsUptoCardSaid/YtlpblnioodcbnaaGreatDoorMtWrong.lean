/-
  Why may it not be?
-/
import Derived.Test.YtlpblnioodcbnaaGreatDoorMtTextZ
import Derived.Test.YtlpblnioodcbnaaGreatDoorMtNumbers
import Derived.Test.YtlpblnioodcbnaaGreatDoorMtExtra
import Derived.Test.YtlpblnioodcbnaaGreatDoorMtHoles
set_option linter.unusedVariables false
set_option linter.unusedSimpArgs false
namespace Go.Proofs.YtlpblnioodcbnaaGreatDoor
open Go.RowKit Go.Lib
open Px (R2 tl)

theorem wrong_eq (m : M.Met) : M.wrong m = if (!M.within m.kind 48 54) = true then 31 else if (!M.hasTexts m) = true then 33 else if (!M.hasNumbers m) = true then 32 else if (!M.isExtra [] m.extra || (m.holes && !M.hasHoles m)) = true then 34 else 0 := by
  unfold M.wrong
  cases M.within m.kind 48 54 <;> cases M.hasTexts m <;> cases M.hasNumbers m <;> cases M.isExtra [] m.extra <;> cases m.holes <;> cases M.hasHoles m <;> rfl
set_option maxRecDepth 100000 in
set_option maxHeartbeats 2000000 in
theorem wrong_any (m : M.Met) (pv ev : Value) (w : World) (hm : MIn w m pv ev) : Calls Tryz.prog 28 #[.agg (mcells m pv ev)] w fun e w' => e = .returned (.int .u16 (M.wrong m : Nat)) ∧ Below w.heap.size w w' := by
  have HE := hid (wrong_eq m)
  have HM := hid hm
  obtain ⟨A, c, hev, hr⟩ := hm.extra
  have hnx := hm.nextra
  have B1 := hid (MB.new w m pv ev)
  have hb1 : Below w.heap.size w (w.alloc (.cells (mcells m pv ev) 27)) := (Below.refl _ _).alloc (Nat.le_refl _) _
  have hsz := World.size_alloc w (.cells (mcells m pv ev) 27)
  have hkw : IntKind.i64.wrap m.kind = m.kind := IntWalk.i64_in _ (by have := hm.kind; omega)
  have H1 := hid (fun W => within_any m.kind 48 54 W)
  have H2 := hid (fun V hV => hasTexts_any m pv ev V (HM.out.later hV))
  have H3 := hid (fun V hV => hasNumbers_any m pv ev V (HM.out.later hV))
  have H4 := hid (fun V (hV : Below w.heap.size w V) => isExtra_any A c m.extra (by omega) V ((hr.below hV).more hV.size))
  have H5 := hid (fun V hV => hasHoles_any m pv ev V (HM.out.later hV))
  have HW := hid hb1
  have hev2 : Value.slice A m.extra.length c = ev := hev.symm
  rw [hev2] at H4
  clear hm hr hb1 hev hev2 hnx HM
  generalize hE : M.isExtra [] m.extra = be at *
  have HF := hid (show ∀ V, Below (w.heap.size + 1) (w.alloc (.cells (mcells m pv ev) 27)) V → MB V w.heap.size m pv ev from fun V hV => B1.out.below hV (by omega))
  clear B1 hE
  go_enter Tryz.func28, Tryz.ntmps28
  go_upto_region 1 with fail
  generalize World.alloc w _ = W at *
  have B0 := HF.out W (Below.refl _ _)
  have x2 := B0.cell (i := 2) (v := .int .u8 m.kind) rfl
  have C1 := hid B0
  clear B0
  have HF2 := hid (show ∀ V, MB V w.heap.size m pv ev → V.cell? ⟨w.heap.size, 0, none⟩ = some (.string m.name) ∧ V.cell? ⟨w.heap.size, 1, none⟩ = some (.string m.link) ∧ V.cell? ⟨w.heap.size, 2, none⟩ = some (.int .u8 m.kind) ∧ V.cell? ⟨w.heap.size, 3, none⟩ = some (.int .i64 m.mode) ∧ V.cell? ⟨w.heap.size, 4, none⟩ = some (.int .i64 m.uid) ∧ V.cell? ⟨w.heap.size, 5, none⟩ = some (.int .i64 m.gid) ∧ V.cell? ⟨w.heap.size, 6, none⟩ = some (.string m.user) ∧ V.cell? ⟨w.heap.size, 7, none⟩ = some (.string m.group) ∧ V.cell? ⟨w.heap.size, 8, none⟩ = some (.int .i64 m.sec) ∧ V.cell? ⟨w.heap.size, 9, none⟩ = some (.int .i64 m.nan) ∧ V.cell? ⟨w.heap.size, 10, none⟩ = some (.int .i64 m.major) ∧ V.cell? ⟨w.heap.size, 11, none⟩ = some (.int .i64 m.minor) ∧ V.cell? ⟨w.heap.size, 12, none⟩ = some (.int .i64 m.size) ∧ V.cell? ⟨w.heap.size, 13, none⟩ = some (.int .i64 m.real) ∧ V.cell? ⟨w.heap.size, 14, none⟩ = some (.bool m.holes) ∧ V.cell? ⟨w.heap.size, 15, none⟩ = some pv ∧ V.cell? ⟨w.heap.size, 16, none⟩ = some ev from fun V h =>
    ⟨h.cell (i := 0) rfl, h.cell (i := 1) rfl, h.cell (i := 2) rfl, h.cell (i := 3) rfl, h.cell (i := 4) rfl, h.cell (i := 5) rfl, h.cell (i := 6) rfl, h.cell (i := 7) rfl, h.cell (i := 8) rfl, h.cell (i := 9) rfl, h.cell (i := 10) rfl, h.cell (i := 11) rfl, h.cell (i := 12) rfl, h.cell (i := 13) rfl, h.cell (i := 14) rfl, h.cell (i := 15) rfl, h.cell (i := 16) rfl⟩)
  cases b1 : M.within m.kind 48 54 with
  | false =>
    rw [b1] at H1 HE
    go_wp2_with (go_at_call 35; (with_reducible refine (H1.out _).mono ?_); rintro e w9 ⟨rfl, rfl⟩)
    go_ret
    exact ⟨by rw [HE.out]; rfl, HW.out⟩
  | true =>
  rw [b1] at H1 HE
  go_upto_region 3 with (go_at_call 35; (with_reducible refine (H1.out _).mono ?_); rintro e w9 ⟨rfl, rfl⟩)
  clear b1 x2 H1
  go_wp2_with (refine wpList_load_row rfl 27 (.tmp 1) rfl w.heap.size (by rfl) 27 (mcells m pv ev) (0, 0) _ C1.out Tryz.underlying27 rfl met_size ?_)
  (with_reducible refine (H2.out _ HW.out).mono ?_)
  rintro e w2 ⟨rfl, hb2⟩
  have B2 := hid (HW.out.trans (hb2.mono HW.out.size))
  have C2 := hid (HF.out w2 (hsz ▸ hb2))
  have D2 := hid hb2
  clear hb2 H2
  cases b2 : M.hasTexts m with
  | false =>
    rw [b2] at HE
    go_wp2_with fail
    go_ret
    exact ⟨by rw [HE.out]; rfl, B2.out⟩
  | true =>
  rw [b2] at HE
  clear b2
  go_upto_region 5 with fail
  go_wp2_with (refine wpList_load_row rfl 27 (.tmp 1) rfl w.heap.size (by rfl) 27 (mcells m pv ev) (0, 0) _ C2.out Tryz.underlying27 rfl met_size ?_)
  (with_reducible refine (H3.out _ B2.out).mono ?_)
  rintro e w3 ⟨rfl, hb3⟩
  have B3 := hid (B2.out.trans (hb3.mono B2.out.size))
  have D3 := hid (D2.out.trans (hb3.mono D2.out.size))
  have C3 := hid (HF.out w3 (hsz ▸ D3.out))
  have y16 := C3.out.cell (i := 16) (v := ev) rfl
  clear hb3 H3 C2
  cases b3 : M.hasNumbers m with
  | false =>
    rw [b3] at HE
    clear y16
    go_wp2_with fail
    go_ret
    exact ⟨by rw [HE.out]; rfl, B3.out⟩
  | true =>
  rw [b3] at HE
  clear b3
  go_upto_region 7 with fail
  cases bh : m.holes with
  | false =>
    rw [bh] at HF2 HE
    go_wp2_with (first
      | (go_at_call 65; (with_reducible refine (H4.out _ B3.out).mono ?_); rintro e w4 ⟨rfl, hb4⟩; (have B4 := hid (B3.out.trans (hb4.mono B3.out.size))); (have D4 := hid (D3.out.trans (hb4.mono D3.out.size))); (have C4 := hid (HF.out w4 (hsz ▸ D4.out))); clear y16; obtain ⟨z0, z1, z2, z3, z4, z5, z6, z7, z8, z9, z10, z11, z12, z13, z14, z15, z16⟩ := HF2.out w4 C4.out; clear hb4))
    all_goals first
      | (exfalso; simp_all; done)
      | (go_ret
         first
           | exact ⟨by rw [HE.out]; simp [*], B4.out⟩)
  | true =>
    have H6 := hid (show ∀ V, Below w.heap.size w V → Calls Tryz.prog 66 #[.agg #[.string m.name, .string m.link, .int .u8 m.kind, .int .i64 m.mode, .int .i64 m.uid, .int .i64 m.gid, .string m.user, .string m.group, .int .i64 m.sec, .int .i64 m.nan, .int .i64 m.major, .int .i64 m.minor, .int .i64 m.size, .int .i64 m.real, .bool true, pv, ev]] V fun e w' => e = .returned (.bool (M.hasHoles m)) ∧ Below V.heap.size V w' from by
      have h := H5.out
      unfold mcells at h
      rw [bh] at h
      exact h)
    rw [bh] at HF2 HE
    go_wp2_with (first
      | (go_at_call 65; (with_reducible refine (H4.out _ B3.out).mono ?_); rintro e w4 ⟨rfl, hb4⟩; (have B4 := hid (B3.out.trans (hb4.mono B3.out.size))); (have D4 := hid (D3.out.trans (hb4.mono D3.out.size))); (have C4 := hid (HF.out w4 (hsz ▸ D4.out))); clear y16; obtain ⟨z0, z1, z2, z3, z4, z5, z6, z7, z8, z9, z10, z11, z12, z13, z14, z15, z16⟩ := HF2.out w4 C4.out; clear hb4)
      | (go_at_call 66; (with_reducible refine (H6.out _ B4.out).mono ?_); rintro e w5 ⟨rfl, hb5⟩; (have B5 := hid (B4.out.trans (hb5.mono B4.out.size))); clear hb5))
    all_goals first
      | (exfalso; simp_all; done)
      | (go_ret
         first
           | exact ⟨by rw [HE.out]; simp [*], B5.out⟩
           | exact ⟨by rw [HE.out]; simp [*], B4.out⟩)
end Go.Proofs.YtlpblnioodcbnaaGreatDoor
