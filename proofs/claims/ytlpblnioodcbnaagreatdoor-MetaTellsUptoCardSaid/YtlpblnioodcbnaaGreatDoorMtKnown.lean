/-
  The chapter's example holds.
-/
import Derived.Test.YtlpblnioodcbnaaGreatDoorMtFrom
import Derived.Test.YtlpblnioodcbnaaGreatDoorMtFitZ
set_option linter.unusedVariables false
set_option linter.unusedSimpArgs false
namespace Go.Proofs.YtlpblnioodcbnaaGreatDoor
open Go.RowKit Go.Lib
open Px (R2 tl)
attribute [local go_sem ↓] add_plain
theorem ex_fit : Fit1 M.exM where
  kind := by decide
  name := by decide
  link := by decide
  user := by decide
  group := by decide
  mode := isI64_0
  uid := isI64_le (k := 3000000) (by decide) (by decide)
  gid := isI64_0
  sec := isI64_0
  nan := isI64_0
  major := isI64_0
  minor := isI64_0
  sz := isI64_0
  real := isI64_0
set_option maxRecDepth 100000 in
set_option maxHeartbeats 4000000 in
theorem known_any (B : Nat) (w : World) (hB : B ≤ w.heap.size) (ht : Sp.EV B w) : Calls Tryz.prog 5 #[] w fun e w' => e = .returned (.bool true) ∧ Below w.heap.size w w' := by
  have HT := hid (to_any M.exM (.slice none 0 0) (.slice none 0 0) B w (min_plain ex_fit rfl rfl) hB ht)
  have HEV := hid ht
  clear ht
  go_enter Tryz.func5, Tryz.ntmps5
  go_wp2_with fail
  refine HT.out.mono ?_
  rintro e w1 ⟨A, c, rfl, hr1, hc1, hb1⟩
  have HFI := hid (fun (W : World) (hW : Below w1.heap.size w1 W) => fin_to (w := W) (m := M.exM) (by intro r hr; cases hr) ((hr1.below hW).more hW.size))
  have HR1 := hid (show Px.RdR w1 w1.heap.size A [((⟨#[117, 105, 100]⟩, ⟨#[51, 48, 48, 48, 48, 48, 48]⟩) : R2)] from by rw [M.ex_head.2] at hr1; exact hr1)
  have HB1 := hid hb1
  have hl1 : (M.toR M.exM).length = 1 := by rw [M.ex_head.2]; rfl
  rw [hl1, M.ex_toE]
  clear HT hr1 hc1 hb1
  have HF := hid (fun (c : Nat) (W : World) (hW : Below w1.heap.size w1 W) => from_any (M.toH M.exM) (.slice none 0 0) ((M.toR M.exM).map M.mk) [] [] [] A none none none c 0 0 0 B W (HFI.out W hW) (Nat.le_trans hB (Nat.le_trans HB1.out.size hW.size)) (HEV.out.on ((HB1.out.trans (hW.mono HB1.out.size)).mono hB)))
  unfold FromIs at HF
  rw [List.length_map, hl1, rcs_mk, (M.from_to M.ex_toE).1, (M.from_to M.ex_toE).2] at HF
  have hu := M.ex_head.1
  clear hl1 HFI
  generalize M.toH M.exM = H at *
  go_upto_region 2 with (refine wpList_store_row rfl 36 (.tmp 1) (.tmp 9) rfl w1.heap.size (hcells H (.slice none 0 0)) (by simp [Act.eval]) (by simp [Act.eval]) 36 (hcells {} (.slice none 0 0)) (heap_alloc_new w1 _) hdr_size rfl (hcells_one _ rfl) ?_; rw [World.setRow_alloc_new])
  have hb2 := (Below.refl w1.heap.size w1).alloc (Nat.le_refl _) (.cells (hcells H (.slice none 0 0)) 36)
  have HH2 := hid (HB.new w1 H (.slice none 0 0))
  have hs2 := World.size_alloc w1 (.cells (hcells H (.slice none 0 0)) 36)
  have HF2 := hid (HF.out c _ hb2)
  have HR2 := hid ((HR1.out.below hb2).more hb2.size)
  have HB2 := hid (HB1.out.trans (hb2.mono HB1.out.size))
  clear HF HR1 HB1 hb2
  generalize World.alloc w1 _ = w2 at *
  go_wp2_with (refine wpList_load_row rfl 36 (.tmp 1) rfl w1.heap.size (by rfl) 36 (hcells H (.slice none 0 0)) (0, 0) _ HH2.out Tryz.underlying36 rfl hdr_size ?_)
  refine HF2.out.mono ?_
  rintro e w3 ⟨pv, ev, rfl, hmi, hb3⟩
  have HH3 := HH2.out.below hb3 (by omega)
  have hr3 := HR2.out.below hb3
  have hs3 := hb3.size
  have HB3 := hid (HB2.out.trans (hb3.mono HB2.out.size))
  obtain ⟨b, off, rfl, hbb, c0, _⟩ := hr3.at_ (k := 0) (by decide)
  have y3 := HH3.cell (i := 2) (v := .int .i64 H.uid) rfl
  rw [hu] at y3
  simp only [Nat.zero_mul, Nat.add_zero, List.getElem_cons_zero] at c0
  have hbl : b < w3.heap.size := by omega
  have hpv : pv.oneCell' = true := by
    obtain ⟨A2, c2, e, _⟩ := hmi.parts
    rw [e]; rfl
  have hev : ev.oneCell' = true := by
    obtain ⟨A2, c2, e, _⟩ := hmi.extra
    rw [e]; rfl
  have HP := hid (And.intro hpv hev)
  clear HF2 HR2 HB2 HH2 hr3 HH3 hmi hpv hev
  go_upto_region 3 with (refine wpList_store_row rfl 27 (.tmp 4) (.tmp 16) rfl w3.heap.size (mcells M.exM pv ev) (by simp [Act.eval]) (by simp [Act.eval]) 27 (mcells {} (.slice none 0 0) (.slice none 0 0)) (heap_alloc_new w3 _) met_size rfl (mcells_one _ HP.out.1 HP.out.2) ?_; rw [World.setRow_alloc_new])
  have MB4 := MB.new w3 M.exM pv ev
  have x4 := MB4.cell (i := 4) (v := .int .i64 3000000) rfl
  have x0 := MB4.cell (i := 0) (v := .string ⟨#[97]⟩) rfl
  have HB4 := hid (HB3.out.alloc HB3.out.size (.cells (mcells M.exM pv ev) 27))
  have y3' := (World.cell?_alloc_lt w3 (.cells (mcells M.exM pv ev) 27) ⟨w1.heap.size, 2, none⟩ (by show w1.heap.size < _; omega)).trans y3
  have c0' := (World.cell?_alloc_lt w3 (.cells (mcells M.exM pv ev) 27) ⟨b, off, none⟩ hbl).trans c0
  clear MB4 HB3 y3 c0
  generalize World.alloc w3 _ = w4 at *
  go_wp2
  go_ret
  exact ⟨rfl, HB4.out⟩
end Go.Proofs.YtlpblnioodcbnaaGreatDoor
