/-
  WriteShort as data.
-/
import Derived.Test.YtgbgngdakkiclaaGreatDoorWrZ
set_option linter.unusedVariables false
set_option linter.unusedSimpArgs false
namespace Go.Proofs.YtgbgngdakkiclaaGreatDoor
open Go.RowKit Go.Lib
open Px (R2 tl)

namespace M
theorem line_some (r : Px.M.Rc) : 0 < (Px.M.line r).length := by
  show 0 < (_ ++ _ : List UInt8).length
  rw [List.length_append]
  have : 0 < (Px.M.body r).length := by unfold Px.M.body; simp
  omega
theorem recI_some {m : Met} (hE : toE m = 0) (h : ¬ (toR m).length = 0) : 0 < (recI m).length := by
  rw [recI_len, Px.M.printB_0 (recE hE)]
  cases hr : toR m with
  | nil => rw [hr] at h; exact absurd rfl h
  | cons r l =>
    show 0 < (Px.M.line r ++ Px.M.lines l).length
    rw [List.length_append]
    have := line_some r
    omega
theorem pad_512 (n : Nat) : n + padK n = (n + 511) / 512 * 512 := by unfold padK; omega
theorem up_512 {n : Nat} (h : 0 < n) : 512 ≤ n + padK n := by rw [pad_512]; omega
end M
theorem toR_len' {m : M.Met} (he : M.toE m = 0) : (M.toR m).length ≤ 1000 := by
  have hR : M.toR m = M.recsOf m := by unfold M.toR; rw [if_pos he]
  rw [hR]
  refine recs_len ?_
  have h := he
  unfold M.toE at h
  split at h
  · rename_i h1; exact absurd h h1
  · exact h
set_option maxRecDepth 100000 in
set_option maxHeartbeats 4000000 in
theorem lawShort (A : Option Addr) (n c : Nat) (cs : List Int) (w : World) (hr : Sp.Rd w w.heap.size A n cs) (hc : n ≤ c) (hcm : c ≤ maxLen) (hmg : Hd.MG w) (BE : Nat) (hBE : BE ≤ w.heap.size) (hev : Sp.EV BE w) :
    Calls Tryz.prog 3 #[.slice A n c] w fun e w' => e = .returned (.bool true) ∧ Below w.heap.size w w' := by
  have HM := hid (members_any A n c cs w hr hc hcm)
  have HG := hid (fun V (hV : Below w.heap.size w V) => hmg.later hV)
  have HE := hid (fun V (hV : Below w.heap.size w V) => hev.on (hV.mono hBE))
  clear hr hmg hev hcm
  go_enter Tryz.func3, Tryz.ntmps3
  go_wp2_with fail
  refine HM.out.mono ?_
  rintro e w1 ⟨zs, A1, c1, rfl, hr1, hi1, hl1, hb1⟩
  have HB1 := hid hb1
  go_wp2_with fail
  refine (good_any A1 c1 zs w1 hr1 hi1 (by omega) BE (Nat.le_trans hBE hb1.size) (HE.out w1 hb1)).mono ?_
  rintro e w2 ⟨A2, c2, rfl, hr2, hi2, hb2⟩
  have hgl := Nat.le_trans (goodL_len zs) hl1
  have HOK := hid (fun x (hx : x ∈ goodL zs) => (goodL_mem hx).2)
  generalize goodL zs = ys at *
  have HB2 := hid (HB1.out.trans (hb2.mono HB1.out.size))
  have HR := hid (fun V (hV : Below w2.heap.size w2 V) => hr2.keep fun p hp => hV.cell (p := p) hp)
  have HI := hid (fun V (hV : Below w2.heap.size w2 V) x (hx : x ∈ ys) => (hi2 x hx).later (Nat.le_refl _) hV)
  have HF := hid (fun x (hx : x ∈ ys) => (hi2 x hx).few)
  clear hr1 hi1 hr2 hi2 hb1 hb2 HM HB1
  go_wp2_with fail
  go_loopw [4] (fun i wr => ∃ k : Nat, i = .int .i64 k ∧ k ≤ ys.length ∧ Hid (Below w2.heap.size w2 wr)) (fun i _ => ys.length - (intOf i).toNat)
  case atStart => exact ⟨0, rfl, Nat.zero_le _, hid (Below.refl _ _)⟩
  case round =>
    obtain ⟨k, rfl, hk, HB⟩ := hrel
    by_cases hlt : k < ys.length
    · obtain ⟨bb, off, rfl, hbb, hrow⟩ := HR.out wr HB.out (by omega)
      have hx := hrow k ys[k] (List.getElem?_eq_getElem hlt)
      have hmem : ys[k] ∈ ys := List.getElem_mem hlt
      have HIk := hid (HI.out wr HB.out ys[k] hmem)
      have HEk := hid (HOK.out _ hmem)
      have HLE := hid (M.oneL_le (HOK.out _ hmem) (HF.out _ hmem))
      obtain ⟨x, hxk⟩ : ∃ x, ys[k] = x := ⟨_, rfl⟩
      rw [hxk] at hx HIk HEk HLE
      clear hxk hrow hmem
      have hms : (Tryz.prog.info? 37).map (·.size) = some x.cells.toList.length := mem_size
      go_wp2_with (refine wpList_load_mid rfl 37 (.tmp 23) rfl bb (off + k * 18) (by simp [Act.eval, Addr.add]) x.cells.toList _ hx Tryz.underlying37 rfl hms ?_; rw [Array.toArray_toList])
      have HBw := hid (HB2.out.trans (HB.out.mono HB2.out.size))
      refine (one_any x wr (HIk.out.more HB.out.size) (HG.out wr HBw.out) BE (Nat.le_trans hBE HBw.out.size) (HE.out wr HBw.out)).mono ?_
      rintro e w4 ⟨v4, rfl, ho4, _, hb4⟩
      have hE := M.oneE_toE HEk.out
      obtain ⟨Ad, cd, hdv, hrd, _⟩ := HIk.out.data
      obtain ⟨A5, c5, rfl, _, _, _⟩ := (ho4 HEk.out).rd (M.oneL_u8 hE hrd.2.1)
      have HB4 := hid (HB.out.trans (hb4.mono HB.out.size))
      have hx4 : w4.rangeAt bb (off + k * 18) x.cells.toList := fun i v hv => (hb4.cell (p := ⟨bb, off + k * 18 + i, none⟩) (Nat.lt_of_lt_of_le hbb HB.out.size)).trans (hx i v hv)
      have hm4 : w4.rangeAt bb (off + k * 18) (mcells x.m x.pv x.ev).toList := fun i v hv => hx4 i v (by
        rw [Mb.cells_eq, Array.toList_push, List.getElem?_append_left (List.getElem?_eq_some_iff.1 hv).1]; exact hv)
      have hmm : (Tryz.prog.info? 35).map (·.size) = some (mcells x.m x.pv x.ev).toList.length := met_size
      have HI4 := hid (HIk.out.met.later (hb4))
      have hd20 : x.d.length ≤ 1048576 := HIk.out.few
      have hN : (M.oneL x.m x.d).length = (if (M.toR x.m).length = 0 then 0 else 512 + ((M.recI x.m).length + M.padK (M.recI x.m).length)) + 512 + (x.d.length + 511) / 512 * 512 := by
        rw [M.oneL_len hE, M.oneR_len, M.pad_512 x.d.length]
      have HN := hid hN
      clear hN
      have HL := hid (show (M.oneL x.m x.d).length ≤ 3200000 from HLE.out)
      have HBw4 := hid (HB2.out.trans (HB4.out.mono HB2.out.size))
      rw [HEk.out]
      clear ho4 hb4 HB hrd HLE hms hx HBw
      go_upto_region 6 with fail
      go_wp2_with (refine wpList_load_mid rfl 35 (.tmp 32) rfl bb (off + k * 18) (by simp [Act.eval, Addr.add]) (mcells x.m x.pv x.ev).toList _ hm4 Tryz.underlying35 rfl hmm ?_; rw [Array.toArray_toList])
      refine (to10_any x.m x.pv x.ev BE w4 HI4.out (Nat.le_trans hBE HBw4.out.size) (HE.out w4 HBw4.out)).mono ?_
      rintro e w5 ⟨A5', c5', rfl, hrd5, hb5⟩
      have HB5 := hid (HB4.out.trans (hb5.mono HB4.out.size))
      have k17 : w5.cell? ⟨bb, off + k * 18 + 17, none⟩ = some (.slice Ad x.d.length cd) := by
        have h1 := hx4 17 x.dv rfl
        rw [hdv] at h1
        exact (hb5.cell (p := ⟨bb, off + k * 18 + 17, none⟩) (Nat.lt_of_lt_of_le hbb HB4.out.size)).trans h1
      rw [hE]
      have HU := hid (show ¬ (M.toR x.m).length = 0 → 512 ≤ (M.recI x.m).length + M.padK (M.recI x.m).length from fun h => M.up_512 (M.recI_some hE h))
      generalize M.recI x.m = RI at *
      have hR10 : (M.toR x.m).length ≤ 1000000 := by have := toR_len' hE; omega
      generalize M.toR x.m = R at *
      generalize M.oneL x.m x.d = N at *
      generalize x.d.length = D at *
      generalize M.toH x.m = H at *
      obtain ⟨r, hr⟩ : ∃ r, R.length = r := ⟨_, rfl⟩
      obtain ⟨l, hl⟩ : ∃ l, N.length = l := ⟨_, rfl⟩
      rw [hr] at HN HU hR10 ⊢
      rw [hl] at HN HL ⊢
      clear hr hl
      have hal := (Below.refl w5.heap.size w5).alloc (Nat.le_refl _) (.cells (hcells H (.slice none 0 0)) 39)
      have hlt5 := Nat.lt_of_lt_of_le hbb HB5.out.size
      have k17' : (w5.alloc (.cells (hcells H (.slice none 0 0)) 39)).cell? ⟨bb, off + k * 18 + 17, none⟩ = some (.slice Ad D cd) := (hal.cell (p := ⟨bb, off + k * 18 + 17, none⟩) hlt5).trans k17
      have HB6 := hid (HB5.out.trans (hal.mono HB5.out.size))
      clear k17 hb5 hrd5 hx4 hm4 hal hmm HI4
      go_upto_region 7 with (refine wpList_store_row rfl 39 (.tmp 7) (.tmp 35) rfl w5.heap.size (hcells H (.slice none 0 0)) (by rfl) (by rfl) 39 (hcells {} (.slice none 0 0)) (heap_alloc_new w5 _) hdr_size rfl (hcells_one _ rfl) ?_; rw [World.setRow_alloc_new])
      generalize World.alloc w5 _ = w6 at *
      obtain ⟨q0, hq0⟩ : ∃ q0, q0 = (D + 511) / 512 := ⟨_, rfl⟩
      have hq1 : q0 * 512 ≤ D + 511 := by omega
      have hN := HN.out
      rw [← hq0] at hN
      have HU2 := HU.out
      have HL2 := HL.out
      clear HN HU HL
      have ftd : ((D : Int) + 511).tdiv 512 = (q0 : Int) := by rw [Int.tdiv_eq_ediv_of_nonneg (by omega)]; omega
      clear hq0
      by_cases hr0 : r = 0
      · subst hr0
        rw [if_pos rfl] at hN
        have d1 : ((l : Int) != 512 + (q0 : Int) * 512) = false := by simp; omega
        go_wp2_with fail
        refine ⟨⟨k + 1, by go_num, by omega, HB6⟩, ?_⟩
        simp [intOf] <;> omega
      · have d0 : ((r : Int) == 0) = false := by rw [beq_eq_false_iff_ne]; omega
        have d2 : decide (0 < r) = true := by rw [decide_eq_true_eq]; omega
        rw [if_neg hr0] at hN
        have HU3 := HU2 hr0
        have d3 : decide ((l : Int) < 512 + (q0 : Int) * 512 + 1024) = false := by rw [decide_eq_false_iff_not]; omega
        go_wp2_with fail
        refine ⟨⟨k + 1, by go_num, by omega, HB6⟩, ?_⟩
        simp [intOf] <;> omega
    · obtain rfl : k = ys.length := by omega
      go_wp2_with fail
      have HBw := hid (HB2.out.trans (HB.out.mono HB2.out.size))
      refine (wr_known BE wr (HG.out wr HBw.out) (Nat.le_trans hBE HBw.out.size) (HE.out wr HBw.out)).mono ?_
      rintro e w8 ⟨rfl, hb8⟩
      have HB8 := hid (HBw.out.trans (hb8.mono HBw.out.size))
      go_wp2_with fail
      go_ret
      first
        | exact ⟨rfl, HB8.out⟩
        | exact HB8.out
end Go.Proofs.YtgbgngdakkiclaaGreatDoor
