/-
  The document's Write, and the law's one: both sides' One answer the same.
-/
import Derived.Test.YtgbgngdakkiclaaGreatDoorWrZ
set_option linter.unusedVariables false
set_option linter.unusedSimpArgs false
namespace Go.Proofs.YtgbgngdakkiclaaGreatDoor
open Go.RowKit Go.Lib
open Px (R2 tl)

set_option maxRecDepth 100000 in
set_option maxHeartbeats 4000000 in
theorem refWrite_any (A : Option Addr) (c : Nat) (xs : List Mb) (w : World) (hr : RdM w w.heap.size A xs) (hxs : ∀ x ∈ xs, MbIn w w.heap.size x) (hn : xs.length ≤ 100) (BE : Nat) (hBE : BE ≤ w.heap.size) (hev : Sp.EV BE w) :
    Calls Tryz.prog 14 #[.slice A xs.length c] w (WriteIs .i64 xs w) := by
  have HR := hid (fun V (hV : Below w.heap.size w V) => hr.keep fun p hp => hV.cell (p := p) hp)
  have HI := hid (fun V (hV : Below w.heap.size w V) x (hx : x ∈ xs) => (hxs x hx).later (Nat.le_refl _) hV)
  have HE := hid (fun V (hV : Below w.heap.size w V) => hev.on (hV.mono hBE))
  have HFW := hid (fun x hx => (hxs x hx).few)
  have HUX := hid (fun x (hx : x ∈ xs) => show ∀ z ∈ x.d, 0 ≤ z ∧ z ≤ 255 from by obtain ⟨_, _, _, h, _⟩ := (hxs x hx).data; exact h.2.1)
  clear hr hxs hev
  go_enter Tryz.func14, Tryz.ntmps14
  go_wp2_with fail
  go_loopw [4, 5] (fun v i wr => ∃ k : Nat, ∃ A3 c3, i = .int .i64 k ∧ k ≤ xs.length ∧ v = .slice A3 (M.cat (xs.take k)).length c3 ∧ Hid (∀ x ∈ xs.take k, M.oneE x.m x.d = 0) ∧ Hid (Sp.OwnY wr w.heap.size (.slice A3 (M.cat (xs.take k)).length c3) (M.cat (xs.take k))) ∧ Hid (Below w.heap.size w wr)) (fun _ i _ => xs.length - (intOf i).toNat)
  case atStart => exact ⟨0, none, 0, rfl, Nat.zero_le _, rfl, hid (fun x hx => by simp at hx), hid (Sp.OwnY.nil _ _), hid (Below.refl _ _)⟩
  case round =>
    obtain ⟨k, A3, c3, rfl, hk, rfl, HOK, HO, HB⟩ := hrel
    by_cases hlt : k < xs.length
    · obtain ⟨bb, off, rfl, hbb, hrow⟩ := HR.out wr HB.out (by omega)
      have hx := hrow k xs[k] (List.getElem?_eq_getElem hlt)
      have hmem : xs[k] ∈ xs := List.getElem_mem hlt
      have HIk := hid (HI.out wr HB.out xs[k] hmem)
      have hcat := (M.cat_ok (xs := xs.take k) (fun x hx => ⟨HOK.out x hx, HFW.out x (List.mem_of_mem_take hx)⟩)).2
      rw [List.length_take] at hcat
      have HS := hid (ok_succ hlt HOK.out)
      have HC := hid (cat_succ hlt)
      have HNE := hid (M.writeE_take hlt HOK.out)
      have HU := hid (HUX.out _ hmem)
      have HFk := hid (HFW.out _ hmem)
      obtain ⟨x, hxk⟩ : ∃ x, xs[k] = x := ⟨_, rfl⟩
      rw [hxk] at hx HIk HS HC HNE HU HFk
      clear hxk hrow hmem
      obtain ⟨L, hL⟩ : ∃ L, M.cat (xs.take k) = L := ⟨_, rfl⟩
      rw [hL] at HO HC hcat ⊢
      clear hL
      have hms : (Tryz.prog.info? 37).map (·.size) = some x.cells.toList.length := mem_size
      go_wp2_with (refine wpList_load_mid rfl 37 (.tmp 18) rfl bb (off + k * 18) (by simp [Act.eval, Addr.add]) x.cells.toList _ hx Tryz.underlying37 rfl hms ?_; rw [Array.toArray_toList])
      refine (refOne_any x wr (HIk.out.more HB.out.size) BE (Nat.le_trans hBE HB.out.size) (HE.out wr HB.out)).mono ?_
      rintro e w4 ⟨v4, rfl, ho4, hv4, hb4⟩
      have HO4 := hid (HO.out.later hb4)
      have HB4 := hid (HB.out.trans (hb4.mono HB.out.size))
      have HOW := hid (fun h => (ho4 h).rd (M.oneL_u8 (M.oneE_toE h) HU.out))
      have HLE := hid (fun h => M.oneL_le (x := x) h HFk.out)
      have HV4 := hid hv4
      obtain ⟨E, hE⟩ : ∃ E, M.oneE x.m x.d = E := ⟨_, rfl⟩
      rw [hE] at HOW HV4 HS HNE HLE ⊢
      clear ho4 hv4 hb4 hE hx hms HO HB HIk
      by_cases h0 : E = 0
      · subst h0
        obtain ⟨A5, c5, rfl, hr5, _, _⟩ := HOW.out rfl
        have HR5 := hid hr5
        have HOK3 := hid (HS.out rfl)
        have HL := hid (HLE.out rfl)
        generalize M.oneL x.m x.d = N at *
        obtain ⟨l, hl⟩ : ∃ l, N.length = l := ⟨_, rfl⟩
        rw [hl] at HL HR5 ⊢
        have hLb : L.length ≤ 320000000 := by omega
        clear hr5 HOW HLE HS HNE
        go_wp2_with (refine Sp.wpList_app_bytes rfl (.tmp 26) (.tmp 27) rfl w.heap.size (.slice A3 L.length c3) L (by rfl) HO4.out w4.heap.size A5 l c5 N (by rfl) HR5.out (by have := HL.out; omega) HB4.out.size ?_
                     intro v6 w6 hO6 hg6 _
                     have HB6 := hid (Sp.below_grown HB4.out hg6 HB4.out.size (fun g hg => (HO4.out.lt hg).1))
                     obtain ⟨A6, c6, rfl, _, _⟩ := Sp.own_room hO6
                     rw [← HC.out] at hO6 ⊢
                     have HO6 := hid hO6
                     clear hO6 hg6)
        go_roundw
        case rel => exact ⟨k + 1, A6, c6, by go_num, by omega, rfl, HOK3, HO6, HB6⟩
        case measure => simp [intOf] <;> omega
      · have hne : (((E : Nat) : Int) != 0) = true := by rw [bne_iff_ne]; omega
        have H0 := hid h0
        have HEE := hid (HNE.out h0)
        clear h0 HNE
        go_wp2_with fail
        go_ret2
        exact ⟨_, by rw [HEE.out]; rfl, fun h => absurd (HEE.out.symm.trans h) H0.out, fun _ => rfl, HB4.out⟩
    · obtain rfl : k = xs.length := by omega
      rw [List.take_length] at *
      have HEE := hid (M.writeE_all HOK.out)
      have hcat := (M.cat_ok (xs := xs) (fun x hx => ⟨HOK.out x hx, HFW.out x hx⟩)).2
      have hLb : (M.cat xs).length ≤ 320000000 := by omega
      have hmk := fun (V : World) => (show (Instr.makeSlice 22 (.int .i64 1024) (.int .i64 1024)).run Tryz.prog V = .ok (.slice (some ⟨V.heap.size, 0, none⟩) 1024 1024) (V.alloc (.cells (Sp.bcells (List.replicate 1024 0)).toArray 5)) from wr_make 1024 (by decide) V)
      obtain ⟨ZR, hZR⟩ : ∃ ZR, Sp.bcells (List.replicate 1024 0) = ZR := ⟨_, rfl⟩
      have hb4 := (Below.refl wr.heap.size wr).alloc (Nat.le_refl _) (.cells (Sp.bcells (List.replicate 1024 0)).toArray 5)
      have HO4 := hid (HO.out.later hb4)
      have HB4 := hid (HB.out.trans (hb4.mono HB.out.size))
      have HR4 := hid (wr_rd wr 1024)
      have HWL := hid (show M.writeL xs = M.cat xs ++ List.replicate 1024 0 from rfl)
      rw [hZR] at HB4 HO4 HR4 hb4
      simp only [hZR] at hmk
      generalize M.cat xs = L at *
      generalize List.replicate 1024 (0 : Int) = Z at *
      clear hZR hb4 HO HB hcat
      go_wp2_with (refine Sp.wpList_app_bytes rfl (.tmp 30) (.tmp 31) rfl w.heap.size (.slice A3 L.length c3) L (by rfl) HO4.out _ (some ⟨wr.heap.size, 0, none⟩) 1024 1024 Z (by rfl) HR4.out (by omega) HB4.out.size ?_
                   intro v6 w6 hO6 hg6 _
                   have HB6 := hid (Sp.below_grown HB4.out hg6 HB4.out.size (fun g hg => (HO4.out.lt hg).1))
                   have HO6 := hid hO6
                   obtain ⟨A6, c6, rfl, _, _⟩ := Sp.own_room hO6
                   clear hO6 hg6)
      go_ret2
      exact ⟨_, by rw [HEE.out]; rfl, fun _ => by rw [HWL.out]; have h := HO6.out; rw [List.length_append] at h; exact h, fun h => absurd HEE.out h, HB6.out⟩

theorem toE_le'' (m : M.Met) : M.toE m ≤ 34 := by
  unfold M.toE M.wrong Px.M.printE
  split <;> (repeat' split) <;> omega
theorem oneE_le (m : M.Met) (d : List Int) : M.oneE m d ≤ 34 := by
  have := toE_le'' m
  unfold M.oneE
  split
  · exact this
  · split <;> omega
theorem writeE_le : ∀ xs : List Mb, M.writeE xs ≤ 34
  | [] => Nat.zero_le _
  | x :: l => by
    have := oneE_le x.m x.d
    have := writeE_le l
    show (if M.oneE x.m x.d ≠ 0 then M.oneE x.m x.d else M.writeE l) ≤ 34
    split <;> omega
/-- Bytes as text: what One and the document's One answer read the same. -/
def outL (x : Mb) : List Int := if M.oneE x.m x.d = 0 then M.oneL x.m x.d else []
theorem OneIs.rd {k : IntKind} {x : Mb} {w w' : World} {e : Ending} (h : OneIs k x w e w') (hu : ∀ z ∈ x.d, 0 ≤ z ∧ z ≤ 255) :
    ∃ A c, e = .returned (.tuple #[.slice A (outL x).length c, .int k (M.oneE x.m x.d : Nat)]) ∧ Sp.Rd w' w'.heap.size A (outL x).length (outL x) ∧ Below w.heap.size w w' := by
  obtain ⟨v, rfl, h1, h2, h3⟩ := h
  unfold outL
  by_cases h0 : M.oneE x.m x.d = 0
  · rw [if_pos h0]
    obtain ⟨A, c, rfl, hr, _, _⟩ := (h1 h0).rd (M.oneL_u8 (M.oneE_toE h0) hu)
    exact ⟨A, c, rfl, hr, h3⟩
  · rw [if_neg h0]
    rw [h2 h0]
    exact ⟨none, 0, rfl, Sp.Rd.none_, h3⟩
def outW (xs : List Mb) : List Int := if M.writeE xs = 0 then M.writeL xs else []
theorem WriteIs.rd {k : IntKind} {xs : List Mb} {w w' : World} {e : Ending} (h : WriteIs k xs w e w') (hu : M.writeE xs = 0 → Sp.u8s (M.writeL xs)) :
    ∃ A c, e = .returned (.tuple #[.slice A (outW xs).length c, .int k (M.writeE xs : Nat)]) ∧ Sp.Rd w' w'.heap.size A (outW xs).length (outW xs) ∧ Below w.heap.size w w' := by
  obtain ⟨v, rfl, h1, h2, h3⟩ := h
  unfold outW
  by_cases h0 : M.writeE xs = 0
  · rw [if_pos h0]
    obtain ⟨A, c, rfl, hr, _, _⟩ := (h1 h0).rd (hu h0)
    exact ⟨A, c, rfl, hr, h3⟩
  · rw [if_neg h0]
    rw [h2 h0]
    exact ⟨none, 0, rfl, Sp.Rd.none_, h3⟩

set_option maxRecDepth 100000 in
set_option maxHeartbeats 2000000 in
theorem lawOneOne (x : Mb) (w : World) (hx : MbIn w w.heap.size x) (hmg : Hd.MG w) (BE : Nat) (hBE : BE ≤ w.heap.size) (hev : Sp.EV BE w) :
    Calls Tryz.prog 13 #[.agg x.cells] w fun e w' => e = .returned (.bool true) ∧ Below w.heap.size w w' := by
  have hb1 := (Below.refl w.heap.size w).alloc (Nat.le_refl _) (.cells x.cells 37)
  have HX := hid (MX.new w x)
  have HB1 := hid hb1
  have HU : Hid (∀ z ∈ x.d, 0 ≤ z ∧ z ≤ 255) := hid (by obtain ⟨_, _, _, h, _⟩ := hx.data; exact h.2.1)
  have HI := hid (fun V (hV : Below w.heap.size w V) => (hx.later (Nat.le_refl _) hV).more hV.size)
  have HG := hid (fun V (hV : Below w.heap.size w V) => hmg.later hV)
  have HE := hid (fun V (hV : Below w.heap.size w V) => hev.on (hV.mono hBE))
  have hk := oneE_le x.m x.d
  clear hx hmg hev hb1
  go_enter Tryz.func13, Tryz.ntmps13
  go_upto_region 1 with fail
  generalize World.alloc w _ = w1 at *
  go_wp2_with (refine wpList_load_row rfl 37 (.tmp 1) rfl w.heap.size (by rfl) 37 x.cells (0, 0) _ HX.out Tryz.underlying37 rfl mem_size ?_)
  refine (one_any x w1 (HI.out w1 HB1.out) (HG.out w1 HB1.out) BE (Nat.le_trans hBE HB1.out.size) (HE.out w1 HB1.out)).mono ?_
  intro e w2 hone
  obtain ⟨A2, c2, rfl, hr2, hb2⟩ := hone.rd HU.out
  have HX2 := hid (show MX w2 w.heap.size x from HX.out.below hb2 HX.out.lt)
  have HB2 := hid (HB1.out.trans (hb2.mono HB1.out.size))
  have HR2 := hid (fun V (hV : Below w2.heap.size w2 V) => hr2.below hV)
  obtain ⟨E, hE⟩ : ∃ E, M.oneE x.m x.d = E := ⟨_, rfl⟩
  rw [hE] at hk ⊢
  have HEE := hid hE
  clear hone hr2 hb2 hE HX
  obtain ⟨L, hL⟩ : ∃ L, outL x = L := ⟨_, rfl⟩
  rw [hL] at HR2 ⊢
  have HLL := hid hL
  clear hL
  obtain ⟨l, hl⟩ : ∃ l, L.length = l := ⟨_, rfl⟩
  rw [hl] at HR2 ⊢
  have HLN := hid hl
  clear hl
  go_wp2_with (refine wpList_load_row rfl 37 (.tmp 1) rfl w.heap.size (by rfl) 37 x.cells (0, 0) _ HX2.out Tryz.underlying37 rfl mem_size ?_)
  refine (refOne_any x w2 (HI.out w2 HB2.out) BE (Nat.le_trans hBE HB2.out.size) (HE.out w2 HB2.out)).mono ?_
  intro e w3 hone
  obtain ⟨A3, c3, rfl, hr3, hb3⟩ := hone.rd HU.out
  rw [HEE.out, HLL.out, HLN.out] at *
  have hs2 := Sp.run_str (HR2.out w3 hb3) c2
  have hs3 := Sp.run_str hr3 c3
  have HB3 := hid (HB2.out.trans (hb3.mono HB2.out.size))
  generalize Sp.strOf L = S at *
  have ew : IntKind.i64.wrap (E : Int) = (E : Int) := IntWalk.i64_in _ (by omega)
  clear hone hr3 hb3 HR2 HX2
  go_wp2_with fail
  go_ret
  first
    | exact ⟨rfl, HB3.out⟩
    | exact HB3.out
    | exact ⟨by simp, HB3.out⟩
end Go.Proofs.YtgbgngdakkiclaaGreatDoor
