/-
  The contract of the document's Make.
-/
import Derived.Test.YteneknmbddnkaaaMedRef
namespace Go.Proofs.Yteneknmbddnkaaa
open Go.RowKit Go.Lib

theorem OwnI.alloc' {w : World} {b : Nat} {v : Value} {l : List Int} (h : OwnI w b v l) (o : Obj) : OwnI (w.alloc o) b v l := World.ownsRow.alloc h o
theorem OwnY.alloc' {w : World} {b : Nat} {v : Value} {l : List Int} (h : OwnY w b v l) (o : Obj) : OwnY (w.alloc o) b v l := World.ownsRow.alloc h o
theorem OwnY.lower {w : World} {b b' : Nat} {v : Value} {l : List Int} (h : OwnY w b v l) (hb : b' ≤ b) : OwnY w b' v l := ownsRow_lower h hb
theorem OwnI.lower {w : World} {b b' : Nat} {v : Value} {l : List Int} (h : OwnI w b v l) (hb : b' ≤ b) : OwnI w b' v l := ownsRow_lower h hb
theorem OwnI.apart {w : World} {b k : Nat} {v : Value} {l : List Int} (h : OwnI w b v l) (hk : k < b) : v.ownBlock ≠ some k := fun e => by have := (World.ownsRow.lt h k e).1; omega
theorem OwnY.apart {w : World} {b k : Nat} {v : Value} {l : List Int} (h : OwnY w b v l) (hk : k < b) : v.ownBlock ≠ some k := fun e => by have := (World.ownsRow.lt h k e).1; omega
/-- Between two blocks. -/
def RAt (w w1 : World) (u : Value) (zs bad : List Int) (k : Nat) (wr : World) : Prop :=
  ∃ v, Blk wr (w.heap.size + 1) 27 [u, v] ∧ OwnY wr (w.heap.size + 2) u (M.wipe (M.badsTo k bad) zs) ∧ OwnI wr w1.heap.size v (M.badsTo k bad) ∧ Blk wr w.heap.size 27 [.slice none 0 0, .slice none 0 0] ∧ Below w.heap.size w wr ∧ w1.heap.size ≤ wr.heap.size
/-- In a block. -/
def RIn (w w1 : World) (u v : Value) (zs : List Int) (l : List Int) (l' : List Int) (k j : Nat) (wr : World) : Prop :=
  Blk wr (w.heap.size + 1) 27 [u, v] ∧ OwnY wr (w.heap.size + 2) u (M.wipeK l k j zs) ∧ OwnI wr w1.heap.size v l' ∧ Blk wr w.heap.size 27 [.slice none 0 0, .slice none 0 0] ∧ Below w.heap.size w wr ∧ w1.heap.size ≤ wr.heap.size

set_option maxRecDepth 100000 in
set_option maxHeartbeats 4000000 in
theorem refMake_any (A : Option Addr) (n c : Nat) (zs : List Int) (A' : Option Addr) (n' c' : Nat) (bad : List Int) (w : World) (B : Nat) (hr : Rd w B A n zs) (hi : RdI w B A' n' bad) (hB : B ≤ w.heap.size) (hn : n ≤ 1000000) (hn' : n' ≤ 1000000) :
    Calls Try.prog 16 #[.slice A n c, .slice A' n' c'] w (NewImg (M.wipe (M.bads n bad) zs) (M.bads n bad) w) := by
  have HZ := hid hr.len
  have HU : Hid (u8s zs) := hid hr.bd
  have hcn := M.cnt_le n
  have HBI := hid (fun (i : Int) (W : World) (hb : Below w.heap.size w W) => refBad_any none 0 0 A' n' c' bad i W B (hi.keep (w' := W) fun p hp => hb.cell (Nat.lt_of_lt_of_le hp hB)) (Nat.le_trans hB hb.size) hn')
  obtain ⟨o, ho⟩ : ∃ o, o = Obj.cells #[Value.slice none 0 0, Value.slice none 0 0] 27 := ⟨_, rfl⟩
  obtain ⟨W0, hW0⟩ : ∃ W0, W0 = (w.alloc o).alloc o := ⟨_, rfl⟩
  have hs0 : W0.heap.size = w.heap.size + 2 := by rw [hW0]; simp
  have hb0 : Below w.heap.size w W0 := by rw [hW0]; exact ((Below.refl _ _).alloc (Nat.le_refl _) _).alloc (by simp) _
  have hR0 : Blk W0 w.heap.size 27 [.slice none 0 0, .slice none 0 0] := by
    rw [hW0, ho]; exact (Blk.new w _ [.slice none 0 0, .slice none 0 0]).alloc _
  have hX0 : Blk W0 (w.heap.size + 1) 27 [.slice none 0 0, .slice none 0 0] := by
    rw [hW0, ho]
    have := Blk.new (w.alloc (.cells #[.slice none 0 0, .slice none 0 0] 27)) 27 [.slice none 0 0, .slice none 0 0]
    rwa [World.size_alloc] at this
  have HRd := hid (hr.keep (w' := W0) fun p hp => hb0.cell (Nat.lt_of_lt_of_le hp hB))
  have HEQ : Hid (((w.alloc (.cells #[.slice none 0 0, .slice none 0 0] 27)).alloc (.cells #[.slice none 0 0, .slice none 0 0] 27)) = W0) := hid (by rw [hW0, ho])
  have HR0 := hid hR0
  have HX0 := hid hX0
  have HB0 := hid hb0
  have HS0 := hid hs0
  clear hr hi hR0 hX0 hb0 hs0 hW0 ho
  go_enter Try.func16, Try.ntmps16
  go_upto_region 2 with (fail)
  rw [HEQ.out]
  have c50 := HX0.out.cell (i := 0) rfl
  have f50 := HX0.out.frozen 0
  go_wp2_with (refine wpList_app_bytes rfl (.tmp 10) (.tmp 11) rfl (w.heap.size + 2) (.slice none 0 0) [] (by simp [Act.eval]) (OwnY.nil _ _) B A n c zs (by simp [Act.eval]) HRd.out (by simp; omega) (by rw [HS0.out]; exact Nat.le_refl _) ?_; intro v' w1 k1 k2 k3; obtain ⟨Au, cu, hvu, hcu, hmu⟩ := own_room k1; have x1 := HX0.out.grown k2 (by simp [Value.ownBlock]); have r1 := HR0.out.grown k2 (by simp [Value.ownBlock]); have c51 := x1.cell (i := 0) rfl; have f51 := x1.frozen 0; rw [List.nil_append] at k1 hvu hcu; rw [HZ.out] at hvu hcu; subst hvu; have X1 := hid x1; have R1 := hid r1; have K1 := hid k1; have K2 := hid k2; clear x1 r1 k1 k2 k3)
  obtain ⟨w2, hw2⟩ : ∃ w2, w1.setCell ⟨w.heap.size + 1, 0, none⟩ (.slice Au n cu) = w2 := ⟨_, rfl⟩
  have hgs := grownBy_setCell w1 (w.heap.size + 1) 0 (.slice Au n cu)
  have hsz1 := K2.out.size
  have hX2 : Blk w2 (w.heap.size + 1) 27 [.slice Au n cu, .slice none 0 0] := by rw [← hw2]; exact X1.out.set 0 _
  have hY2 : OwnY w2 (w.heap.size + 2) (.slice Au n cu) zs := by rw [← hw2]; exact K1.out.grown hgs (.inr (fun e => by have := (World.ownsRow.lt K1.out _ e).1; omega))
  have hR2 : Blk w2 w.heap.size 27 [.slice none 0 0, .slice none 0 0] := by rw [← hw2]; exact R1.out.grown hgs (by simp)
  have hB2 : Below w.heap.size w w2 := by
    rw [← hw2]
    exact (below_grown HB0.out K2.out HB0.out.size (fun g e => by simp [Value.ownBlock] at e)).setCell (p := ⟨w.heap.size + 1, 0, none⟩) (by show _ ≤ _ + 1; omega) _
  have hS2 : w.heap.size + 2 ≤ w2.heap.size := by rw [← hw2]; have := hgs.size; have := HS0.out; omega
  have hUB := World.ownsRow.lt hY2
  rw [hw2]
  have HUB := hid hUB
  have HS2 := hid hS2
  have H0 : Hid (RAt w w2 (.slice Au n cu) zs bad 0 w2) := hid ⟨_, hX2, by rw [M.badsTo_zero, M.wipe_nil]; exact hY2, OwnI.nil _ _, hR2, hB2, Nat.le_refl _⟩
  clear hw2 hgs hsz1 hX2 hY2 hR2 hB2 hS2 hUB c50 f50 c51 f51 X1 R1 K1 K2 HX0 HR0 HB0 HS0 HEQ HRd
  have HCN := hid (fun (A2 : Option Addr) (n2 c2 : Nat) (W : World) => refCount_any Au n cu A2 n2 c2 W (by omega))
  have hck : ∀ k : Nat, decide ((k : Int) < (M.cnt n : Nat)) = decide (k < M.cnt n) := fun k => by rw [Bool.eq_iff_iff, decide_eq_true_eq, decide_eq_true_eq]; omega
  have HCK := hid hck
  have HBB : Hid (M.bads n bad = M.badsTo (M.cnt n) bad) := hid rfl
  have HLC : Hid (∀ k, k < M.cnt n → 512 * k < n) := hid (fun k hk => M.lt_cnt.1 hk)
  clear hck
  rw [HBB.out]
  generalize M.cnt n = C at *
  go_wp2_with fail
  go_loopw [6] (fun i wr => ∃ k : Nat, k ≤ C ∧ i = .int .i64 k ∧ RAt w w2 (.slice Au n cu) zs bad k wr) (fun i _ => C - (intOf i).toNat)
  case atStart => exact ⟨0, Nat.zero_le _, rfl, H0.out⟩
  case round =>
    obtain ⟨k, hk, rfl, v, hx, hy, hv, hres, hbw, hsz⟩ := hrel
    obtain ⟨Av, cv, rfl, hcv, hmv⟩ := own_room hv
    have hbl := M.badsTo_len k bad
    have c0 := hx.cell (i := 0) rfl
    have c1 := hx.cell (i := 1) rfl
    have HX := hid hx
    have HY := hid hy
    have HV := hid hv
    have HRS := hid hres
    have HBW := hid hbw
    have HSZ := hid hsz
    have hxlt := hx.lt
    clear hx hy hv hres hbw hsz H0
    generalize hm : (M.badsTo k bad).length = m at *
    have HM := hid hm
    clear hm
    go_wp2_with fail
    (with_reducible refine (HCN.out Av m cv wr).mono ?_)
    rintro e w3 ⟨rfl, b3⟩
    have HB3 := hid b3
    clear b3
    by_cases hlt : k < C
    · have e1 : decide ((k : Int) < (C : Nat)) = true := by rw [HCK.out]; simpa using hlt
      have hbw3 := HBW.out.trans (HB3.out.mono HBW.out.size)
      have HBC := hid (HBI.out k w3 hbw3)
      have HBW3 := hid hbw3
      clear hbw3
      have HST := hid (M.badsTo_succ k bad)
      go_wp2_with fail
      (with_reducible refine HBC.out.mono ?_)
      rintro e w4 ⟨rfl, b4⟩
      have HB4 := hid (HB3.out.trans (b4.mono HB3.out.size))
      have HBW4 := hid (HBW3.out.trans (b4.mono HBW3.out.size))
      clear b4
      by_cases hb : M.has bad k = true
      · rw [hb]
        have hst : M.badsTo (k + 1) bad = M.badsTo k bad ++ [(k : Int)] := by
          have h := HST.out
          rw [if_pos (show bad.contains (k : Int) = true from hb)] at h
          exact h
        have HSB := hid hst
        have hx4 := HX.out.below HB4.out hxlt
        have hv4 := HV.out.later HB4.out
        have c14 := hx4.cell (i := 1) rfl
        have hs4 := HB4.out.size
        have hkk := HLC.out k hlt
        have HX4 := hid hx4
        have HV4 := hid hv4
        have HY4 := hid (HY.out.later HB4.out)
        have HR4 := hid (HRS.out.below HB4.out HRS.out.lt)
        have HSZ4 := hid (Nat.le_trans HSZ.out HB4.out.size)
        clear hst hx4 hv4 hb HST HX HV HY HRS HB4 HB3 HBC HBW HBW3
        go_wp2_with (refine wpList_app_ints rfl (.tmp 26) (.tmp 28) rfl w2.heap.size (.slice Av m cv) (M.badsTo k bad) (by simp [Act.eval]) (HV4.out.alloc' _) (w4.heap.size + 1) (some ⟨w4.heap.size, 0, none⟩) 1 1 [(k : Int)] (by simp [Act.eval]) (RdI.one _ _ _ (by omega)) (by rw [HM.out]; omega) (by rw [World.size_alloc]; exact Nat.le_succ_of_le HSZ4.out) ?_; intro v' w6 k1 k2 k3; obtain ⟨A3, c3, hv3, _, _⟩ := own_room k1; rw [List.length_append, List.length_singleton, HM.out] at hv3; subst hv3; have x6 := (HX4.out.alloc _).grown k2 (HV4.out.apart (by have := HS2.out; omega)); have c16 := x6.cell (i := 1) rfl; have f16 := x6.frozen 1; have X6 := hid x6; have K1 := hid k1; have K2 := hid k2; clear x6 k1 k2 k3)
        have hgs := grownBy_setCell w6 (w.heap.size + 1) 1 (.slice A3 (m + 1) c3)
        have hub := HUB.out
        have hs2 := HS2.out
        have hsa : (w4.alloc (.cells #[.int .i64 k] 3)).heap.size = w4.heap.size + 1 := by simp
        have h7 : RIn w w2 (.slice Au n cu) (.slice A3 (m + 1) c3) zs (M.badsTo k bad) (M.badsTo k bad ++ [(k : Int)]) k (512 * k) (w6.setCell ⟨w.heap.size + 1, 1, none⟩ (.slice A3 (m + 1) c3)) := by
          have hvr : ∀ r, (Value.slice Av m cv).ownBlock = some r → w2.heap.size ≤ r := fun r e => (World.ownsRow.lt HV4.out r e).1
          refine ⟨X6.out.set 1 _, ?_, K1.out.grown hgs (.inr (K1.out.apart (by omega))), ?_, ?_, ?_⟩
          · rw [M.wipeK_none]
            have hyu : (Value.slice Au n cu).ownBlock = none ∨ (Value.slice Au n cu).ownBlock ≠ (Value.slice Av m cv).ownBlock := by
              cases hq : (Value.slice Au n cu).ownBlock with
              | none => exact .inl rfl
              | some r => exact .inr (fun e => by have := hvr r e.symm; have := (hub r hq).2; omega)
            exact ((HY4.out.alloc' _).grown K2.out hyu).grown hgs (.inr (HY4.out.apart (by omega)))
          · exact ((HR4.out.alloc _).grown K2.out (fun e => by have := hvr _ e; omega)).grown hgs (by simp)
          · exact (below_grown (HBW4.out.alloc HBW4.out.size _) K2.out (by rw [hsa]; have := HBW4.out.size; omega) (fun g e => by have := hvr g e; omega)).setCell (p := ⟨w.heap.size + 1, 1, none⟩) (by show _ ≤ _ + 1; omega) _
          · have h1 := K2.out.size
            have h2 := hgs.size
            have h3 := HSZ4.out
            omega
        have H7 := hid h7
        generalize w6.setCell ⟨w.heap.size + 1, 1, none⟩ (.slice A3 (m + 1) c3) = w7 at *
        clear h7 hgs hsa c14 c16 f16 X6 K1 K2 HX4 HV4 HY4 HR4 HSZ4 HBW4 c0 c1 hs4
        go_loopw [7] (fun v wr => ∃ j : Nat, 512 * k ≤ j ∧ j ≤ 512 * k + 512 ∧ j ≤ n ∧ v = .int .i64 j ∧ RIn w w2 (.slice Au n cu) (.slice A3 (m + 1) c3) zs (M.badsTo k bad) (M.badsTo k bad ++ [(k : Int)]) k j wr) (fun v _ => n - (intOf v).toNat)
        case atStart => exact ⟨512 * k, Nat.le_refl _, by omega, by omega, by go_num, H7.out⟩
        case round =>
          obtain ⟨j, hj0, hj1, hj2, rfl, hx, hy, hv, hres, hbw, hsz⟩ := hrel
          have c0 := hx.cell (i := 0) rfl
          by_cases hin : j < 512 * k + 512 ∧ j < n
          · obtain ⟨hin1, hin2⟩ := hin
            have e3 : decide ((j : Int) < 512 * (k : Int) + 512) = true := by rw [decide_eq_true_eq]; omega
            obtain ⟨gu, rfl, hg0, hg1⟩ := hy.some_ (by rw [M.wipeK_len, HZ.out]; omega)
            have hth := hy.there (by rw [M.wipeK_len, HZ.out]) j hin2
            have hfz := hth.2
            obtain ⟨cz, hcz⟩ := Option.isSome_iff_exists.1 hth.1
            have hst := hy.stored j 0
            rw [← M.wipeK_step _ _ _ _ hj0] at hst
            have HST := hid hst
            have HX := hid hx
            have HV := hid hv
            have HRS := hid hres
            have HBW := hid hbw
            clear hth hst hx hy hv hres hbw
            go_wp2
            go_roundw
            case rel =>
              have hgub := hub gu rfl
              refine ⟨j + 1, by omega, by omega, by omega, by go_num, HX.out.setOther (by show w.heap.size + 1 ≠ gu; omega) _, HST.out.1, HV.out.grown HST.out.2 (.inr (HV.out.apart (by omega))), HRS.out.setOther (by show w.heap.size ≠ gu; omega) _, HBW.out.setCell (p := ⟨gu, j, none⟩) (by show w.heap.size ≤ gu; omega) _, Nat.le_trans hsz HST.out.2.size⟩
            case measure => simp [intOf]; omega
          · have hw : M.wipeK (M.badsTo k bad) k j zs = M.wipe (M.badsTo (k + 1) bad) zs := by
              rw [HSB.out]
              exact M.wipeK_all _ _ _ _ hj1 (by rw [HZ.out]; omega)
            have HR : Hid (RAt w w2 (.slice Au n cu) zs bad (k + 1) wr) := hid ⟨_, hx, by rw [← hw]; exact hy, by rw [HSB.out]; exact hv, hres, hbw, hsz⟩
            clear hx hy hv hres hbw hsz hw
            by_cases hin1 : j < 512 * k + 512
            · have e3 : decide ((j : Int) < 512 * (k : Int) + 512) = true := by rw [decide_eq_true_eq]; omega
              have hin2 : ¬ j < n := fun h => hin ⟨hin1, h⟩
              go_wp2
              exact ⟨⟨k + 1, by omega, by go_num, HR.out⟩, by simp [intOf]; omega⟩
            · have e3 : decide ((j : Int) < 512 * (k : Int) + 512) = false := by rw [decide_eq_false_iff_not]; omega
              go_wp2
              exact ⟨⟨k + 1, by omega, by go_num, HR.out⟩, by simp [intOf]; omega⟩
      · have hb' : M.has bad k = false := by simpa using hb
        rw [hb']
        have hst : M.badsTo (k + 1) bad = M.badsTo k bad := by
          have h := HST.out
          rw [if_neg (show ¬ bad.contains (k : Int) = true from hb), List.append_nil] at h
          exact h
        have HR : Hid (RAt w w2 (.slice Au n cu) zs bad (k + 1) w4) := hid ⟨_, HX.out.below HB4.out hxlt, by rw [hst]; exact HY.out.later HB4.out, by rw [hst]; exact HV.out.later HB4.out, HRS.out.below HB4.out HRS.out.lt, HBW4.out, Nat.le_trans HSZ.out HB4.out.size⟩
        clear hst hb hb' HST
        go_wp2
        go_roundw
        case rel => exact ⟨k + 1, by omega, by go_num, HR.out⟩
        case measure => simp [intOf]; omega
    · have hkC : k = C := by omega
      have e1 : decide ((k : Int) < (C : Nat)) = false := by rw [HCK.out]; simpa using hlt
      have hx3 := HX.out.below HB3.out hxlt
      have hr3 := HRS.out.below HB3.out HRS.out.lt
      have d0 := hx3.cell (i := 0) rfl
      have d1 := hx3.cell (i := 1) rfl
      have q0 := hr3.cell (i := 0) rfl
      have q1 := hr3.cell (i := 1) rfl
      have r0 := hr3.frozen 0
      have r1 := hr3.frozen 1
      have HR3 := hid hr3
      have HY3 := hid (HY.out.later HB3.out)
      have HV3 := hid (HV.out.later HB3.out)
      have HBW3 := hid (HBW.out.trans (HB3.out.mono HBW.out.size))
      clear hx3 hr3
      go_wp2
      have hs2 := HS2.out
      have hgw := (grownBy_setCell w3 w.heap.size 0 (.slice Au n cu)).trans (grownBy_setCell _ w.heap.size 1 (.slice Av m cv))
      rw [hkC] at HY3 HV3
      refine bodyPost_ret (results_img rfl (by rfl) ((HR3.out.set 0 (.slice Au n cu)).set 1 (.slice Av m cv))) rfl ⟨_, _, rfl, ?_, ?_, ?_⟩
      · rw [HBB.out]
        exact (HY3.out.lower (b' := w.heap.size) (by omega)).grown hgw (.inr (HY3.out.apart (by omega)))
      · rw [HBB.out]
        exact (HV3.out.lower (b' := w.heap.size) (by omega)).grown hgw (.inr (HV3.out.apart (by omega)))
      · exact below_grown HBW3.out hgw HBW3.out.size (fun g e => by injection e with e; omega)
end Go.Proofs.Yteneknmbddnkaaa
