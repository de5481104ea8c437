/-
  The walk of ChartOdd.
-/
import Derived.Test.YthejomfchjlcnaaChLawC
set_option linter.unusedVariables false
set_option linter.unusedSimpArgs false
namespace Go.Proofs.Ythejomfchjlcnaa
open Go.RowKit Go.Lib

set_option maxRecDepth 100000 in
set_option maxHeartbeats 40000000 in
theorem chartOdd_any (A : Option Addr) (n c : Nat) (zs : List Int) (kk : Int) (w : World) (hr : Rd w w.heap.size A n zs) (hn : n ≤ maxLen) (hk0 : 0 ≤ kk ∧ kk ≤ 255) :
    Calls Try.prog 3 #[.slice A n c, .int .u8 kk] w fun e w' => e = .returned (.bool true) ∧ Below w.heap.size w w' := by
  unfold maxLen at hn
  have HR := hid hr
  have HL := hid hr.len
  have HK := hid (fun W => known_any W)
  clear hr
  go_enter Try.func3, Try.ntmps3
  go_wp2
  go_loopw [5, 6] (fun vv iv wr => ∃ (k : Nat) (v : Value), iv = .int .i64 k ∧ vv = v ∧ k ≤ n ∧ k ≤ 60 ∧ Hid (OwnI wr w.heap.size v ((zs.take k).map C.fO)) ∧ Hid (Below w.heap.size w wr)) (fun _ iv _ => n - (RowKit.intOf iv).toNat)
  case atStart => exact ⟨0, _, rfl, rfl, Nat.zero_le _, Nat.zero_le _, hid (OwnI.nil _ _), hid (Below.refl _ _)⟩
  case round =>
    obtain ⟨k, v, rfl, rfl, hk, hk60, HO, HW⟩ := hrel
    have HLN : Hid (((zs.take k).map C.fO).length = k) := hid (by rw [List.length_map, List.length_take, HL.out]; omega)
    obtain ⟨Ao, co, rfl, hco, _⟩ := own_room HO.out
    rw [HLN.out] at HO hco ⊢
    have hbs := HW.out.size
    by_cases hlt : k < n ∧ k < 60
    · have hlt1 := hlt.1
      have hlt2 := hlt.2
      have d1 : decide ((k : Int) < 60) = true := by rw [decide_eq_true_eq]; omega
      obtain ⟨bb, off, z, rfl, hb, hz0, hz1, hz, hcz⟩ := (HR.out.below HW.out).at_ hlt1
      have HF := hid (C.map_take (f := C.fO) hz)
      have HZ : Hid (1 + z % 9 = C.fO z) := hid rfl
      have e2 : IntKind.u8.wrap (z % 9) = z % 9 := IntWalk.u8_in _ (by omega)
      have f2 : Int.tmod z 9 = z % 9 := Int.tmod_eq_emod_of_nonneg hz0
      have e4 : IntKind.i64.wrap (z % 9) = z % 9 := IntWalk.i64_in _ (by omega)
      have e5 : IntKind.i64.wrap (1 + z % 9) = 1 + z % 9 := IntWalk.i64_in _ (by omega)
      clear hlt
      go_wp2_with (refine wpList_app_ints rfl (.tmp 21) (.tmp 29) rfl w.heap.size _ _ (by simp [Act.eval]) (World.ownsRow.alloc HO.out _) (wr.heap.size + 1) (some ⟨wr.heap.size, 0, none⟩) 1 1 [1 + z % 9] (by simp [Act.eval]) (RdI.one wr (1 + z % 9) (by omega)) (by rw [HLN.out]; omega) (by rw [World.size_alloc]; omega) ?_
                   intro v' w3 k1 k2 k3
                   rw [HZ.out, HF.out] at k1
                   have hl9 : ((zs.take (k + 1)).map C.fO).length = k + 1 := by rw [List.length_map, List.length_take, HL.out]; omega
                   obtain ⟨A9, c9, hv9, _, _⟩ := own_room k1
                   rw [hl9] at hv9
                   subst hv9
                   have K1 := hid k1
                   have B3 := hid (below_grown (HW.out.alloc HW.out.size _) k2 (by rw [World.size_alloc]; omega) (fun g' e => (World.ownsRow.lt HO.out g' e).1))
                   clear k1 k2 k3 hl9)
      go_roundw
      case rel => exact ⟨k + 1, _, (show Value.int .i64 _ = Value.int .i64 ((_ + 1 : Nat) : Int) by go_num), rfl, by omega, by omega, K1, B3⟩
      case measure => simp [RowKit.intOf] <;> omega
    · have hmc := C.cls_map (zs.take k)
      generalize hmm : (zs.take k).map C.fO = m at *
      have hmz : i64s m := fun y hy => by have := hmc y hy; omega
      have hml : m.length = k := HLN.out
      have hrm : RdI wr wr.heap.size Ao k m := by
        obtain ⟨Am, cm, hsl, hrm, _, _⟩ := HO.out.rd hmz
        rw [hml] at hsl hrm
        cases hsl
        exact hrm
      have HS := hid (spans_any Ao k co m (by omega) wr hrm)
      have HMC := hid hmc
      by_cases hkn : k < n
      case' pos =>
        have d0 : decide (k < n) = true := by rw [decide_eq_true_eq]; omega
        have d1 : decide ((k : Int) < 60) = false := by rw [decide_eq_false_iff_not]; omega
      case' neg => have d0 : decide (k < n) = false := by rw [decide_eq_false_iff_not]; omega
      all_goals
        clear hlt hmc hmz hrm hmm hkn hco
        go_wp2_with fail
        (with_reducible refine HS.out.mono ?_)
        rintro e w1 ⟨v1, rfl, o1, b1⟩
        obtain ⟨A1, c1, hv1, r1, hc1, _⟩ := o1.rd
        have HFT := hid (C.fit_more (m := 1000) (C.spans_fit m) (by omega))
        have HLS : Hid ((C.spans m).length ≤ 60) := hid (by have := C.spans_len m; omega)
        have HCV := hid (fun x => C.cov_spans HMC.out x)
        have HCB := hid (C.spans_cls HMC.out)
        have HW1 := hid (HW.out.trans (b1.mono HW.out.size))
        have hs1 := HW1.out.size
        rw [hml] at HCV
        generalize hls : C.spans m = l at *
        by_cases hl0 : l.length = 0
        · have hle : l = [] := List.eq_nil_of_length_eq_zero hl0
          subst hle
          subst hv1
          clear HS HLS HFT HCB HO r1 o1 b1 hls HCV
          go_wp2_with (first
            | (go_at_call 7; (with_reducible refine (HK.out _).mono ?_); rintro e w2 ⟨rfl, b2⟩; have HW2 := hid (HW1.out.trans (b2.mono HW1.out.size)); clear b2)
            | (go_at_call 8; (with_reducible refine (covers_any none 0 0 [] _ _ RdS.none_ (by omega) (Nat.le_refl _)).mono ?_); rintro e w3 ⟨rfl, b3⟩; have HW2 := hid (HW2.out.trans (b3.mono HW2.out.size)); clear b3))
          go_ret
          exact ⟨rfl, HW2.out⟩
        · obtain ⟨j, hj⟩ : ∃ j : Nat, (j : Int) = kk % (l.length : Int) := ⟨(kk % (l.length : Int)).toNat, Int.toNat_of_nonneg (Int.emod_nonneg _ (by omega))⟩
          have hjl : j < l.length := by have := Int.emod_lt_of_pos kk (show (0 : Int) < (l.length : Int) by omega); omega
          have hsj : l[j]? = some l[j] := List.getElem?_eq_getElem hjl
          generalize l[j] = s at hsj
          obtain ⟨px, py, pc⟩ := s
          obtain ⟨ft0, ft1, ft2⟩ := HFT.out _ (List.mem_of_getElem? hsj)
          obtain ⟨cb0, cb1⟩ := HCB.out _ (List.mem_of_getElem? hsj)
          dsimp only at ft0 ft1 ft2 cb0 cb1
          have HSJ := hid hsj
          obtain ⟨hk0a, hk0b⟩ := hk0
          have f1 : Int.tmod kk (l.length : Int) = (j : Int) := by rw [Int.tmod_eq_emod_of_nonneg (by omega), hj]
          have e1 : IntKind.i64.wrap kk = kk := IntWalk.i64_in _ (by omega)
          have e2 : IntKind.i64.wrap (j : Int) = (j : Int) := IntWalk.i64_in _ (by have := HLS.out; omega)
          have e3 : IntKind.i64.wrap (px + 1) = px + 1 := IntWalk.i64_in _ (by omega)
          have e4 : IntKind.i64.wrap (10 + kk) = 10 + kk := IntWalk.i64_in _ (by omega)
          have hl1 : ((l.length : Int) == 0) = false := by rw [beq_eq_false_iff_ne]; omega
          subst hv1
          have R1 := hid r1
          have O1 := hid o1
          obtain ⟨N, hN⟩ : ∃ N, N = l.length := ⟨_, rfl⟩
          have HNN := hid hN
          rw [← hN] at R1 O1 HLS hc1 hjl f1 hl1 hl0 ⊢
          have hNp : 0 < N := by omega
          have hl2 : ¬ ((N : Int) = 0) := by omega
          clear HS HO r1 o1 b1 hls hN hsj hj
          by_cases hj0 : j = 0
          · subst hj0
            go_wp2_with (first
              | (refine wpList_appS rfl (.tmp 49) (.tmp 50) rfl w1.heap.size (.slice none 0 0) [] (by simp [Act.eval]) (OwnS.nil _ _) w1.heap.size A1 N c1 l (by simp [Act.eval]) R1.out (by have := HLS.out; simp; omega) (Nat.le_refl _) ?_
                 intro v' w3 k1 k2 k3
                 rw [List.nil_append] at k1
                 obtain ⟨ga, ca, rfl, ga1, ga2, ga3, ga4, _⟩ := k1.there HSJ.out
                 rw [← HNN.out] at ga3 ga4 k1 ⊢
                 have K1A := hid k1
                 have KA := hid k2
                 have RB := hid (R1.out.below ((Below.refl _ _).grown k2 (Nat.le_refl _) (fun g' e => by simp [Value.ownBlock] at e)))
                 clear k1 k2 k3)
              | (refine wpList_appS rfl (.tmp 52) (.tmp 53) rfl w3.heap.size (.slice none 0 0) [] (by simp [Act.eval]) (OwnS.nil _ _) w3.heap.size A1 N c1 l (by simp [Act.eval]) (RB.out.more (KA.out.size)) (by have := HLS.out; simp; omega) (Nat.le_refl _) ?_
                 intro v' w4 k1 k2 k3
                 rw [List.nil_append] at k1
                 obtain ⟨gb, cb, rfl, gb1, gb2, gb3, gb4, _⟩ := k1.there HSJ.out
                 rw [← HNN.out] at gb3 gb4 k1 ⊢
                 apply Classical.byContradiction
                 intro hgoal))
            have HG := hid hgoal
            clear hgoal
            have oa4 : OwnS w4 w1.heap.size (.slice (some ⟨ga, 0, none⟩) N ca) l := K1A.out.grown k2 (.inr (by simp [Value.ownBlock]))
            have b4 : Below w1.heap.size w1 w4 := ((Below.refl _ _).grown KA.out (Nat.le_refl _) (fun g' e => by simp [Value.ownBlock] at e)).grown k2 KA.out.size (fun g' e => by simp [Value.ownBlock] at e)
            obtain ⟨g1', c1', hva, _, ga5, _, _, ⟨x0, x1, x2⟩, xf, xs, _⟩ := oa4.there HSJ.out
            simp only [Nat.zero_mul, Nat.zero_add] at x0 x1 x2 xs
            rw [← HNN.out] at hva
            injection hva with hva1 hva2 hva3
            injection hva1 with hva1
            injection hva1 with hva1
            subst hva1
            subst hva3
            have ob5 := (show OwnS w4 w3.heap.size (.slice (some ⟨gb, 0, none⟩) N cb) l from k1).grown (grownBy_setCell w4 ga (0) (.int .i64 (px + 1))) (.inr (by simp only [Value.ownBlock]; intro e; injection e with e; omega))
            have oa5 := xs (px + 1)
            obtain ⟨g2', c2', hvb, _, gb5, _, _, ⟨_, _, y2⟩, yf, _, ys⟩ := ob5.there HSJ.out
            simp only [Nat.zero_mul, Nat.zero_add] at y2 ys
            rw [← HNN.out] at hvb
            injection hvb with hvb1 hvb2 hvb3
            injection hvb1 with hvb1
            injection hvb1 with hvb1
            subst hvb1
            subst hvb3
            have ob6 := ys (10 + kk)
            have oa6 := oa5.grown (grownBy_setCell (w4.setCell ⟨ga, 0, none⟩ (.int .i64 (px + 1))) gb (2) (.int .i64 (10 + kk))) (.inr (by simp only [Value.ownBlock]; intro e; injection e with e; omega))
            have b6 := (b4.setCell (p := ⟨ga, 0, none⟩) ga1 (.int .i64 (px + 1))).setCell (p := ⟨gb, 2, none⟩) (Nat.le_trans KA.out.size gb1) (.int .i64 (10 + kk))
            have xf0 := xf (0)
            have yf0 := yf (2)
            try dsimp only at x0 y2
            have OA6 := hid oa6
            have OB6 := hid ob6
            have B6 := hid b6
            clear x1 x2 xf xs yf ys oa5 ob5 oa4 b4 k1 k2 k3 oa6 ob6 b6
            refine HG.out ?_
            clear HG
            go_wp2_with fail
            obtain ⟨w5, hw5⟩ : ∃ w5, (w4.setCell ⟨ga, 0, none⟩ (.int .i64 (px + 1))).setCell ⟨gb, 2, none⟩ (.int .i64 (10 + kk)) = w5 := ⟨_, rfl⟩
            rw [hw5] at OA6 OB6 B6 ⊢
            clear hw5 x0 y2 xf0 yf0
            have hlb : ∀ s, (l.set 0 s).length = N := fun s => by rw [List.length_set]; exact HNN.out.symm
            obtain ⟨Aa, cc, hsa, ra, _, _⟩ := OA6.out.rd
            rw [hlb] at hsa ra
            cases hsa
            obtain ⟨Ab, cc, hsb, rb, _, _⟩ := OB6.out.rd
            rw [hlb] at hsb rb
            cases hsb
            have rl := R1.out.below B6.out
            obtain ⟨bl, ol, q, rfl, hbl, hq, l0, l1, l2⟩ := rl.at_ (k := 0) hjl
            obtain rfl : q = (px, py, pc) := by have h := HSJ.out; rw [hq] at h; injection h
            dsimp only at l0 l1 l2
            simp only [Nat.zero_mul, Nat.add_zero] at l0 l1 l2
            have hN60 := HLS.out
            have FK := hid (fun (W : World) (hW : Below w5.heap.size w5 W) => known_any W)
            have FA := hid (fun (W : World) (hW : Below w5.heap.size w5 W) => covers_any _ N ca _ (k : Int) W ((ra.below hW).more hW.size) (by omega) ga4)
            have FB := hid (fun (W : World) (hW : Below w5.heap.size w5 W) => covers_any _ N cb _ (k : Int) W ((rb.below hW).more hW.size) (by omega) gb4)
            have FL := hid (fun (W : World) (hW : Below w5.heap.size w5 W) => covers_any _ N c1 _ ((k : Int) + 1) W ((rl.below (hW.mono B6.out.size)).more (Nat.le_trans B6.out.size hW.size)) (by omega) hc1)
            have FCB := hid (fun (W : World) (hW : Below w5.heap.size w5 W) => count_any _ N cb _ pc W ((rb.below hW).more hW.size) (by omega) gb4 (C.fit_set HFT.out HSJ.out))
            have FCL := hid (fun (W : World) (hW : Below w5.heap.size w5 W) => count_any _ N c1 _ pc W ((rl.below (hW.mono B6.out.size)).more (Nat.le_trans B6.out.size hW.size)) (by omega) hc1 HFT.out)
            have hcv : C.cov 0 0 l (k : Int) = true := by rw [HCV.out]; simp
            rw [C.cov_gap l 0 0 _ (k : Int) 0 _ hcv HSJ.out] at FA
            rw [C.cov_odd l 0 0 _ (k : Int) (10 + kk) 0 _ (by omega) hcv HSJ.out] at FB
            rw [show C.cov 0 0 l ((k : Int) + 1) = false by rw [HCV.out, decide_eq_false_iff_not]; omega] at FL
            rw [C.cnt_set (d := 10 + kk) HSJ.out (by show 10 + kk ≠ pc; omega) (by show px < py; exact ft1)] at FCB
            obtain ⟨cn0, cn1⟩ := C.cnt_bound (c := pc) HFT.out
            rw [← HNN.out] at cn1
            dsimp only at FCB
            generalize C.cnt pc l = q0 at *
            have e5 : IntKind.i64.wrap (py - px) = py - px := IntWalk.i64_in _ (by omega)
            have e6 : IntKind.i64.wrap (q0 - (py - px)) = q0 - (py - px) := IntWalk.i64_in _ (by omega)
            have e7 : (q0 - (py - px) == q0 - (py - px)) = true := by simp
            have e8 : IntKind.i64.wrap ((k : Int) + 1) = (k : Int) + 1 := IntWalk.i64_in _ (by omega)
            have L0 := hid (fun (W : World) (hW : Below w5.heap.size w5 W) => (hW.cell (p := ⟨bl, ol, none⟩) (Nat.lt_of_lt_of_le hbl B6.out.size)).trans l0)
            have L1 := hid (fun (W : World) (hW : Below w5.heap.size w5 W) => (hW.cell (p := ⟨bl, ol + 1, none⟩) (Nat.lt_of_lt_of_le hbl B6.out.size)).trans l1)
            have L2 := hid (fun (W : World) (hW : Below w5.heap.size w5 W) => (hW.cell (p := ⟨bl, ol + 2, none⟩) (Nat.lt_of_lt_of_le hbl B6.out.size)).trans l2)
            have W0 := hid (HW1.out.trans (B6.out.mono hs1))
            clear ra rb rl hq l0 l1 l2 hlb hcv HSJ cn0 cn1 e1 e2 e3 e4
            refine wp_region_held_drew (S := fun W => Below w5.heap.size w5 W) (by kernel_rfl) (below_drew' (Below.refl _ _)) (fun hS => ?_)
            refine loneH (i := 0) 70 rfl rfl (by kernel_rfl) (by kernel_rfl) (fun K hK => ?_)
            go_simp
            (with_reducible refine (FK.out _ hS).mono ?_)
            rintro e wx ⟨rfl, bx⟩
            refine hK.out _ _ (hS.trans (bx.mono hS.size)) (fun hS => ?_)
            clear hK K bx
            try simp only [NM]
            refine tkH 1 hS ?_
            refine tkH 2 hS ?_
            refine tkH 3 hS ?_
            refine tkH 4 hS ?_
            refine loneH (i := 5) 75 rfl rfl (by kernel_rfl) (by kernel_rfl) (fun K hK => ?_)
            go_simp
            (with_reducible refine (FA.out _ hS).mono ?_)
            rintro e wx ⟨rfl, bx⟩
            refine hK.out _ _ (hS.trans (bx.mono hS.size)) (fun hS => ?_)
            clear hK K bx
            try simp only [NM]
            refine tkH 6 hS ?_
            refine tkH 7 hS ?_
            refine tkH 8 hS ?_
            refine tkH 9 hS ?_
            refine tkH 10 hS ?_
            refine tkH 11 hS ?_
            refine loneH (i := 12) 82 rfl rfl (by kernel_rfl) (by kernel_rfl) (fun K hK => ?_)
            go_simp
            (with_reducible refine (FB.out _ hS).mono ?_)
            rintro e wx ⟨rfl, bx⟩
            refine hK.out _ _ (hS.trans (bx.mono hS.size)) (fun hS => ?_)
            clear hK K bx
            try simp only [NM]
            refine tkH 13 hS ?_
            refine tkH 14 hS ?_
            refine tkH 15 hS ?_
            refine tkH 16 hS ?_
            refine tkH 17 hS ?_
            refine tkH 18 hS ?_
            refine tkH 19 hS ?_
            refine loneH (i := 20) 90 rfl rfl (by kernel_rfl) (by kernel_rfl) (fun K hK => ?_)
            go_simp
            (with_reducible refine (FL.out _ hS).mono ?_)
            rintro e wx ⟨rfl, bx⟩
            refine hK.out _ _ (hS.trans (bx.mono hS.size)) (fun hS => ?_)
            clear hK K bx
            try simp only [NM]
            refine tkH 21 hS ?_
            refine tkH 22 hS ?_
            refine tkH 23 hS ?_
            refine tkH 24 hS ?_
            refine tkH 25 hS ?_
            refine tkH 26 hS ?_
            refine tkH 27 hS ?_
            refine tkH 28 hS ?_
            refine tfH 29 hS L2.out ?_
            refine tkH 31 hS ?_
            refine tkH 32 hS ?_
            refine tkH 33 hS ?_
            refine tkH 34 hS ?_
            refine tkH 35 hS ?_
            refine tfH 36 hS L2.out ?_
            refine tkH 38 hS ?_
            refine tkH 39 hS ?_
            refine tkH 40 hS ?_
            refine tkH 41 hS ?_
            refine tfH 42 hS L1.out ?_
            refine tkH 43 hS ?_
            refine tkH 44 hS ?_
            refine tkH 45 hS ?_
            refine tkH 46 hS ?_
            refine tfH 47 hS L0.out ?_
            refine tkH 48 hS ?_
            refine loneH (i := 30) 100 rfl rfl (by kernel_rfl) (by kernel_rfl) (fun K hK => ?_)
            go_simp
            (with_reducible refine (FCB.out _ hS).mono ?_)
            rintro e wx ⟨rfl, bx⟩
            refine hK.out _ _ (hS.trans (bx.mono hS.size)) (fun hS => ?_)
            clear hK K bx
            try simp only [NM]
            refine loneH (i := 37) 107 rfl rfl (by kernel_rfl) (by kernel_rfl) (fun K hK => ?_)
            go_simp
            (with_reducible refine (FCL.out _ hS).mono ?_)
            rintro e wx ⟨rfl, bx⟩
            refine hK.out _ _ (hS.trans (bx.mono hS.size)) (fun hS => ?_)
            clear hK K bx
            try simp only [NM]
            refine tkH 49 hS ?_
            refine tkH 50 hS ?_
            refine tkH 51 hS ?_
            refine tkH 52 hS ?_
            have WF := hid (W0.out.trans (hS.mono (Nat.le_trans hs1 B6.out.size)))
            clear hS
            refine wpAnyH_done (by kernel_rfl) ?_ _
            try simp only [NM]
            go_wp2
            go_ret
            exact ⟨rfl, WF.out⟩
          · have hj1 : 0 < j := by omega
            go_wp2_with (first
              | (refine wpList_appS rfl (.tmp 49) (.tmp 50) rfl w1.heap.size (.slice none 0 0) [] (by simp [Act.eval]) (OwnS.nil _ _) w1.heap.size A1 N c1 l (by simp [Act.eval]) R1.out (by have := HLS.out; simp; omega) (Nat.le_refl _) ?_
                 intro v' w3 k1 k2 k3
                 rw [List.nil_append] at k1
                 obtain ⟨ga, ca, rfl, ga1, ga2, ga3, ga4, _⟩ := k1.there HSJ.out
                 rw [← HNN.out] at ga3 ga4 k1 ⊢
                 have K1A := hid k1
                 have KA := hid k2
                 have RB := hid (R1.out.below ((Below.refl _ _).grown k2 (Nat.le_refl _) (fun g' e => by simp [Value.ownBlock] at e)))
                 clear k1 k2 k3)
              | (refine wpList_appS rfl (.tmp 52) (.tmp 53) rfl w3.heap.size (.slice none 0 0) [] (by simp [Act.eval]) (OwnS.nil _ _) w3.heap.size A1 N c1 l (by simp [Act.eval]) (RB.out.more (KA.out.size)) (by have := HLS.out; simp; omega) (Nat.le_refl _) ?_
                 intro v' w4 k1 k2 k3
                 rw [List.nil_append] at k1
                 obtain ⟨gb, cb, rfl, gb1, gb2, gb3, gb4, _⟩ := k1.there HSJ.out
                 rw [← HNN.out] at gb3 gb4 k1 ⊢
                 apply Classical.byContradiction
                 intro hgoal))
            have HG := hid hgoal
            clear hgoal
            have oa4 : OwnS w4 w1.heap.size (.slice (some ⟨ga, 0, none⟩) N ca) l := K1A.out.grown k2 (.inr (by simp [Value.ownBlock]))
            have b4 : Below w1.heap.size w1 w4 := ((Below.refl _ _).grown KA.out (Nat.le_refl _) (fun g' e => by simp [Value.ownBlock] at e)).grown k2 KA.out.size (fun g' e => by simp [Value.ownBlock] at e)
            obtain ⟨g1', c1', hva, _, ga5, _, _, ⟨x0, x1, x2⟩, xf, xs, _⟩ := oa4.there HSJ.out
            rw [← HNN.out] at hva
            injection hva with hva1 hva2 hva3
            injection hva1 with hva1
            injection hva1 with hva1
            subst hva1
            subst hva3
            have ob5 := (show OwnS w4 w3.heap.size (.slice (some ⟨gb, 0, none⟩) N cb) l from k1).grown (grownBy_setCell w4 ga (j * 3) (.int .i64 (px + 1))) (.inr (by simp only [Value.ownBlock]; intro e; injection e with e; omega))
            have oa5 := xs (px + 1)
            obtain ⟨g2', c2', hvb, _, gb5, _, _, ⟨_, _, y2⟩, yf, _, ys⟩ := ob5.there HSJ.out
            rw [← HNN.out] at hvb
            injection hvb with hvb1 hvb2 hvb3
            injection hvb1 with hvb1
            injection hvb1 with hvb1
            subst hvb1
            subst hvb3
            have ob6 := ys (10 + kk)
            have oa6 := oa5.grown (grownBy_setCell (w4.setCell ⟨ga, j * 3, none⟩ (.int .i64 (px + 1))) gb (j * 3 + 2) (.int .i64 (10 + kk))) (.inr (by simp only [Value.ownBlock]; intro e; injection e with e; omega))
            have b6 := (b4.setCell (p := ⟨ga, j * 3, none⟩) ga1 (.int .i64 (px + 1))).setCell (p := ⟨gb, j * 3 + 2, none⟩) (Nat.le_trans KA.out.size gb1) (.int .i64 (10 + kk))
            have xf0 := xf (j * 3)
            have yf0 := yf (j * 3 + 2)
            try dsimp only at x0 y2
            have OA6 := hid oa6
            have OB6 := hid ob6
            have B6 := hid b6
            clear x1 x2 xf xs yf ys oa5 ob5 oa4 b4 k1 k2 k3 oa6 ob6 b6
            refine HG.out ?_
            clear HG
            go_wp2_with fail
            obtain ⟨w5, hw5⟩ : ∃ w5, (w4.setCell ⟨ga, j * 3, none⟩ (.int .i64 (px + 1))).setCell ⟨gb, j * 3 + 2, none⟩ (.int .i64 (10 + kk)) = w5 := ⟨_, rfl⟩
            rw [hw5] at OA6 OB6 B6 ⊢
            clear hw5 x0 y2 xf0 yf0
            have hlb : ∀ s, (l.set j s).length = N := fun s => by rw [List.length_set]; exact HNN.out.symm
            obtain ⟨Aa, cc, hsa, ra, _, _⟩ := OA6.out.rd
            rw [hlb] at hsa ra
            cases hsa
            obtain ⟨Ab, cc, hsb, rb, _, _⟩ := OB6.out.rd
            rw [hlb] at hsb rb
            cases hsb
            have rl := R1.out.below B6.out
            obtain ⟨bl, ol, q, rfl, hbl, hq, l0, l1, l2⟩ := rl.at_ (k := j) hjl
            obtain rfl : q = (px, py, pc) := by have h := HSJ.out; rw [hq] at h; injection h
            dsimp only at l0 l1 l2
            have hN60 := HLS.out
            have FK := hid (fun (W : World) (hW : Below w5.heap.size w5 W) => known_any W)
            have FA := hid (fun (W : World) (hW : Below w5.heap.size w5 W) => covers_any _ N ca _ (k : Int) W ((ra.below hW).more hW.size) (by omega) ga4)
            have FB := hid (fun (W : World) (hW : Below w5.heap.size w5 W) => covers_any _ N cb _ (k : Int) W ((rb.below hW).more hW.size) (by omega) gb4)
            have FL := hid (fun (W : World) (hW : Below w5.heap.size w5 W) => covers_any _ N c1 _ ((k : Int) + 1) W ((rl.below (hW.mono B6.out.size)).more (Nat.le_trans B6.out.size hW.size)) (by omega) hc1)
            have FCB := hid (fun (W : World) (hW : Below w5.heap.size w5 W) => count_any _ N cb _ pc W ((rb.below hW).more hW.size) (by omega) gb4 (C.fit_set HFT.out HSJ.out))
            have FCL := hid (fun (W : World) (hW : Below w5.heap.size w5 W) => count_any _ N c1 _ pc W ((rl.below (hW.mono B6.out.size)).more (Nat.le_trans B6.out.size hW.size)) (by omega) hc1 HFT.out)
            have hcv : C.cov 0 0 l (k : Int) = true := by rw [HCV.out]; simp
            rw [C.cov_gap l 0 0 _ (k : Int) j _ hcv HSJ.out] at FA
            rw [C.cov_odd l 0 0 _ (k : Int) (10 + kk) j _ (by omega) hcv HSJ.out] at FB
            rw [show C.cov 0 0 l ((k : Int) + 1) = false by rw [HCV.out, decide_eq_false_iff_not]; omega] at FL
            rw [C.cnt_set (d := 10 + kk) HSJ.out (by show 10 + kk ≠ pc; omega) (by show px < py; exact ft1)] at FCB
            obtain ⟨cn0, cn1⟩ := C.cnt_bound (c := pc) HFT.out
            rw [← HNN.out] at cn1
            dsimp only at FCB
            generalize C.cnt pc l = q0 at *
            have e5 : IntKind.i64.wrap (py - px) = py - px := IntWalk.i64_in _ (by omega)
            have e6 : IntKind.i64.wrap (q0 - (py - px)) = q0 - (py - px) := IntWalk.i64_in _ (by omega)
            have e7 : (q0 - (py - px) == q0 - (py - px)) = true := by simp
            have e8 : IntKind.i64.wrap ((k : Int) + 1) = (k : Int) + 1 := IntWalk.i64_in _ (by omega)
            have L0 := hid (fun (W : World) (hW : Below w5.heap.size w5 W) => (hW.cell (p := ⟨bl, ol + j * 3, none⟩) (Nat.lt_of_lt_of_le hbl B6.out.size)).trans l0)
            have L1 := hid (fun (W : World) (hW : Below w5.heap.size w5 W) => (hW.cell (p := ⟨bl, ol + j * 3 + 1, none⟩) (Nat.lt_of_lt_of_le hbl B6.out.size)).trans l1)
            have L2 := hid (fun (W : World) (hW : Below w5.heap.size w5 W) => (hW.cell (p := ⟨bl, ol + j * 3 + 2, none⟩) (Nat.lt_of_lt_of_le hbl B6.out.size)).trans l2)
            have W0 := hid (HW1.out.trans (B6.out.mono hs1))
            clear ra rb rl hq l0 l1 l2 hlb hcv HSJ cn0 cn1 e1 e2 e3 e4
            refine wp_region_held_drew (S := fun W => Below w5.heap.size w5 W) (by kernel_rfl) (below_drew' (Below.refl _ _)) (fun hS => ?_)
            refine loneH (i := 0) 70 rfl rfl (by kernel_rfl) (by kernel_rfl) (fun K hK => ?_)
            go_simp
            (with_reducible refine (FK.out _ hS).mono ?_)
            rintro e wx ⟨rfl, bx⟩
            refine hK.out _ _ (hS.trans (bx.mono hS.size)) (fun hS => ?_)
            clear hK K bx
            try simp only [NM]
            refine tkH 1 hS ?_
            refine tkH 2 hS ?_
            refine tkH 3 hS ?_
            refine tkH 4 hS ?_
            refine loneH (i := 5) 75 rfl rfl (by kernel_rfl) (by kernel_rfl) (fun K hK => ?_)
            go_simp
            (with_reducible refine (FA.out _ hS).mono ?_)
            rintro e wx ⟨rfl, bx⟩
            refine hK.out _ _ (hS.trans (bx.mono hS.size)) (fun hS => ?_)
            clear hK K bx
            try simp only [NM]
            refine tkH 6 hS ?_
            refine tkH 7 hS ?_
            refine tkH 8 hS ?_
            refine tkH 9 hS ?_
            refine tkH 10 hS ?_
            refine tkH 11 hS ?_
            refine loneH (i := 12) 82 rfl rfl (by kernel_rfl) (by kernel_rfl) (fun K hK => ?_)
            go_simp
            (with_reducible refine (FB.out _ hS).mono ?_)
            rintro e wx ⟨rfl, bx⟩
            refine hK.out _ _ (hS.trans (bx.mono hS.size)) (fun hS => ?_)
            clear hK K bx
            try simp only [NM]
            refine tkH 13 hS ?_
            refine tkH 14 hS ?_
            refine tkH 15 hS ?_
            refine tkH 16 hS ?_
            refine tkH 17 hS ?_
            refine tkH 18 hS ?_
            refine tkH 19 hS ?_
            refine loneH (i := 20) 90 rfl rfl (by kernel_rfl) (by kernel_rfl) (fun K hK => ?_)
            go_simp
            (with_reducible refine (FL.out _ hS).mono ?_)
            rintro e wx ⟨rfl, bx⟩
            refine hK.out _ _ (hS.trans (bx.mono hS.size)) (fun hS => ?_)
            clear hK K bx
            try simp only [NM]
            refine tkH 21 hS ?_
            refine tkH 22 hS ?_
            refine tkH 23 hS ?_
            refine tkH 24 hS ?_
            refine tkH 25 hS ?_
            refine tkH 26 hS ?_
            refine tkH 27 hS ?_
            refine tkH 28 hS ?_
            refine tfH 29 hS L2.out ?_
            refine tkH 31 hS ?_
            refine tkH 32 hS ?_
            refine tkH 33 hS ?_
            refine tkH 34 hS ?_
            refine tkH 35 hS ?_
            refine tfH 36 hS L2.out ?_
            refine tkH 38 hS ?_
            refine tkH 39 hS ?_
            refine tkH 40 hS ?_
            refine tkH 41 hS ?_
            refine tfH 42 hS L1.out ?_
            refine tkH 43 hS ?_
            refine tkH 44 hS ?_
            refine tkH 45 hS ?_
            refine tkH 46 hS ?_
            refine tfH 47 hS L0.out ?_
            refine tkH 48 hS ?_
            refine loneH (i := 30) 100 rfl rfl (by kernel_rfl) (by kernel_rfl) (fun K hK => ?_)
            go_simp
            (with_reducible refine (FCB.out _ hS).mono ?_)
            rintro e wx ⟨rfl, bx⟩
            refine hK.out _ _ (hS.trans (bx.mono hS.size)) (fun hS => ?_)
            clear hK K bx
            try simp only [NM]
            refine loneH (i := 37) 107 rfl rfl (by kernel_rfl) (by kernel_rfl) (fun K hK => ?_)
            go_simp
            (with_reducible refine (FCL.out _ hS).mono ?_)
            rintro e wx ⟨rfl, bx⟩
            refine hK.out _ _ (hS.trans (bx.mono hS.size)) (fun hS => ?_)
            clear hK K bx
            try simp only [NM]
            refine tkH 49 hS ?_
            refine tkH 50 hS ?_
            refine tkH 51 hS ?_
            refine tkH 52 hS ?_
            have WF := hid (W0.out.trans (hS.mono (Nat.le_trans hs1 B6.out.size)))
            clear hS
            refine wpAnyH_done (by kernel_rfl) ?_ _
            try simp only [NM]
            go_wp2
            go_ret
            exact ⟨rfl, WF.out⟩
end Go.Proofs.Ythejomfchjlcnaa
