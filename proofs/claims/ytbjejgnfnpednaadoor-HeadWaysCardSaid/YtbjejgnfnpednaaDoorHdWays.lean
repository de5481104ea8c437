/-
  HeadWays.
-/
import Derived.Test.YtbjejgnfnpednaaDoorHdBackW
import Derived.Test.YtbjejgnfnpednaaDoorHdKinds
namespace Go.Proofs.YtbjejgnfnpednaaDoor
open Go.RowKit Go.Lib
namespace M
theorem herr_ways (h : Hdr) (v : Int) (h83 : h.kind ≠ 83) (hw : 0 ≤ h.way ∧ h.way ≤ 2) (hv : 0 ≤ v ∧ v ≤ 2) (hu : h.user = ⟨#[]⟩) (hg : h.group = ⟨#[]⟩) (hp : h.pre = ⟨#[]⟩) (hma : h.major = 0) (hmi : h.minor = 0) :
    herr { h with way := v } = herr h := by
  have key : ∀ u : Int, 0 ≤ u → u ≤ 2 → herr { h with way := u } =
      (st (known h.kind && true) 31 <| st (tOk 100 h.name) 33 <| st (tOk 100 h.link) 33 <| st (tOk 32 h.user) 33 <| st (tOk 32 h.group) 33 <| st (tOk 155 h.pre) 33 <|
        st true 32 <| st true 32 <| st (nOk 8 true 0 most h.mode) 32 <| st (nOk 8 true 0 most h.uid) 32 <| st (nOk 8 true 0 most h.gid) 32 <| st (nOk 12 true 0 maxSize h.size) 32 <|
        st (nOk 12 true (-most) most h.mtime) 32 <| st true 32 <| st true 32 <| st (nOk 12 false 0 maxSize h.real) 32 <|
        st (flat h) 32 <| st (decide (h.parts.length ≤ 4) && pOk h.parts) 32 0) := by
    intro u h0 h2
    have e1 : may h.kind u = true := by simp [may, h83]
    have e2 : bare { h with way := u } = true := by
      have hb : blank ⟨#[]⟩ = true := by decide +kernel
      simp [bare, hu, hg, hp, hb]
    have e3 : isWay u = true := by simp [isWay]; omega
    have e4 : nOk 8 (u != 0) 0 most h.major = true := by
      rw [hma]
      cases (u != 0) <;> decide +kernel
    have e5 : nOk 8 (u != 0) 0 most h.minor = true := by
      rw [hmi]
      cases (u != 0) <;> decide +kernel
    have e6 : (h.kind == 83 && u == 2) = false := by simp [h83]
    have e7 : flat { h with way := u } = flat h := rfl
    unfold herr
    rw [e2, e7]
    dsimp only
    rw [e1, e3, e4, e5, e6]
  rw [key v hv.1 hv.2, ← key h.way hw.1 hw.2]
end M

set_option maxRecDepth 100000 in
set_option maxHeartbeats 4000000 in
theorem headWays_any (A : Option Addr) (n c : Nat) (zs : List Int) (k : Int) (hk : 0 ≤ k ∧ k ≤ 255) (w : World) (hr : Rd w w.heap.size A n zs) (hc : n ≤ c) (hcm : c ≤ maxLen) (hmg : MG w) :
    Calls Tryd.prog 3 #[.slice A n c, .int .u8 k] w fun e w' => e = .returned (.bool true) ∧ Below w.heap.size w w' := by
  have hst := store_new
  have HMG := hid (fun (W : World) (hW : Below w.heap.size w W) => hmg.later hW)
  have HH := hid (header_any A n c zs w hr hc hcm)
  obtain ⟨m, hm⟩ : ∃ m : Int, m = k % 3 := ⟨_, rfl⟩
  have HM := hid (show 0 ≤ m ∧ m ≤ 2 by omega)
  have E3 := hid (show k.tmod 3 = m by rw [Int.tmod_eq_emod_of_nonneg hk.1]; exact hm.symm)
  have EM := hid (show IntKind.u8.wrap m = m from IntWalk.u8_in _ (by omega))
  have EI := hid (show IntKind.i64.wrap m = m from IntWalk.i64_in _ (by omega))
  clear hr hc hcm hmg hm hk
  go_enter Tryd.func3, Tryd.ntmps3
  go_wp2_with fail
  (with_reducible refine HH.out.mono ?_)
  rintro e w1 ⟨h, pv, rfl, hi, hfew, hway, b1⟩
  obtain ⟨Ap, cp, rfl⟩ := hi.slice
  have bA : Below w1.heap.size w1 (w1.alloc (.cells (hcells h (.slice Ap h.parts.length cp)) 25)) := (Below.refl _ _).alloc (Nat.le_refl _) _
  have HI := hid hi
  have P1 := hid (PartsB.below hi.parts bA)
  have HB1 := hid (HB.new w1 h (.slice Ap h.parts.length cp))
  have B1 := hid (b1.trans (bA.mono b1.size))
  have HG := hid b1.size
  have HFew := hid hfew
  have HWay := hid hway
  clear hi b1 HH hfew hway bA
  generalize hn : h.parts.length = np at *
  have HNP := hid hn
  clear hn
  have k6 := HB.cell HB1.out (i := 6) (v := .int .u8 h.kind) rfl
  by_cases h83 : h.kind = 83
  · have e83 : (h.kind == 83) = true := by simp [h83]
    clear h83
    go_wp2_with fail
    generalize w1.alloc _ = w2 at *
    (with_reducible refine (lawKnown_any _ (HMG.out _ B1.out)).mono ?_)
    rintro e w7 ⟨rfl, b7⟩
    go_wp2
    go_ret
    exact ⟨rfl, B1.out.trans (b7.mono B1.out.size)⟩
  · have e83 : (h.kind == 83) = false := by simp [h83]
    have H83 := hid h83
    clear h83
    go_upto_region 4 with fail
    generalize w1.alloc _ = w2 at *
    clear k6 e83
    have kc := HB.cell HB1.out (i := 9) (v := .string h.user) rfl
    have fc := HB.frozen HB1.out 9
    have X9 := hid (HB.set HB1.out 9 (.string ⟨#[]⟩) (h' := { h with user := ⟨#[]⟩ }) rfl)
    have bs := (Below.refl w1.heap.size w2).setCell (p := ⟨w1.heap.size, 9, none⟩) (Nat.le_refl _) (.string ⟨#[]⟩)
    have B10 := hid (B1.out.trans (bs.mono HG.out))
    have P10 := hid (PartsB.below P1.out bs)
    clear bs HB1 B1
    go_upto_region 5 with fail
    generalize w2.setCell _ _ = w20 at *
    clear kc fc
    have kc := HB.cell X9.out (i := 10) (v := .string h.group) rfl
    have fc := HB.frozen X9.out 10
    have X10 := hid (HB.set X9.out 10 (.string ⟨#[]⟩) (h' := { h with user := ⟨#[]⟩, group := ⟨#[]⟩ }) rfl)
    have bs := (Below.refl w1.heap.size w20).setCell (p := ⟨w1.heap.size, 10, none⟩) (Nat.le_refl _) (.string ⟨#[]⟩)
    have B11 := hid (B10.out.trans (bs.mono HG.out))
    have P11 := hid (PartsB.below P10.out bs)
    clear bs X9 B10
    go_upto_region 6 with fail
    generalize w20.setCell _ _ = w21 at *
    clear kc fc
    have kc := HB.cell X10.out (i := 11) (v := .int .i64 h.major) rfl
    have fc := HB.frozen X10.out 11
    have X11 := hid (HB.set X10.out 11 (.int .i64 0) (h' := { h with user := ⟨#[]⟩, group := ⟨#[]⟩, major := 0 }) rfl)
    have bs := (Below.refl w1.heap.size w21).setCell (p := ⟨w1.heap.size, 11, none⟩) (Nat.le_refl _) (.int .i64 0)
    have B12 := hid (B11.out.trans (bs.mono HG.out))
    have P12 := hid (PartsB.below P11.out bs)
    clear bs X10 B11
    go_upto_region 7 with fail
    generalize w21.setCell _ _ = w22 at *
    clear kc fc
    have kc := HB.cell X11.out (i := 12) (v := .int .i64 h.minor) rfl
    have fc := HB.frozen X11.out 12
    have X12 := hid (HB.set X11.out 12 (.int .i64 0) (h' := { h with user := ⟨#[]⟩, group := ⟨#[]⟩, major := 0, minor := 0 }) rfl)
    have bs := (Below.refl w1.heap.size w22).setCell (p := ⟨w1.heap.size, 12, none⟩) (Nat.le_refl _) (.int .i64 0)
    have B13 := hid (B12.out.trans (bs.mono HG.out))
    have P13 := hid (PartsB.below P12.out bs)
    clear bs X11 B12
    go_upto_region 8 with fail
    generalize w22.setCell _ _ = w23 at *
    clear kc fc
    have kc := HB.cell X12.out (i := 13) (v := .string h.pre) rfl
    have fc := HB.frozen X12.out 13
    have X13 := hid (HB.set X12.out 13 (.string ⟨#[]⟩) (h' := { h with user := ⟨#[]⟩, group := ⟨#[]⟩, major := 0, minor := 0, pre := ⟨#[]⟩ }) rfl)
    have bs := (Below.refl w1.heap.size w23).setCell (p := ⟨w1.heap.size, 13, none⟩) (Nat.le_refl _) (.string ⟨#[]⟩)
    have B14 := hid (B13.out.trans (bs.mono HG.out))
    have P14 := hid (PartsB.below P13.out bs)
    clear bs X12 B13
    go_upto_region 9 with fail
    generalize w23.setCell _ _ = w24 at *
    clear kc fc
    have P1w : Hid (PartsB w24 w1.heap.size (.slice Ap np cp) ({ h with user := ⟨#[]⟩, group := ⟨#[]⟩, major := 0, minor := 0, pre := ⟨#[]⟩ } : M.Hdr).parts) := P14
    go_wp2_with (refine wpList_load_row rfl 25 (.tmp 5) rfl w1.heap.size (by rfl) 25 (hcells { h with user := ⟨#[]⟩, group := ⟨#[]⟩, major := 0, minor := 0, pre := ⟨#[]⟩ } (.slice Ap np cp)) (0, 0) _ X13.out Tryd.underlying25 rfl hdr_size ?_)
    have HI5 := hid (⟨PartsB.mono P14.out (Nat.le_trans (Nat.le_of_lt (HB.lt X13.out)) (Nat.le_refl _)), HI.out.nums, HI.out.kind, ⟨HI.out.ints.1, HI.out.ints.2.1, HI.out.ints.2.2.1, HI.out.ints.2.2.2.1, HI.out.ints.2.2.2.2.1, zero_in, zero_in, HI.out.ints.2.2.2.2.2.2.2⟩,
      ⟨HI.out.texts.1, HI.out.texts.2.1, Nat.zero_le _, Nat.zero_le _, Nat.zero_le _⟩⟩ : HIn w24 { h with user := ⟨#[]⟩, group := ⟨#[]⟩, major := 0, minor := 0, pre := ⟨#[]⟩ } (.slice Ap np cp))
    have HBare := hid (⟨H83.out, HWay.out, rfl, rfl, rfl, rfl, rfl, HNP.out⟩ : ({ h with user := ⟨#[]⟩, group := ⟨#[]⟩, major := 0, minor := 0, pre := ⟨#[]⟩ } : M.Hdr).kind ≠ 83 ∧ (0 ≤ ({ h with user := ⟨#[]⟩, group := ⟨#[]⟩, major := 0, minor := 0, pre := ⟨#[]⟩ } : M.Hdr).way ∧ ({ h with user := ⟨#[]⟩, group := ⟨#[]⟩, major := 0, minor := 0, pre := ⟨#[]⟩ } : M.Hdr).way ≤ 2) ∧ ({ h with user := ⟨#[]⟩, group := ⟨#[]⟩, major := 0, minor := 0, pre := ⟨#[]⟩ } : M.Hdr).user = ⟨#[]⟩ ∧ ({ h with user := ⟨#[]⟩, group := ⟨#[]⟩, major := 0, minor := 0, pre := ⟨#[]⟩ } : M.Hdr).group = ⟨#[]⟩ ∧ ({ h with user := ⟨#[]⟩, group := ⟨#[]⟩, major := 0, minor := 0, pre := ⟨#[]⟩ } : M.Hdr).pre = ⟨#[]⟩ ∧ ({ h with user := ⟨#[]⟩, group := ⟨#[]⟩, major := 0, minor := 0, pre := ⟨#[]⟩ } : M.Hdr).major = 0 ∧ ({ h with user := ⟨#[]⟩, group := ⟨#[]⟩, major := 0, minor := 0, pre := ⟨#[]⟩ } : M.Hdr).minor = 0 ∧ ({ h with user := ⟨#[]⟩, group := ⟨#[]⟩, major := 0, minor := 0, pre := ⟨#[]⟩ } : M.Hdr).parts.length = np)
    have P2w := hid (show PartsB w24 w1.heap.size (.slice Ap np cp) ({ h with user := ⟨#[]⟩, group := ⟨#[]⟩, major := 0, minor := 0, pre := ⟨#[]⟩ } : M.Hdr).parts from P1w.out)
    clear HI H83 HWay HNP P14 P1w
    generalize ({ h with user := ⟨#[]⟩, group := ⟨#[]⟩, major := 0, minor := 0, pre := ⟨#[]⟩ } : M.Hdr) = h5 at *
    refine (hprint_any h5 _ w24 HI5.out (HMG.out _ B14.out)).mono ?_
    rintro e w3 ⟨h3, b3⟩
    have HEE := hid (show (M.hprint { h5 with way := m }).1 = (M.hprint h5).1 by
      rw [M.hprint_err, M.hprint_err]
      exact M.herr_ways h5 m HBare.out.1 HBare.out.2.1 HM.out HBare.out.2.2.1 HBare.out.2.2.2.1 HBare.out.2.2.2.2.1 HBare.out.2.2.2.2.2.1 HBare.out.2.2.2.2.2.2.1)
    have X3 := hid (HB.below X13.out b3 (HB.lt X13.out))
    have B3 := hid (B14.out.trans (b3.mono B14.out.size))
    have P3 := hid (HI5.out.later b3)
    have hg1 : w1.heap.size < w24.heap.size := HB.lt X13.out
    have kc := HB.cell X3.out (i := 8) (v := .int .i64 h5.way) rfl
    have fc := HB.frozen X3.out 8
    have X8 := hid (HB.set X3.out 8 (.int .i64 m) (h' := { h5 with way := m }) rfl)
    have bs := (Below.refl w1.heap.size w3).setCell (p := ⟨w1.heap.size, 8, none⟩) (Nat.le_refl _) (.int .i64 m)
    have B4 := hid (B3.out.trans (bs.mono HG.out))
    have HI6 := hid (⟨by
        exact PartsB.mono (B := w1.heap.size) (PartsB.below (PartsB.below P2w.out (b3.mono (Nat.le_of_lt hg1))) bs) (by have := B3.out.size; have := b3.size; simp; omega), HI5.out.nums, HI5.out.kind, HI5.out.ints, HI5.out.texts⟩ : HIn (w3.setCell ⟨w1.heap.size, 8, none⟩ (.int .i64 m)) { h5 with way := m } (.slice Ap np cp))
    have e3 := E3.out
    have em := EM.out
    have ei := EI.out
    by_cases hx : (M.hprint h5).1 = 0
    case neg =>
      rw [if_neg hx] at h3
      subst h3
      generalize hE : (M.hprint h5).1 = E at *
      have hne : (E != 0) = true := by simpa using hx
      clear hE b3 bs X3 B3 P3 X13 HI5 B14
      go_upto_region 11 with fail
      generalize w3.setCell _ _ = w4 at *
      clear kc fc e3 em ei
      go_wp2_with (refine wpList_load_row rfl 25 (.tmp 5) rfl w1.heap.size (by rfl) 25 (hcells { h5 with way := m } (.slice Ap np cp)) (0, 0) _ X8.out Tryd.underlying25 rfl hdr_size ?_)
      refine (hprint_any { h5 with way := m } _ w4 HI6.out (HMG.out _ B4.out)).mono ?_
      rintro e w5 ⟨h5', b5⟩
      rw [HEE.out, if_neg hx] at h5'
      subst h5'
      have B5 := hid (B4.out.trans (b5.mono B4.out.size))
      clear b5 hx HEE
      go_wp2_with fail
      (with_reducible refine (hparse_any none 0 0 [] _ Rd.none_ (Nat.le_refl _) (by decide) (by decide) (HMG.out _ B5.out)).mono ?_)
      rintro e w6 ⟨pv6, rfl, hp6, b6⟩
      rw [show M.hparse [] = (21, {}) from rfl] at hp6 ⊢
      obtain ⟨A6, c6, rfl, _, _⟩ := hp6
      have B6 := hid ((B5.out.trans (b6.mono B5.out.size)).alloc (B5.out.trans (b6.mono B5.out.size)).size (.cells (hcells {} (.slice A6 (List.length ([] : List (Int × Int))) c6)) 25))
      clear b6
      go_wp2_with fail
      generalize w6.alloc _ = w7 at *
      (with_reducible refine (lawKnown_any _ (HMG.out _ B6.out)).mono ?_)
      rintro e w8 ⟨rfl, b8⟩
      go_wp2
      go_ret
      exact ⟨rfl, B6.out.trans (b8.mono B6.out.size)⟩
    case pos =>
      obtain ⟨ys, hz⟩ : ∃ ys, M.hprint { h5 with way := m } = (0, ys) := ⟨_, by rw [← hx, ← HEE.out]⟩
      obtain ⟨S⟩ := M.print_back hz
      obtain ⟨ys1, hz1⟩ : ∃ ys, M.hprint h5 = (0, ys) := ⟨_, by rw [← hx]⟩
      rw [hz1, if_pos rfl] at h3
      obtain ⟨ga, rfl, _, _⟩ := h3
      clear hx hz1 b3 bs X3 B3 P3 X13 B14 HEE
      have HWN := hid (show wayN ys = m by unfold wayN; rw [S.way_at]; exact Int.toNat_of_nonneg HM.out.1)
      have HWS := hid (show (M.way ys).isSome = true by rw [S.way_at]; rfl)
      go_upto_region 11 with fail
      generalize w3.setCell _ _ = w4 at *
      clear kc fc e3 em ei
      go_wp2_with (refine wpList_load_row rfl 25 (.tmp 5) rfl w1.heap.size (by rfl) 25 (hcells { h5 with way := m } (.slice Ap np cp)) (0, 0) _ X8.out Tryd.underlying25 rfl hdr_size ?_)
      refine (hprint_any { h5 with way := m } _ w4 HI6.out (HMG.out _ B4.out)).mono ?_
      rintro e w5 ⟨h5', b5⟩
      rw [hz, if_pos rfl] at h5'
      obtain ⟨g, rfl, hg, hA⟩ := h5'
      have HFew6 := hid (show ({ h5 with way := m } : M.Hdr).parts.length ≤ 1000 by show h5.parts.length ≤ 1000; rw [HBare.out.2.2.2.2.2.2.2]; exact HFew.out)
      have HNp6 := hid (show ({ h5 with way := m } : M.Hdr).parts.length = np from HBare.out.2.2.2.2.2.2.2)
      have HCell8 := hid (show (hcells { h5 with way := m } (.slice Ap np cp))[8]? = some (.int .i64 m) from rfl)
      clear hz
      generalize ({ h5 with way := m } : M.Hdr) = h6 at *
      have B5 := hid (B4.out.trans (b5.mono B4.out.size))
      have X5 := hid (HB.below X8.out b5 (HB.lt X8.out))
      have I5 := hid (HI6.out.later b5)
      have HAr := hid hA
      clear b5 X8 HI6 B4 hg HBare HI5
      go_wp2_with fail
      have hR3 := hA.rd S.bd (B := w5.heap.size) hA.lt
      rw [S.lout] at hR3
      (with_reducible refine (hparse_any (some ⟨g, 0, none⟩) 512 512 ys _ hR3 (Nat.le_refl _) (by decide) (by decide) (HMG.out _ B5.out)).mono ?_)
      rintro e w6 ⟨pv4, rfl, hp4, b4⟩
      rw [S.back] at hp4 ⊢
      have HQ := hid (PartsIs.in_ hp4)
      obtain ⟨A4, c4, rfl, _, _⟩ := hp4
      rw [HNp6.out] at HQ ⊢
      have bA : Below w6.heap.size w6 (w6.alloc (.cells (hcells h6 (.slice A4 np c4)) 25)) := (Below.refl _ _).alloc (Nat.le_refl _) _
      have B7 := hid ((B5.out.trans (b4.mono B5.out.size)).trans (bA.mono (B5.out.trans (b4.mono B5.out.size)).size))
      have HA7 := hid ((HAr.out.below b4 HAr.out.lt).below bA (HAr.out.below b4 HAr.out.lt).lt)
      have Y7 := hid (HB.new w6 h6 (.slice A4 np c4))
      have X7 := hid (HB.below (HB.below X5.out b4 (HB.lt X5.out)) bA (HB.lt (HB.below X5.out b4 (HB.lt X5.out))))
      have Q7 := hid (PartsB.mono (PartsB.below HQ.out bA) bA.size)
      have I7 := hid ((I5.out.later b4).later bA)
      clear HQ bA b4 hR3 HAr hA X5 I5
      go_wp2_with fail
      generalize w6.alloc _ = w7 at *
      have hR7 := HA7.out.rd S.bd (B := w7.heap.size) HA7.out.lt
      rw [S.lout] at hR7
      (with_reducible refine (way_any (some ⟨g, 0, none⟩) 512 512 ys _ _ hR7 (Nat.le_refl _) (by decide) (HMG.out _ B7.out)).mono ?_)
      rintro e w9 ⟨rfl, rfl⟩
      rw [HWN.out, HWS.out]
      clear hR7
      go_wp2_with fail
      (with_reducible refine (lawKnown_any _ (HMG.out _ B7.out)).mono ?_)
      rintro e w8 ⟨rfl, b8⟩
      have B8 := hid (B7.out.trans (b8.mono B7.out.size))
      have Y8 := hid (HB.below Y7.out b8 (HB.lt Y7.out))
      have X8 := hid (HB.below X7.out b8 (HB.lt X7.out))
      have Q8 := hid (PartsB.mono (PartsB.below Q7.out b8) b8.size)
      have I8 := hid (I7.out.later b8)
      clear b8 Y7 X7 Q7 I7 HA7 B7
      have kx0 := HB.cell X8.out (i := 0) (v := .string h6.name) rfl; have kx1 := HB.cell X8.out (i := 1) (v := .int .i64 h6.mode) rfl; have kx2 := HB.cell X8.out (i := 2) (v := .int .i64 h6.uid) rfl; have kx3 := HB.cell X8.out (i := 3) (v := .int .i64 h6.gid) rfl; have kx4 := HB.cell X8.out (i := 4) (v := .int .i64 h6.size) rfl; have kx5 := HB.cell X8.out (i := 5) (v := .int .i64 h6.mtime) rfl; have kx6 := HB.cell X8.out (i := 6) (v := .int .u8 h6.kind) rfl; have kx7 := HB.cell X8.out (i := 7) (v := .string h6.link) rfl; have kx8 := HB.cell X8.out (i := 8) (v := .int .i64 h6.way) rfl; have kx9 := HB.cell X8.out (i := 9) (v := .string h6.user) rfl; have kx10 := HB.cell X8.out (i := 10) (v := .string h6.group) rfl; have kx11 := HB.cell X8.out (i := 11) (v := .int .i64 h6.major) rfl; have kx12 := HB.cell X8.out (i := 12) (v := .int .i64 h6.minor) rfl; have kx13 := HB.cell X8.out (i := 13) (v := .string h6.pre) rfl; have kx14 := HB.cell X8.out (i := 14) (v := .slice Ap np cp) rfl; have kx15 := HB.cell X8.out (i := 15) (v := .bool h6.more) rfl; have kx16 := HB.cell X8.out (i := 16) (v := .int .i64 h6.real) rfl
      have ky0 := HB.cell Y8.out (i := 0) (v := .string h6.name) rfl; have ky1 := HB.cell Y8.out (i := 1) (v := .int .i64 h6.mode) rfl; have ky2 := HB.cell Y8.out (i := 2) (v := .int .i64 h6.uid) rfl; have ky3 := HB.cell Y8.out (i := 3) (v := .int .i64 h6.gid) rfl; have ky4 := HB.cell Y8.out (i := 4) (v := .int .i64 h6.size) rfl; have ky5 := HB.cell Y8.out (i := 5) (v := .int .i64 h6.mtime) rfl; have ky6 := HB.cell Y8.out (i := 6) (v := .int .u8 h6.kind) rfl; have ky7 := HB.cell Y8.out (i := 7) (v := .string h6.link) rfl; have ky8 := HB.cell Y8.out (i := 8) (v := .int .i64 h6.way) rfl; have ky9 := HB.cell Y8.out (i := 9) (v := .string h6.user) rfl; have ky10 := HB.cell Y8.out (i := 10) (v := .string h6.group) rfl; have ky11 := HB.cell Y8.out (i := 11) (v := .int .i64 h6.major) rfl; have ky12 := HB.cell Y8.out (i := 12) (v := .int .i64 h6.minor) rfl; have ky13 := HB.cell Y8.out (i := 13) (v := .string h6.pre) rfl; have ky14 := HB.cell Y8.out (i := 14) (v := .slice A4 np c4) rfl; have ky15 := HB.cell Y8.out (i := 15) (v := .bool h6.more) rfl; have ky16 := HB.cell Y8.out (i := 16) (v := .int .i64 h6.real) rfl
      go_wp2_with fail
      refine (same_yes h6 (.slice A4 np c4) (.slice Ap np cp) w8 Q8.out I8.out.parts HFew6.out).mono ?_
      rintro e wz ⟨rfl, bz⟩
      have X9 := HB.cell (HB.below X8.out bz (HB.lt X8.out)) (i := 8) (v := .int .i64 m) HCell8.out
      clear kx0 ky0 kx1 ky1 kx2 ky2 kx3 ky3 kx4 ky4 kx5 ky5 kx6 ky6 kx7 ky7 kx8 ky8 kx9 ky9 kx10 ky10 kx11 ky11 kx12 ky12 kx13 ky13 kx14 ky14 kx15 ky15 kx16 ky16
      go_wp2
      go_ret
      exact ⟨rfl, B8.out.trans (bz.mono B8.out.size)⟩
end Go.Proofs.YtbjejgnfnpednaaDoor
