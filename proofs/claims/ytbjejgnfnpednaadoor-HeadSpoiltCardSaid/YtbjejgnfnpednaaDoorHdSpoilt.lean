/-
  HeadSpoilt.
-/
import Derived.Test.YtbjejgnfnpednaaDoorHdBackW
import Derived.Test.YtbjejgnfnpednaaDoorHdKinds
namespace Go.Proofs.YtbjejgnfnpednaaDoor
open Go.RowKit Go.Lib
namespace M
theorem Steps.self {h : Hdr} {zs : List Int} (s : Steps h zs) : sld zs = zs := by
  rw [s.out]
  exact sld_self _
/-- One byte another one, where all are small. -/
theorem Steps.bent {h : Hdr} {ys : List Int} (s : Steps h ys) (hl : ∀ z ∈ ys, 0 ≤ z ∧ z ≤ 127) {i : Nat} {x u : Int} (hi : i < 148) (hx : ys[i]? = some x) (hu : 0 ≤ u ∧ u ≤ 127) (hne : u ≠ x) : hparse (ys.set i u) = (30, {}) := by
  have hr : right (ys.set i u) = false := by
    have := right_bent (zs := ys) (i := i) (x := x) (u := u) hl (.inl hi) (by rw [s.self]; exact hx) hu
    rw [s.self] at this
    rw [this]
    simpa using hne
  unfold hparse
  rw [if_neg (by rw [List.length_set, s.lout]; decide), if_pos hr]
theorem set_same {ys : List Int} {i : Nat} {x : Int} (hx : ys[i]? = some x) : ys.set i x = ys := by
  apply List.ext_getElem?
  intro j
  rw [List.getElem?_set]
  split
  · rename_i e
    subst e
    split
    · exact hx.symm
    · rename_i hn
      rw [List.getElem?_eq_none (by omega)]
  · rfl
theorem hparse_short {zs : List Int} (h : zs.length ≠ 512) : hparse zs = (21, {}) := by unfold hparse; rw [if_pos h]
end M

set_option maxRecDepth 100000 in
set_option maxHeartbeats 4000000 in
theorem headSpoilt_any (A : Option Addr) (n c : Nat) (zs : List Int) (at_ v nn : Int) (ha : 0 ≤ at_ ∧ at_ ≤ 65535) (hv : 0 ≤ v ∧ v ≤ 255) (hnn : 0 ≤ nn ∧ nn ≤ 65535) (w : World) (hr : Rd w w.heap.size A n zs) (hc : n ≤ c) (hcm : c ≤ maxLen) (hmg : MG w) :
    Calls Tryd.prog 8 #[.slice A n c, .int .u16 at_, .int .u8 v, .int .u16 nn] w fun e w' => e = .returned (.bool true) ∧ Below w.heap.size w w' := by
  have hst := store_new
  have HMG := hid (fun (W : World) (hW : Below w.heap.size w W) => hmg.later hW)
  have HH := hid (header_any A n c zs w hr hc hcm)
  obtain ⟨i, hi⟩ : ∃ i : Nat, (i : Int) = at_ % 148 := ⟨(at_ % 148).toNat, by omega⟩
  have HI148 := hid (show i < 148 by omega)
  have EI1 := hid (show at_.tmod 148 = (i : Int) by rw [Int.tmod_eq_emod_of_nonneg ha.1]; exact hi.symm)
  have EI2 := hid (show IntKind.i64.wrap at_ = at_ from IntWalk.i64_in _ (by omega))
  have EI3 := hid (show IntKind.i64.wrap (i : Int) = i from IntWalk.i64_in _ (by omega))
  obtain ⟨m, hm⟩ : ∃ m : Nat, (m : Int) = nn % 512 := ⟨(nn % 512).toNat, by omega⟩
  have HM512 := hid (show m < 512 by omega)
  have EM1 := hid (show nn.tmod 512 = (m : Int) by rw [Int.tmod_eq_emod_of_nonneg hnn.1]; exact hm.symm)
  have EM2 := hid (show IntKind.i64.wrap nn = nn from IntWalk.i64_in _ (by omega))
  have EM3 := hid (show IntKind.i64.wrap (m : Int) = m from IntWalk.i64_in _ (by omega))
  obtain ⟨u, hu⟩ : ∃ u : Int, u = v % 128 := ⟨_, rfl⟩
  have HU := hid (show 0 ≤ u ∧ u ≤ 127 by omega)
  have EU1 := hid (show v.tmod 128 = u by rw [Int.tmod_eq_emod_of_nonneg hv.1]; exact hu.symm)
  have EU2 := hid (show IntKind.u8.wrap u = u from IntWalk.u8_in _ (by omega))
  clear hr hc hcm hmg hi hm hu ha hv hnn
  go_enter Tryd.func8, Tryd.ntmps8
  go_wp2_with fail
  (with_reducible refine HH.out.mono ?_)
  rintro e w1 ⟨h, pv, rfl, hi, hfew, hway, b1⟩
  obtain ⟨Ap, cp, rfl⟩ := hi.slice
  have bA : Below w1.heap.size w1 (w1.alloc (.cells (hcells h (.slice Ap h.parts.length cp)) 25)) := (Below.refl _ _).alloc (Nat.le_refl _) _
  have HI := hid hi
  have P1 := hid (PartsB.below hi.parts bA)
  have HB1 := hid (HB.new w1 h (.slice Ap h.parts.length cp))
  have B1 := hid (b1.trans (bA.mono b1.size))
  have HG := hid b1.size
  clear hi b1 HH hfew hway bA
  generalize hn : h.parts.length = np at *
  have HNP := hid hn
  clear hn
  go_upto_region 2 with fail
  generalize w1.alloc _ = w2 at *
  have kc := HB.cell HB1.out (i := 0) (v := .string h.name) rfl
  have fc := HB.frozen HB1.out 0
  have X0 := hid (HB.set HB1.out 0 (.string ⟨#[97]⟩) (h' := { h with name := ⟨#[97]⟩ }) rfl)
  have bs := (Below.refl w1.heap.size w2).setCell (p := ⟨w1.heap.size, 0, none⟩) (Nat.le_refl _) (.string ⟨#[97]⟩)
  have B10 := hid (B1.out.trans (bs.mono HG.out))
  have P10 := hid (PartsB.below P1.out bs)
  clear bs HB1 B1 P1
  go_upto_region 3 with fail
  generalize w2.setCell _ _ = w20 at *
  clear kc fc
  have kc := HB.cell X0.out (i := 7) (v := .string h.link) rfl
  have fc := HB.frozen X0.out 7
  have X1 := hid (HB.set X0.out 7 (.string ⟨#[]⟩) (h' := { h with name := ⟨#[97]⟩, link := ⟨#[]⟩ }) rfl)
  have bs := (Below.refl w1.heap.size w20).setCell (p := ⟨w1.heap.size, 7, none⟩) (Nat.le_refl _) (.string ⟨#[]⟩)
  have B11 := hid (B10.out.trans (bs.mono HG.out))
  have P11 := hid (PartsB.below P10.out bs)
  clear bs X0 B10 P10
  go_upto_region 4 with fail
  generalize w20.setCell _ _ = w21 at *
  clear kc fc
  have kc := HB.cell X1.out (i := 9) (v := .string h.user) rfl
  have fc := HB.frozen X1.out 9
  have X2 := hid (HB.set X1.out 9 (.string ⟨#[]⟩) (h' := { h with name := ⟨#[97]⟩, link := ⟨#[]⟩, user := ⟨#[]⟩ }) rfl)
  have bs := (Below.refl w1.heap.size w21).setCell (p := ⟨w1.heap.size, 9, none⟩) (Nat.le_refl _) (.string ⟨#[]⟩)
  have B12 := hid (B11.out.trans (bs.mono HG.out))
  have P12 := hid (PartsB.below P11.out bs)
  clear bs X1 B11 P11
  go_upto_region 5 with fail
  generalize w21.setCell _ _ = w22 at *
  clear kc fc
  have kc := HB.cell X2.out (i := 10) (v := .string h.group) rfl
  have fc := HB.frozen X2.out 10
  have X3 := hid (HB.set X2.out 10 (.string ⟨#[]⟩) (h' := { h with name := ⟨#[97]⟩, link := ⟨#[]⟩, user := ⟨#[]⟩, group := ⟨#[]⟩ }) rfl)
  have bs := (Below.refl w1.heap.size w22).setCell (p := ⟨w1.heap.size, 10, none⟩) (Nat.le_refl _) (.string ⟨#[]⟩)
  have B13 := hid (B12.out.trans (bs.mono HG.out))
  have P13 := hid (PartsB.below P12.out bs)
  clear bs X2 B12 P12
  go_upto_region 6 with fail
  generalize w22.setCell _ _ = w23 at *
  clear kc fc
  have kc := HB.cell X3.out (i := 13) (v := .string h.pre) rfl
  have fc := HB.frozen X3.out 13
  have X4 := hid (HB.set X3.out 13 (.string ⟨#[]⟩) (h' := { h with name := ⟨#[97]⟩, link := ⟨#[]⟩, user := ⟨#[]⟩, group := ⟨#[]⟩, pre := ⟨#[]⟩ }) rfl)
  have bs := (Below.refl w1.heap.size w23).setCell (p := ⟨w1.heap.size, 13, none⟩) (Nat.le_refl _) (.string ⟨#[]⟩)
  have B14 := hid (B13.out.trans (bs.mono HG.out))
  have P14 := hid (PartsB.below P13.out bs)
  clear bs X3 B13 P13
  go_upto_region 7 with fail
  generalize w23.setCell _ _ = w24 at *
  clear kc fc
  have kc := HB.cell X4.out (i := 2) (v := .int .i64 h.uid) rfl
  have fc := HB.frozen X4.out 2
  have X5 := hid (HB.set X4.out 2 (.int .i64 0) (h' := { h with name := ⟨#[97]⟩, link := ⟨#[]⟩, user := ⟨#[]⟩, group := ⟨#[]⟩, pre := ⟨#[]⟩, uid := 0 }) rfl)
  have bs := (Below.refl w1.heap.size w24).setCell (p := ⟨w1.heap.size, 2, none⟩) (Nat.le_refl _) (.int .i64 0)
  have B15 := hid (B14.out.trans (bs.mono HG.out))
  have P15 := hid (PartsB.below P14.out bs)
  clear bs X4 B14 P14
  go_upto_region 8 with fail
  generalize w24.setCell _ _ = w25 at *
  clear kc fc
  have kc := HB.cell X5.out (i := 3) (v := .int .i64 h.gid) rfl
  have fc := HB.frozen X5.out 3
  have X6 := hid (HB.set X5.out 3 (.int .i64 0) (h' := { h with name := ⟨#[97]⟩, link := ⟨#[]⟩, user := ⟨#[]⟩, group := ⟨#[]⟩, pre := ⟨#[]⟩, uid := 0, gid := 0 }) rfl)
  have bs := (Below.refl w1.heap.size w25).setCell (p := ⟨w1.heap.size, 3, none⟩) (Nat.le_refl _) (.int .i64 0)
  have B16 := hid (B15.out.trans (bs.mono HG.out))
  have P16 := hid (PartsB.below P15.out bs)
  clear bs X5 B15 P15
  go_upto_region 9 with fail
  generalize w25.setCell _ _ = w26 at *
  clear kc fc
  have kc := HB.cell X6.out (i := 5) (v := .int .i64 h.mtime) rfl
  have fc := HB.frozen X6.out 5
  have X7 := hid (HB.set X6.out 5 (.int .i64 0) (h' := { h with name := ⟨#[97]⟩, link := ⟨#[]⟩, user := ⟨#[]⟩, group := ⟨#[]⟩, pre := ⟨#[]⟩, uid := 0, gid := 0, mtime := 0 }) rfl)
  have bs := (Below.refl w1.heap.size w26).setCell (p := ⟨w1.heap.size, 5, none⟩) (Nat.le_refl _) (.int .i64 0)
  have B17 := hid (B16.out.trans (bs.mono HG.out))
  have P17 := hid (PartsB.below P16.out bs)
  clear bs X6 B16 P16
  go_upto_region 10 with fail
  generalize w26.setCell _ _ = w27 at *
  clear kc fc
  have P1w : Hid (PartsB w27 w1.heap.size (.slice Ap np cp) ({ h with name := ⟨#[97]⟩, link := ⟨#[]⟩, user := ⟨#[]⟩, group := ⟨#[]⟩, pre := ⟨#[]⟩, uid := 0, gid := 0, mtime := 0 } : M.Hdr).parts) := P17
  go_wp2_with (refine wpList_load_row rfl 25 (.tmp 9) rfl w1.heap.size (by rfl) 25 (hcells { h with name := ⟨#[97]⟩, link := ⟨#[]⟩, user := ⟨#[]⟩, group := ⟨#[]⟩, pre := ⟨#[]⟩, uid := 0, gid := 0, mtime := 0 } (.slice Ap np cp)) (0, 0) _ X7.out Tryd.underlying25 rfl hdr_size ?_)
  have HI5 := hid (⟨PartsB.mono P1w.out (Nat.le_of_lt (HB.lt X7.out)), HI.out.nums, HI.out.kind, ⟨HI.out.ints.1, zero_in, zero_in, HI.out.ints.2.2.2.1, zero_in, HI.out.ints.2.2.2.2.2⟩,
      ⟨show (1 : Nat) ≤ 100000 by decide, Nat.zero_le _, Nat.zero_le _, Nat.zero_le _, Nat.zero_le _⟩⟩ : HIn w27 { h with name := ⟨#[97]⟩, link := ⟨#[]⟩, user := ⟨#[]⟩, group := ⟨#[]⟩, pre := ⟨#[]⟩, uid := 0, gid := 0, mtime := 0 } (.slice Ap np cp))
  clear HI P1w P17 HNP X7
  generalize ({ h with name := ⟨#[97]⟩, link := ⟨#[]⟩, user := ⟨#[]⟩, group := ⟨#[]⟩, pre := ⟨#[]⟩, uid := 0, gid := 0, mtime := 0 } : M.Hdr) = h5 at *
  refine (hprint_any h5 _ w27 HI5.out (HMG.out _ B17.out)).mono ?_
  rintro e w3 ⟨h3, b3⟩
  have B3 := hid (B17.out.trans (b3.mono B17.out.size))
  by_cases hx : (M.hprint h5).1 = 0
  case neg =>
    rw [if_neg hx] at h3
    subst h3
    have hne : ((M.hprint h5).1 != 0) = true := by simpa using hx
    clear b3 hx
    go_wp2_with fail
    (with_reducible refine (lawKnown_any _ (HMG.out _ B3.out)).mono ?_)
    rintro e w8 ⟨rfl, b8⟩
    go_wp2
    go_ret
    exact ⟨rfl, B3.out.trans (b8.mono B3.out.size)⟩
  case pos =>
    obtain ⟨ys, hz⟩ : ∃ ys, M.hprint h5 = (0, ys) := ⟨_, by rw [← hx]⟩
    obtain ⟨S⟩ := M.print_back hz
    rw [hz, if_pos rfl] at h3
    obtain ⟨g, rfl, hg, hA⟩ := h3
    have HAr := hid hA
    have HGg := hid (Nat.le_trans B17.out.size hg)
    clear hx hz b3 hg hA HI5 B17
    go_wp2_with fail
    go_loopw [12] (fun iv wr => ∃ k : Nat, iv = .int .i64 k ∧ k ≤ 512 ∧ wr = w3 ∧ Hid (∀ j : Nat, j < k → ∀ z, ys[j]? = some z → z ≤ 127)) (fun iv _ => 512 - (RowKit.intOf iv).toNat)
    case atStart => exact ⟨0, rfl, by decide, rfl, hid (fun j hj => absurd hj (Nat.not_lt_zero j))⟩
    case round =>
      obtain ⟨k, rfl, hk, rfl, HL⟩ := hrel
      by_cases hk5 : k < 512
      · obtain ⟨z, hz⟩ : ∃ z, ys[k]? = some z := ⟨_, List.getElem?_eq_getElem (by rw [S.lout]; exact hk5)⟩
        have kz := HAr.out.cell hz
        have HZ := hid hz
        clear hz
        by_cases hz7 : 127 < z
        · go_wp2_with fail
          (with_reducible refine (lawKnown_any _ (HMG.out _ B3.out)).mono ?_)
          rintro e w8 ⟨rfl, b8⟩
          go_wp2
          go_ret
          exact ⟨rfl, B3.out.trans (b8.mono B3.out.size)⟩
        · go_wp2_with fail
          go_roundw
          case rel =>
            refine ⟨k + 1, (show Value.int .i64 _ = Value.int .i64 ((k + 1 : Nat) : Int) by go_num), hk5, trivial, hid (fun j hj z' hz' => ?_)⟩
            by_cases e : j = k
            · subst e
              rw [HZ.out] at hz'
              injection hz' with hz'
              omega
            · exact HL.out j (by omega) z' hz'
          case measure => simp [RowKit.intOf]; omega
      · have hk2 : k = 512 := by omega
        subst hk2
        have HLow := hid (show ∀ z ∈ ys, 0 ≤ z ∧ z ≤ 127 from fun z hz => ⟨(S.bd z hz).1, by
          obtain ⟨j, hj, e⟩ := List.mem_iff_getElem.1 hz
          exact HL.out j (by rw [S.lout] at hj; exact hj) z (by rw [List.getElem?_eq_getElem hj, e])⟩)
        clear HL hk5 hk
        obtain ⟨x, hxx⟩ : ∃ x, ys[i]? = some x := ⟨_, List.getElem?_eq_getElem (by rw [S.lout]; have := HI148.out; omega)⟩
        have kx := HAr.out.cell hxx
        have HX := hid hxx
        clear hxx
        have hmm : m ≤ 512 := Nat.le_of_lt HM512.out
        have hii : i < 512 := Nat.lt_trans HI148.out (by decide)
        have e1 := EI1.out
        have e2 := EI2.out
        have e3 := EI3.out
        have e4 := EM1.out
        have e5 := EM2.out
        have e6 := EM3.out
        go_wp2_with fail
        have hR4 := HAr.out.part S.bd (B := wr.heap.size) HAr.out.lt 0 m (by rw [S.lout]; omega)
        (with_reducible refine (hparse_any (some ⟨g, 0, none⟩) m 512 _ _ hR4 (by omega) (by decide) (by omega) (HMG.out _ B3.out)).mono ?_)
        rintro e w4 ⟨pv4, rfl, hp4, b4⟩
        rw [M.hparse_short (by have := HM512.out; rw [hR4.len]; omega)] at hp4 ⊢
        obtain ⟨A4, c4, he4, _, _⟩ := hp4
        generalize List.length _ = n4 at he4
        subst he4
        have bA : Below w4.heap.size w4 (w4.alloc (.cells (hcells {} (.slice A4 n4 c4)) 25)) := (Below.refl _ _).alloc (Nat.le_refl _) _
        have B5 := hid ((B3.out.trans (b4.mono B3.out.size)).trans (bA.mono (B3.out.trans (b4.mono B3.out.size)).size))
        have HA5 := hid ((HAr.out.below b4 HAr.out.lt).below bA (HAr.out.below b4 HAr.out.lt).lt)
        have kc := HA5.out.cell HX.out
        have fc := HA5.out.frozen i
        have eu1 := EU1.out
        have eu2 := EU2.out
        have HA6 := hid (HA5.out.set i u)
        have B6 := hid (B5.out.setCell (p := ⟨g, i, none⟩) HGg.out (.int .u8 u))
        clear hR4 b4 bA kx e1 e2 e3 e4 e5 e6 HAr B3
        go_upto_region 22 with fail
        generalize World.setCell _ _ _ = w6 at *
        clear kc fc eu1 eu2 HA5 B5
        have hR6 := HA6.out.rd (fun z hz => by
          rcases List.mem_or_eq_of_mem_set hz with h2 | h2
          · exact S.bd z h2
          · subst h2; exact ⟨HU.out.1, by have := HU.out.2; omega⟩) (B := w6.heap.size) HA6.out.lt
        rw [List.length_set, S.lout] at hR6
        go_wp2_with fail
        by_cases hux : u = x
        · have hub : (u != x) = false := by simp [hux]
          have hps : M.hparse (ys.set i u) = (0, h5) := by rw [hux, M.set_same HX.out, S.back]
          (with_reducible refine (hparse_any (some ⟨g, 0, none⟩) 512 512 (ys.set i u) _ hR6 (Nat.le_refl _) (by decide) (by decide) (HMG.out _ B6.out)).mono ?_)
          rintro e w7 ⟨pv7, rfl, hp7, b7⟩
          rw [hps] at hp7 ⊢
          clear hps hux
          obtain ⟨A7, c7, rfl, _, _⟩ := hp7
          have B7 := hid ((B6.out.trans (b7.mono B6.out.size)).alloc (B6.out.trans (b7.mono B6.out.size)).size (.cells (hcells h5 (.slice A7 (h5).parts.length c7)) 25))
          clear b7 hR6
          go_wp2_with fail
          generalize w7.alloc _ = w8 at *
          (with_reducible refine (lawKnown_any _ (HMG.out _ B7.out)).mono ?_)
          rintro e w9 ⟨rfl, b9⟩
          have eu1 := EU1.out
          have eu2 := EU2.out
          go_wp2
          go_ret
          exact ⟨rfl, B7.out.trans (b9.mono B7.out.size)⟩
        · have hub : (u != x) = true := by simpa using hux
          have hps : M.hparse (ys.set i u) = (30, {}) := S.bent HLow.out HI148.out HX.out HU.out hux
          (with_reducible refine (hparse_any (some ⟨g, 0, none⟩) 512 512 (ys.set i u) _ hR6 (Nat.le_refl _) (by decide) (by decide) (HMG.out _ B6.out)).mono ?_)
          rintro e w7 ⟨pv7, rfl, hp7, b7⟩
          rw [hps] at hp7 ⊢
          clear hps hux
          obtain ⟨A7, c7, rfl, _, _⟩ := hp7
          have B7 := hid ((B6.out.trans (b7.mono B6.out.size)).alloc (B6.out.trans (b7.mono B6.out.size)).size (.cells (hcells {} (.slice A7 (({} : M.Hdr)).parts.length c7)) 25))
          clear b7 hR6
          go_wp2_with fail
          generalize w7.alloc _ = w8 at *
          (with_reducible refine (lawKnown_any _ (HMG.out _ B7.out)).mono ?_)
          rintro e w9 ⟨rfl, b9⟩
          have eu1 := EU1.out
          have eu2 := EU2.out
          go_wp2
          go_ret
          exact ⟨rfl, B7.out.trans (b9.mono B7.out.size)⟩
end Go.Proofs.YtbjejgnfnpednaaDoor
