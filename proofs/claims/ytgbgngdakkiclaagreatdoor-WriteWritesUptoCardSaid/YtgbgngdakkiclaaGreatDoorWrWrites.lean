/-
  WriteWrites as data.
-/
import Derived.Test.YtgbgngdakkiclaaGreatDoorWrRefW
import Derived.BigQuiet
set_option linter.unusedVariables false
set_option linter.unusedSimpArgs false
namespace Go.Proofs.YtgbgngdakkiclaaGreatDoor
open Go.RowKit Go.Lib
open Px (R2 tl)
attribute [local go_sem ↓] add_plain

/-- How much records hold. -/
def amR (l : List R2) : Nat := (l.map fun r => 1 + (r.1.size + r.2.size)).sum
theorem amR_take {l : List R2} {i : Nat} (h : i < l.length) : amR (l.take (i + 1)) = amR (l.take i) + (1 + ((l[i]).1.size + (l[i]).2.size)) := by
  unfold amR
  rw [List.take_succ_eq_append_getElem h, List.map_append, List.sum_append]
  simp
theorem amR_le : ∀ (l : List R2) (i : Nat), amR (l.take i) ≤ amR l
  | [], i => by simp [amR]
  | r :: l, 0 => by simp [amR]
  | r :: l, i + 1 => by
    have := amR_le l i
    unfold amR at this ⊢
    simp only [List.take_succ_cons, List.map_cons, List.sum_cons]
    omega
theorem amR_one : ∀ {l : List R2} {r : R2}, r ∈ l → 1 + (r.1.size + r.2.size) ≤ amR l
  | x :: l, r, h => by
    unfold amR
    rw [List.map_cons, List.sum_cons]
    rcases List.mem_cons.1 h with rfl | h
    · omega
    · have := amR_one h
      unfold amR at this
      omega
theorem amR_len : ∀ (l : List R2), l.length ≤ amR l
  | [] => Nat.zero_le _
  | r :: l => by
    have := amR_len l
    unfold amR at this ⊢
    rw [List.map_cons, List.sum_cons, List.length_cons]
    omega
/-- What came in, but for how much of it. -/
structure MRaw (w : World) (m : M.Met) (pv ev : Value) : Prop where
  parts : ∃ A c, pv = .slice A m.parts.length c ∧ Sp.RdP w w.heap.size A m.parts.length m.parts
  extra : ∃ A c, ev = .slice A m.extra.length c ∧ Px.RdR w w.heap.size A m.extra
  i64s : Sp.M.i64s m.parts
  kind : 0 ≤ m.kind ∧ m.kind ≤ 255
  ints : (-9223372036854775808 ≤ m.mode ∧ m.mode ≤ 9223372036854775807) ∧ (-9223372036854775808 ≤ m.uid ∧ m.uid ≤ 9223372036854775807) ∧ (-9223372036854775808 ≤ m.gid ∧ m.gid ≤ 9223372036854775807) ∧
    (-9223372036854775808 ≤ m.sec ∧ m.sec ≤ 9223372036854775807) ∧ (-9223372036854775808 ≤ m.nan ∧ m.nan ≤ 9223372036854775807) ∧ (-9223372036854775808 ≤ m.major ∧ m.major ≤ 9223372036854775807) ∧
    (-9223372036854775808 ≤ m.minor ∧ m.minor ≤ 9223372036854775807) ∧ (-9223372036854775808 ≤ m.size ∧ m.size ≤ 9223372036854775807) ∧ (-9223372036854775808 ≤ m.real ∧ m.real ≤ 9223372036854775807)
/-- A member that came in. -/
structure WRaw (w : World) (x : Mb) : Prop where
  met : MRaw w x.m x.pv x.ev
  data : ∃ A c, x.dv = .slice A x.d.length c ∧ Sp.Rd w w.heap.size A x.d.length x.d ∧ ∀ a, A = some a → a.block < w.heap.size
  small : x.m.parts.length ≤ 1048576 ∧ (x.m.name.size ≤ 1048576 ∧ x.m.link.size ≤ 1048576 ∧ x.m.user.size ≤ 1048576 ∧ x.m.group.size ≤ 1048576) ∧ amR x.m.extra ≤ 1048576 ∧ x.d.length ≤ 1048576
theorem writeE_none : ∀ {xs : List Mb}, M.writeE xs = 0 → ∀ x ∈ xs, M.oneE x.m x.d = 0
  | [], _, x, hx => nomatch hx
  | y :: l, h, x, hx => by
    have h' : (if M.oneE y.m y.d ≠ 0 then M.oneE y.m y.d else M.writeE l) = 0 := h
    by_cases h0 : M.oneE y.m y.d = 0
    · rw [if_neg (by simpa using h0)] at h'
      rcases List.mem_cons.1 hx with rfl | hx
      · exact h0
      · exact writeE_none h' x hx
    · rw [if_pos h0] at h'; exact absurd h' h0
theorem writeL_u {xs : List Mb} (hb : ∀ x ∈ xs, ∀ z ∈ x.d, 0 ≤ z ∧ z ≤ 255) (h : M.writeE xs = 0) : Sp.u8s (M.writeL xs) :=
  writeL_u8 fun x hx => ⟨writeE_none h x hx, hb x hx⟩
theorem MbIn.u8 {w : World} {B : Nat} {x : Mb} (h : MbIn w B x) : ∀ z ∈ x.d, 0 ≤ z ∧ z ≤ 255 := by
  obtain ⟨_, _, _, h, _⟩ := h.data
  exact h.2.1

set_option maxRecDepth 100000 in
set_option maxHeartbeats 8000000 in
theorem writeWrites_any (x : Mb) (A : Option Addr) (n c : Nat) (cs : List Int) (w : World) (hx : WRaw w x) (hr : Sp.Rd w w.heap.size A n cs) (hc : n ≤ c) (hcm : c ≤ maxLen) (hmg : Hd.MG w) (BE : Nat) (hBE : BE ≤ w.heap.size) (hev : Sp.EV BE w) :
    Calls Tryz.prog 5 #[.agg x.cells, .slice A n c] w fun e w' => e = .returned (.bool true) ∧ Below w.heap.size w w' := by
  have HM := hid (fun V (hV : Below w.heap.size w V) => members_any A n c cs V ((hr.below hV).more hV.size) hc hcm)
  have HG := hid (fun V (hV : Below w.heap.size w V) => hmg.later hV)
  have HE := hid (fun V (hV : Below w.heap.size w V) => hev.on (hV.mono hBE))
  have HBE := hid (fun V (hV : Below w.heap.size w V) => Nat.le_trans hBE hV.size)
  obtain ⟨⟨Ap, cp, hpv, hrp⟩, ⟨Ae, ce, hev', hre⟩, hi64, hkind, hints⟩ := hx.met
  obtain ⟨Ad, cd, hdv, hrd, hlo⟩ := hx.data
  have HXX := hid hx
  have hb1 := (Below.refl w.heap.size w).alloc (Nat.le_refl _) (.cells x.cells 37)
  have HW := hid hb1
  have HRE := hid ((hre.below hb1).more hb1.size)
  have M1 := hid (MX.new w x)
  have hs0 : w.heap.size < (World.alloc w (.cells x.cells 37)).heap.size := by rw [World.size_alloc]; exact Nat.lt_succ_self _
  have hln := amR_len x.m.extra
  obtain ⟨hsm1, hsm2, hsm3, hsm4⟩ := hx.small
  have HPV := hid hpv
  have HEV := hid hev'
  have HDV := hid hdv
  clear hr hc hcm hmg hBE hev hx hrp hre hb1 hi64 hkind hints hrd hlo hpv hev' hdv
  go_enter Tryz.func5, Tryz.ntmps5
  go_upto_region 1 with fail
  generalize World.alloc w _ = W at *
  have k0 := M1.out.cell (i := 0) (v := .string x.m.name) rfl
  have k15 : W.cell? ⟨w.heap.size, 15, none⟩ = some (.slice Ap x.m.parts.length cp) := by rw [← HPV.out]; exact M1.out.cell (i := 15) rfl
  have k17 : W.cell? ⟨w.heap.size, 17, none⟩ = some (.slice Ad x.d.length cd) := by rw [← HDV.out]; exact M1.out.cell (i := 17) rfl
  obtain ⟨S, hS⟩ : ∃ S, x.d.length + x.m.name.size + x.m.parts.length = S := ⟨_, rfl⟩
  have hS3 : S ≤ 3145728 := by omega
  go_upto_region 2 with fail
  have HSS := hid hS
  have HSM := hid (And.intro hsm2 hsm1)
  clear k0 k15 k17 hS hsm1 hsm2 hsm4
  go_wp2_with fail
  go_loopw [5, 6] (fun v5 iv wr => ∃ i : Nat, iv = .int .i64 i ∧ v5 = .int .i64 ((S + amR (x.m.extra.take i) : Nat) : Int) ∧ i ≤ x.m.extra.length ∧ Hid (Below W.heap.size W wr)) (fun _ iv _ => x.m.extra.length - (intOf iv).toNat)
  case atStart => exact ⟨0, rfl, by have h := HSS.out; show _ = Value.int .i64 ((S + 0 : Nat) : Int); rw [← h]; simp, Nat.zero_le _, hid (Below.refl _ _)⟩
  case round =>
    obtain ⟨i, rfl, rfl, hi, HB⟩ := hrel
    have htk := amR_le x.m.extra i
    by_cases hlt : i < x.m.extra.length
    · obtain ⟨b, off, rfl, hbb, hc1, hc2⟩ := HRE.out.at_ hlt
      have hnx := amR_take hlt
      have htk2 := amR_le x.m.extra (i + 1)
      obtain ⟨r, hr⟩ : ∃ r, x.m.extra[i] = r := ⟨_, rfl⟩
      rw [hr] at hc1 hc2 hnx
      obtain ⟨a0, ha0⟩ : ∃ a, amR (x.m.extra.take i) = a := ⟨_, rfl⟩
      rw [hnx, ha0] at htk2
      have HNX := hid hnx
      have HA0 := hid ha0
      rw [ha0] at htk ⊢
      have x1 := (HB.out.cell (p := ⟨b, off + i * 2, none⟩) hbb).trans hc1
      have x2 := (HB.out.cell (p := ⟨b, off + i * 2 + 1, none⟩) hbb).trans hc2
      have k16 : wr.cell? ⟨w.heap.size, 16, none⟩ = some (.slice (some ⟨b, off, none⟩) x.m.extra.length ce) := by rw [← HEV.out]; exact (M1.out.below HB.out M1.out.lt).cell (i := 16) rfl
      obtain ⟨q1, hq1⟩ : ∃ n, r.1.size = n := ⟨_, rfl⟩
      obtain ⟨q2, hq2⟩ : ∃ n, r.2.size = n := ⟨_, rfl⟩
      clear hnx ha0 hr hc1 hc2
      go_wp2_with fail
      go_quiet (fail)
      go_wp2_with fail
      go_roundw
      case rel => exact ⟨i + 1, by go_num, by rw [HNX.out, HA0.out]; go_num, by omega, hid (Px.below_drewN' HB.out _)⟩
      case measure => simp [intOf] <;> omega
    · obtain rfl : i = x.m.extra.length := by omega
      have k16 : wr.cell? ⟨w.heap.size, 16, none⟩ = some (.slice Ae x.m.extra.length ce) := by rw [← HEV.out]; exact (M1.out.below HB.out M1.out.lt).cell (i := 16) rfl
      rw [List.take_length]
      rw [List.take_length] at htk
      have HWB := hid (HW.out.trans (HB.out.mono HW.out.size))
      have HMB := hid (show MX wr w.heap.size x from M1.out.below HB.out M1.out.lt)
      have hbw := HB.out.size
      have hwr : w.heap.size < wr.heap.size := Nat.lt_of_lt_of_le hs0 hbw
      obtain ⟨N, hN⟩ : ∃ N, S + amR x.m.extra = N := ⟨_, rfl⟩
      rw [hN]
      have HNN := hid hN
      clear hN htk hbw hs0 HB M1 HW
      by_cases h6 : 1500 < N
      · have d6 : decide (1500 < N) = true := by rw [decide_eq_true_eq]; exact h6
        have d7 : decide ((N : Int) > 1500) = true := by rw [decide_eq_true_eq]; omega
        clear h6
        go_wp2_with fail
        refine (wr_known BE wr (HG.out wr HWB.out) (HBE.out _ HWB.out) (HE.out wr HWB.out)).mono ?_
        rintro e w2 ⟨rfl, b2⟩
        have HW2 := hid (HWB.out.trans (b2.mono HWB.out.size))
        go_wp2_with fail
        go_ret
        first
          | exact ⟨rfl, HW2.out⟩
          | exact HW2.out
      · have d6 : decide (1500 < N) = false := by rw [decide_eq_false_iff_not]; exact h6
        have d7 : decide ((N : Int) > 1500) = false := by rw [decide_eq_false_iff_not]; omega
        have hI : MbIn w w.heap.size x := by
          have h1 := HSS.out
          have h2 := HNN.out
          have h3 := amR_len x.m.extra
          have hmr := HXX.out.met
          have hd := HXX.out.data
          exact ⟨⟨hmr.parts, hmr.extra, by omega, by omega, hmr.i64s, fun r hr => (by have := amR_one hr; omega), hmr.kind, HSM.out.1, hmr.ints⟩, hd, by omega⟩
        have HI := hid (fun (V : World) (hV : Below w.heap.size w V) => (hI.later (Nat.le_refl _) hV).more hV.size)
        clear h6 hI HSS HNN hsm3 hln
        go_wp2_with fail
        refine (wr_known BE wr (HG.out wr HWB.out) (HBE.out _ HWB.out) (HE.out wr HWB.out)).mono ?_
        rintro e w2 ⟨rfl, b2⟩
        have HW2 := hid (HWB.out.trans (b2.mono HWB.out.size))
        have HM2 := hid (show MX w2 w.heap.size x from HMB.out.below b2 hwr)
        have hs2 := Nat.lt_of_lt_of_le hwr b2.size
        clear HWB HMB b2 k16 hwr
        go_wp2_with fail
        refine (HM.out w2 HW2.out).mono ?_
        rintro e w3 ⟨zs, A3, c3, rfl, hr3, hi3, hl3, hb3⟩
        have HW3 := hid (HW2.out.trans (hb3.mono HW2.out.size))
        have HM3 := hid (show MX w3 w.heap.size x from HM2.out.below hb3 hs2)
        have hs3 := Nat.lt_of_lt_of_le hs2 hb3.size
        have HR := hid (fun V (hV : Below w3.heap.size w3 V) => hr3.keep fun p hp => hV.cell (p := p) hp)
        have HZ := hid (fun V (hV : Below w3.heap.size w3 V) y (hy : y ∈ zs) => ((hi3 y hy).later (Nat.le_refl _) hV).more hV.size)
        have HZU := hid (fun y (hy : y ∈ zs) => (hi3 y hy).u8)
        clear hr3 hi3 hb3 HM2 HW2 hs2 HM
        go_wp2_with fail
        go_loopw [8] (fun iv wr => ∃ k : Nat, iv = .int .i64 k ∧ k ≤ zs.length ∧ Hid (Below w3.heap.size w3 wr)) (fun iv _ => zs.length - (intOf iv).toNat)
        case atStart => exact ⟨0, rfl, Nat.zero_le _, hid (Below.refl _ _)⟩
        case round =>
          obtain ⟨k, rfl, hk, HB⟩ := hrel
          have HWr := hid (HW3.out.trans (HB.out.mono HW3.out.size))
          by_cases hlt : k < zs.length
          · obtain ⟨bb, off, rfl, hbb, hrow⟩ := HR.out wr HB.out (by omega)
            have hx := hrow k zs[k] (List.getElem?_eq_getElem hlt)
            have HIk := hid (HZ.out wr HB.out zs[k] (List.getElem_mem hlt))
            obtain ⟨y, hyk⟩ : ∃ y, zs[k] = y := ⟨_, rfl⟩
            rw [hyk] at hx HIk
            clear hyk hrow
            have hms : (Tryz.prog.info? 37).map (·.size) = some y.cells.toList.length := mem_size
            go_wp2_with (refine wpList_load_mid rfl 37 (.tmp 75) rfl bb (off + k * 18) (by simp [Act.eval, Addr.add]) y.cells.toList _ hx Tryz.underlying37 rfl hms ?_; rw [Array.toArray_toList])
            refine (lawOneOne y wr HIk.out (HG.out wr HWr.out) BE (HBE.out wr HWr.out) (HE.out wr HWr.out)).mono ?_
            rintro e w4 ⟨rfl, hb4⟩
            have HB4 := hid (HB.out.trans (hb4.mono HB.out.size))
            clear hb4 hx hms HIk
            go_wp2_with fail
            go_roundw
            case rel => exact ⟨k + 1, by go_num, by omega, HB4⟩
            case measure => simp [intOf] <;> omega
          · obtain rfl : k = zs.length := by omega
            go_wp2_with fail
            have hM := HM3.out.below HB.out hs3
            have HMr := hid (show MX wr w.heap.size x from hM)
            have hsr := Nat.lt_of_lt_of_le hs3 HB.out.size
            obtain ⟨L1, hL1⟩ : ∃ L, outW zs = L := ⟨_, rfl⟩
            obtain ⟨l1, hl1⟩ : ∃ l, L1.length = l := ⟨_, rfl⟩
            obtain ⟨E1, hE1⟩ : ∃ E, M.writeE zs = E := ⟨_, rfl⟩
            have hE34 := writeE_le zs
            rw [hE1] at hE34
            have HL1 := hid hL1
            have HN1 := hid hl1
            have HE1 := hid hE1
            clear hM hL1 hl1 hE1 HM3
            refine (write_any A3 c3 zs wr ((HR.out wr HB.out).more HB.out.size) (HZ.out wr HB.out) (by omega) (HG.out wr HWr.out) BE (HBE.out wr HWr.out) (HE.out wr HWr.out)).mono ?_
            intro e w4 h4
            obtain ⟨A4, c4, rfl, hr4, hb4⟩ := h4.rd (writeL_u HZU.out)
            rw [HL1.out, HN1.out] at hr4
            rw [HL1.out, HN1.out, HE1.out]
            have HB4 := hid (HB.out.trans (hb4.mono HB.out.size))
            have HW4 := hid (HW3.out.trans (HB4.out.mono HW3.out.size))
            have HM4 := hid (show MX w4 w.heap.size x from HMr.out.below hb4 hsr)
            have hs4 := Nat.lt_of_lt_of_le hsr hb4.size
            have R4 := hid (fun V (hV : Below w4.heap.size w4 V) => hr4.below hV)
            clear h4 hr4 hb4 HMr hsr HB HWr
            go_wp2_with fail
            refine (refWrite_any A3 c3 zs w4 ((HR.out w4 HB4.out).more HB4.out.size) (HZ.out w4 HB4.out) (by omega) BE (HBE.out w4 HW4.out) (HE.out w4 HW4.out)).mono ?_
            intro e w5 h5
            obtain ⟨A5, c5, rfl, hr5, hb5⟩ := h5.rd (writeL_u HZU.out)
            rw [HL1.out, HN1.out] at hr5
            rw [HL1.out, HN1.out, HE1.out]
            have HB5 := hid (HB4.out.trans (hb5.mono HB4.out.size))
            have HW5 := hid (HW3.out.trans (HB5.out.mono HW3.out.size))
            have HM5 := hid (show MX w5 w.heap.size x from HM4.out.below hb5 hs4)
            have hs5 := Nat.lt_of_lt_of_le hs4 hb5.size
            have R45 := hid (fun V (hV : Below w5.heap.size w5 V) => R4.out V (hb5.trans (hV.mono hb5.size)))
            have R5 := hid (fun V (hV : Below w5.heap.size w5 V) => hr5.below hV)
            clear h5 hr5 hb5 HM4 hs4 HB4 HW4 R4
            go_wp2_with fail
            refine (good_any A3 c3 zs w5 ((HR.out w5 HB5.out).more HB5.out.size) (HZ.out w5 HB5.out) (by omega) BE (HBE.out w5 HW5.out) (HE.out w5 HW5.out)).mono ?_
            rintro e w6 ⟨A6, c6, rfl, hr6, hi6, hb6⟩
            obtain ⟨ys, hys⟩ : ∃ ys, goodL zs = ys := ⟨_, rfl⟩
            have hyl := goodL_len zs
            have HYS := hid hys
            rw [hys] at hr6 hi6 hyl ⊢
            have HYU := hid (fun y (hy : y ∈ ys) => (hi6 y hy).u8)
            have HB6 := hid (HB5.out.trans (hb6.mono HB5.out.size))
            have HW6 := hid (HW3.out.trans (HB6.out.mono HW3.out.size))
            have HM6 := hid (show MX w6 w.heap.size x from HM5.out.below hb6 hs5)
            have hs6 := Nat.lt_of_lt_of_le hs5 hb6.size
            have R46 := hid (fun V (hV : Below w6.heap.size w6 V) => R45.out V (hb6.trans (hV.mono hb6.size)))
            have R56 := hid (fun V (hV : Below w6.heap.size w6 V) => R5.out V (hb6.trans (hV.mono hb6.size)))
            have HR6 := hid hr6
            have HI6 := hid hi6
            obtain ⟨L2, hL2⟩ : ∃ L, outW ys = L := ⟨_, rfl⟩
            obtain ⟨l2, hl2⟩ : ∃ l, L2.length = l := ⟨_, rfl⟩
            obtain ⟨E2, hE2⟩ : ∃ E, M.writeE ys = E := ⟨_, rfl⟩
            have hE35 := writeE_le ys
            rw [hE2] at hE35
            have HL2 := hid hL2
            have HN2 := hid hl2
            have HE2 := hid hE2
            clear hr6 hi6 hb6 hys HM5 hs5 R45 R5 hL2 hl2 hE2
            go_wp2_with fail
            refine (write_any A6 c6 ys w6 HR6.out HI6.out (by omega) (HG.out w6 HW6.out) BE (HBE.out w6 HW6.out) (HE.out w6 HW6.out)).mono ?_
            intro e w7 h7
            obtain ⟨A7, c7, rfl, hr7, hb7⟩ := h7.rd (writeL_u HYU.out)
            rw [HL2.out, HN2.out] at hr7
            rw [HL2.out, HN2.out, HE2.out]
            have HB7 := hid (HB6.out.trans (hb7.mono HB6.out.size))
            have HW7 := hid (HW3.out.trans (HB7.out.mono HW3.out.size))
            have HM7 := hid (show MX w7 w.heap.size x from HM6.out.below hb7 hs6)
            have hs7 := Nat.lt_of_lt_of_le hs6 hb7.size
            have R47 := hid (fun V (hV : Below w7.heap.size w7 V) => R46.out V (hb7.trans (hV.mono hb7.size)))
            have R57 := hid (fun V (hV : Below w7.heap.size w7 V) => R56.out V (hb7.trans (hV.mono hb7.size)))
            have R7 := hid (fun V (hV : Below w7.heap.size w7 V) => hr7.below hV)
            clear h7 hr7 hb7 HM6 hs6 R46 R56 HR6 HI6 HB6 HW6
            go_wp2_with fail
            refine (good_any A3 c3 zs w7 ((HR.out w7 HB7.out).more HB7.out.size) (HZ.out w7 HB7.out) (by omega) BE (HBE.out w7 HW7.out) (HE.out w7 HW7.out)).mono ?_
            rintro e w8 ⟨A8, c8, rfl, hr8, hi8, hb8⟩
            rw [HYS.out] at hr8 hi8 ⊢
            have HB8 := hid (HB7.out.trans (hb8.mono HB7.out.size))
            have HW8 := hid (HW3.out.trans (HB8.out.mono HW3.out.size))
            have HM8 := hid (show MX w8 w.heap.size x from HM7.out.below hb8 hs7)
            have hs8 := Nat.lt_of_lt_of_le hs7 hb8.size
            have R48 := hid (fun V (hV : Below w8.heap.size w8 V) => R47.out V (hb8.trans (hV.mono hb8.size)))
            have R58 := hid (fun V (hV : Below w8.heap.size w8 V) => R57.out V (hb8.trans (hV.mono hb8.size)))
            have R78 := hid (fun V (hV : Below w8.heap.size w8 V) => R7.out V (hb8.trans (hV.mono hb8.size)))
            have HR8 := hid hr8
            have HI8 := hid hi8
            clear hr8 hi8 hb8 HM7 hs7 R47 R57 R7 HB7 HW7
            go_wp2_with fail
            refine (refWrite_any A8 c8 ys w8 HR8.out HI8.out (by omega) BE (HBE.out w8 HW8.out) (HE.out w8 HW8.out)).mono ?_
            intro e w9 h9
            obtain ⟨A9, c9, rfl, hr9, hb9⟩ := h9.rd (writeL_u HYU.out)
            rw [HL2.out, HN2.out] at hr9
            rw [HL2.out, HN2.out, HE2.out]
            have HB9 := hid (HB8.out.trans (hb9.mono HB8.out.size))
            have HW9 := hid (HW3.out.trans (HB9.out.mono HW3.out.size))
            have HM9 := hid (show MX w9 w.heap.size x from HM8.out.below hb9 hs8)
            have R49 := hid (fun V (hV : Below w9.heap.size w9 V) => R48.out V (hb9.trans (hV.mono hb9.size)))
            have R59 := hid (fun V (hV : Below w9.heap.size w9 V) => R58.out V (hb9.trans (hV.mono hb9.size)))
            have R79 := hid (fun V (hV : Below w9.heap.size w9 V) => R78.out V (hb9.trans (hV.mono hb9.size)))
            have R9 := hid (fun V (hV : Below w9.heap.size w9 V) => hr9.below hV)
            clear h9 hr9 hb9 HM8 hs8 R48 R58 R78 HR8 HI8 HB8 HW8
            go_wp2_with (refine wpList_load_row rfl 37 (.tmp 2) rfl w.heap.size (by rfl) 37 x.cells (0, 0) _ HM9.out Tryz.underlying37 rfl mem_size ?_)
            refine (lawOneOne x w9 (HI.out w9 HW9.out) (HG.out w9 HW9.out) BE (HBE.out w9 HW9.out) (HE.out w9 HW9.out)).mono ?_
            rintro e w10 ⟨rfl, hb10⟩
            have HW10 := hid (HW9.out.trans (hb10.mono HW9.out.size))
            have s4 := Sp.run_str (R49.out w10 hb10) c4
            have s5 := Sp.run_str (R59.out w10 hb10) c5
            have s7 := Sp.run_str (R79.out w10 hb10) c7
            have s9 := Sp.run_str (R9.out w10 hb10) c9
            generalize Sp.strOf L1 = S1 at *
            generalize Sp.strOf L2 = S2 at *
            have ew1 : IntKind.i64.wrap (E1 : Int) = (E1 : Int) := IntWalk.i64_in _ (by omega)
            have ew2 : IntKind.i64.wrap (E2 : Int) = (E2 : Int) := IntWalk.i64_in _ (by omega)
            clear R49 R59 R79 R9 hb10 HM9
            go_wp2_with fail
            go_ret
            first
              | exact ⟨rfl, HW10.out⟩
              | exact HW10.out
              | exact ⟨by simp, HW10.out⟩
end Go.Proofs.YtgbgngdakkiclaaGreatDoor
