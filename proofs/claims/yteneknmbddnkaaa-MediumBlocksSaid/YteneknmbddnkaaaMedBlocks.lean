/-
  MediumBlocks' walk.
-/
import Derived.Test.YteneknmbddnkaaaMedTells
namespace Go.Proofs.Yteneknmbddnkaaa
open Go.RowKit Go.Lib

theorem five_row (w : World) (a b c d e : Int) (hz : i64s [a, b, c, d, e]) : RdI (w.alloc (.cells #[.int .i64 a, .int .i64 b, .int .i64 c, .int .i64 d, .int .i64 e] 3)) (w.heap.size + 1) (some ⟨w.heap.size, 0, none⟩) 5 [a, b, c, d, e] := by
  have hx := Blk.new w 3 [.int .i64 a, .int .i64 b, .int .i64 c, .int .i64 d, .int .i64 e]
  refine ⟨rfl, hz, fun _ => ⟨_, 0, rfl, Nat.lt_succ_self _, fun j z hj => ?_⟩⟩
  rw [Nat.zero_add]
  refine hx.cell ?_
  match j, hj with
  | 0, hj => injection hj with hj; subst hj; rfl
  | 1, hj => injection hj with hj; subst hj; rfl
  | 2, hj => injection hj with hj; subst hj; rfl
  | 3, hj => injection hj with hj; subst hj; rfl
  | 4, hj => injection hj with hj; subst hj; rfl
  | j + 5, hj => simp at hj

set_option maxRecDepth 100000 in
set_option maxHeartbeats 8000000 in
theorem mediumBlocks_nat (Ax : Option Addr) (nx cx : Nat) (xs : List Int) (Ay : Option Addr) (ny cy : Nat) (l : List Int) (Ab : Option Addr) (nb cb : Nat) (bs : List Int) (Ad : Option Addr) (nd cd : Nat) (bad : List Int) (i : Int) (A : Option Addr) (n c : Nat) (zs : List Int) (m k : Nat) (w : World)
    (hx : Rd w w.heap.size Ax nx xs) (hxc : nx ≤ cx) (hxm : cx ≤ maxLen) (hy : RdI w w.heap.size Ay ny l) (hny : ny ≤ 140737488355328) (hb : Rd w w.heap.size Ab nb bs) (hbc : nb ≤ cb) (hbm : cb ≤ maxLen) (hd : RdI w w.heap.size Ad nd bad) (hnd : nd ≤ 140737488355328)
    (hi : -9223372036854775808 ≤ i ∧ i ≤ 9223372036854775807) (hr : Rd w w.heap.size A n zs) (hn : n ≤ maxLen) (hm : m ≤ 65535) (hk : k ≤ 255) :
    Calls Try.prog 5 #[.agg #[.slice Ax nx cx, .slice Ay ny cy], .slice Ab nb cb, .slice Ad nd cd, .int .i64 i, .slice A n c, .int .u16 m, .int .u8 k] w fun e w' => e = .returned (.bool true) ∧ Below w.heap.size w w' := by
  obtain ⟨w1, hw1⟩ : ∃ w1, w1 = w.alloc (.cells #[.slice Ax nx cx, .slice Ay ny cy] 27) := ⟨_, rfl⟩
  have hb1 : Below w.heap.size w w1 := by rw [hw1]; exact (Below.refl _ _).alloc (Nat.le_refl _) _
  have hx1 : Blk w1 w.heap.size 27 [.slice Ax nx cx, .slice Ay ny cy] := by rw [hw1]; exact Blk.new w _ _
  have HW1 := hid hw1
  have HB1 := hid hb1
  have hn63 : n ≤ 2 ^ 63 - 1 := hn
  have hxm' : cx ≤ 2 ^ 63 - 1 := hxm
  have hbm' : cb ≤ 2 ^ 63 - 1 := hbm
  have c0 := hx1.cell (i := 0) rfl
  have c1 := hx1.cell (i := 1) rfl
  by_cases h6 : 3000 < nx ∨ 3000 < nb ∨ 50 < nd + ny
  · clear hx hy hb hd hr hw1 hx1
    by_cases q1 : 3000 < nx
    · have e1 : decide ((3000 : Int) < (nx : Int)) = true := by rw [decide_eq_true_eq]; omega
      go_enter Try.func5, Try.ntmps5
      go_wp2_with fail
      rw [← HW1.out]
      (with_reducible refine (known_any _).mono ?_)
      rintro e w2 ⟨rfl, b2⟩
      go_wp2
      go_ret
      exact ⟨rfl, HB1.out.trans (b2.mono HB1.out.size)⟩
    · have e1 : decide ((3000 : Int) < (nx : Int)) = false := by rw [decide_eq_false_iff_not]; omega
      by_cases q2 : 3000 < nb
      · have e2 : decide ((3000 : Int) < (nb : Int)) = true := by rw [decide_eq_true_eq]; omega
        go_enter Try.func5, Try.ntmps5
        go_wp2_with fail
        rw [← HW1.out]
        (with_reducible refine (known_any _).mono ?_)
        rintro e w2 ⟨rfl, b2⟩
        go_wp2
        go_ret
        exact ⟨rfl, HB1.out.trans (b2.mono HB1.out.size)⟩
      · have e2 : decide ((3000 : Int) < (nb : Int)) = false := by rw [decide_eq_false_iff_not]; omega
        have e3 : decide ((50 : Int) < (nd : Int) + (ny : Int)) = true := by rw [decide_eq_true_eq]; omega
        go_enter Try.func5, Try.ntmps5
        go_wp2_with fail
        rw [← HW1.out]
        (with_reducible refine (known_any _).mono ?_)
        rintro e w2 ⟨rfl, b2⟩
        go_wp2
        go_ret
        exact ⟨rfl, HB1.out.trans (b2.mono HB1.out.size)⟩
  have e1 : decide ((3000 : Int) < (nx : Int)) = false := by rw [decide_eq_false_iff_not]; omega
  have e2 : decide ((3000 : Int) < (nb : Int)) = false := by rw [decide_eq_false_iff_not]; omega
  have e3 : decide ((50 : Int) < (nd : Int) + (ny : Int)) = false := by rw [decide_eq_false_iff_not]; omega
  have HRX := hid (fun (W : World) (hW : Below w.heap.size w W) => (hx.keep (w' := W) fun p hp => hW.cell hp))
  have HRY := hid (fun (W : World) (hW : Below w.heap.size w W) => (hy.keep (w' := W) fun p hp => hW.cell hp))
  have HRB := hid (fun (W : World) (hW : Below w.heap.size w W) => (hb.keep (w' := W) fun p hp => hW.cell hp))
  have HRD := hid (fun (W : World) (hW : Below w.heap.size w W) => (hd.keep (w' := W) fun p hp => hW.cell hp))
  have HBY := hid (fun (W : World) (hb : Below w.heap.size w W) => bytes_any A n c zs m W w.heap.size (hr.keep (w' := W) fun p hp => hb.cell hp) hb.size hm hn)
  have hN1 : m % 3000 ≤ 2999 := by omega
  have HBL := hid (M.bytes_len zs (m % 3000))
  have HBU : Hid (u8s (M.bytes zs (m % 3000))) := hid (M.bytes_bd zs (m % 3000))
  have HX1 := hid hx1
  have HBS : Hid (u8s bs) := hid hb.bd
  have HBN : Hid (bs.length = nb) := hid hb.len
  clear hx hy hb hd hr hx1 hw1 hn63 hxm' hbm'
  generalize M.bytes zs (m % 3000) = bz at *
  generalize m % 3000 = N at *
  have HMK := hid (fun (A1 : Option Addr) (n1 c1 : Nat) (z1 : List Int) (A2 : Option Addr) (n2 c2 : Nat) (z2 : List Int) (W : World) (q1 : Rd W W.heap.size A1 n1 z1) (q2 : RdI W W.heap.size A2 n2 z2) (q3 : n1 ≤ 3000) (q4 : n2 ≤ 3000) => make_any A1 n1 c1 z1 A2 n2 c2 z2 W W.heap.size q1 q2 (Nat.le_refl _) (by omega) (by omega))
  have HMR := hid (fun (A1 : Option Addr) (n1 c1 : Nat) (z1 : List Int) (A2 : Option Addr) (n2 c2 : Nat) (z2 : List Int) (W : World) (q1 : Rd W W.heap.size A1 n1 z1) (q2 : RdI W W.heap.size A2 n2 z2) (q3 : n1 ≤ 3000) (q4 : n2 ≤ 3000) => refMake_any A1 n1 c1 z1 A2 n2 c2 z2 W W.heap.size q1 q2 (Nat.le_refl _) (by omega) (by omega))
  unfold NewImg at HMK HMR
  have hk7 : ((k : Int)) % 7 = ((k % 7 : Nat) : Int) := by omega
  have hkq : ((k : Int)) / 7 = ((k / 7 : Nat) : Int) := by omega
  have hkq7 : (((k / 7 : Nat) : Int)) % 7 = ((k / 7 % 7 : Nat) : Int) := by omega
  have hk8 : ((k : Int)) % 8 = ((k % 8 : Nat) : Int) := by omega
  have b7 : k % 7 ≤ 6 := by omega
  have b77 : k / 7 % 7 ≤ 6 := by omega
  have b8 : k % 8 ≤ 7 := by omega
  generalize k % 7 = k1 at *
  generalize k / 7 % 7 = k2 at *
  generalize k % 8 = k3 at *
  generalize k / 7 = kd at *
  go_enter Try.func5, Try.ntmps5
  go_wp2_with fail
  rw [← HW1.out]
  clear HW1
  (with_reducible refine (known_any _).mono ?_)
  rintro e w2 ⟨rfl, b2⟩
  have B2 := HB1.out.trans (b2.mono HB1.out.size)
  have HX2 := hid (HX1.out.below b2 HX1.out.lt)
  have HB2 := hid B2
  clear b2 B2 c0 c1
  go_wp2_with fail
  (with_reducible refine (HBY.out w2 HB2.out).mono ?_)
  rintro e w3 ⟨v3, rfl, hv3, b3⟩
  obtain ⟨Am, cm, rfl, hrm, hcm, hmm⟩ := hv3.rd HBU.out
  rw [HBL.out] at hrm hcm ⊢
  obtain ⟨w4, hw4⟩ : ∃ w4, w4 = w3.alloc (.cells #[.int .i64 k1, .int .i64 k2, .int .i64 (-1), .int .i64 3, .int .i64 3] 3) := ⟨_, rfl⟩
  have hb4 : Below w3.heap.size w3 w4 := by rw [hw4]; exact (Below.refl _ _).alloc (Nat.le_refl _) _
  have hl5 : RdI w4 w4.heap.size (some ⟨w3.heap.size, 0, none⟩) 5 [(k1 : Int), k2, -1, 3, 3] := by
    have h := five_row w3 k1 k2 (-1) 3 3 (by intro z hz; simp at hz; omega)
    rw [hw4, World.size_alloc]
    exact h
  have B4 := HB2.out.trans ((b3.trans (hb4.mono b3.size)).mono HB2.out.size)
  have HB4 := hid B4
  have HX4 := hid (HX2.out.below (b3.trans (hb4.mono b3.size)) HX2.out.lt)
  have HRM := hid (fun (W : World) (hW : Below w4.heap.size w4 W) => ((hrm.keep (w' := w4) fun p hp => hb4.cell hp).more hb4.size).keep (w' := W) fun p hp => hW.cell hp)
  have HRL := hid (fun (W : World) (hW : Below w4.heap.size w4 W) => hl5.keep (w' := W) fun p hp => hW.cell hp)
  have HM1 := hid (HMK.out Ab nb cb bs Ad nd cd bad w4 ((HRB.out w4 B4).more B4.size) ((HRD.out w4 B4).more B4.size) (by omega) (by omega))
  have HW4 := hid hw4
  generalize hL5 : [(k1 : Int), k2, -1, 3, 3] = l5 at *
  have HLB : Hid (i64s (M.bads nb bad)) := hid (M.bads_bd (by omega))
  have HLN : Hid ((M.bads nb bad).length ≤ nb) := hid (M.bads_le nb bad)
  have HWU : Hid (u8s (M.wipe (M.bads nb bad) bs)) := hid (M.wipe_bd HBS.out)
  have HWL : Hid ((M.wipe (M.bads nb bad) bs).length = nb) := hid (by rw [M.wipe_len, HBN.out])
  have HLBm : Hid (i64s (M.bads N l5)) := hid (M.bads_bd (by omega))
  have HLNm : Hid ((M.bads N l5).length ≤ N) := hid (M.bads_le N l5)
  have HWUm : Hid (u8s (M.wipe (M.bads N l5) bz)) := hid (M.wipe_bd HBU.out)
  have HWLm : Hid ((M.wipe (M.bads N l5) bz).length = N) := hid (by rw [M.wipe_len, HBL.out])
  have HMM := hid (fun W q1 q2 => HMK.out Am N cm bz (some ⟨w3.heap.size, 0, none⟩) 5 5 l5 W q1 q2 (by omega) (by omega))
  have HMQ := hid (fun W q1 q2 => HMR.out Am N cm bz (some ⟨w3.heap.size, 0, none⟩) 5 5 l5 W q1 q2 (by omega) (by omega))
  have HMP := hid (fun W q1 q2 => HMR.out Ab nb cb bs Ad nd cd bad W q1 q2 (by omega) (by omega))
  clear HMK HMR
  generalize M.wipe (M.bads N l5) bz = wm at *
  generalize M.bads N l5 = Lm at *
  generalize M.wipe (M.bads nb bad) bs = ws at *
  generalize M.bads nb bad = L at *
  clear hL5 hv3 b3 hrm hb4 hl5 B4 hw4 HBY
  go_wp2_with fail
  rw [← HW4.out]
  clear HW4
  (with_reducible refine HM1.out.mono ?_)
  rintro e w5 ⟨u5, v5, rfl, hu5, hv5, b5⟩
  obtain ⟨A5, c5, rfl, hr5, _, _⟩ := hu5.rd HWU.out
  obtain ⟨A6, c6, rfl, hr6, _, _⟩ := hv5.rd HLB.out
  rw [HWL.out] at hr5 ⊢
  have HR5 := hid (fun (W : World) (hW : Below w5.heap.size w5 W) => hr5.keep (w' := W) fun p hp => hW.cell hp)
  have HR6 := hid (fun (W : World) (hW : Below w5.heap.size w5 W) => hr6.keep (w' := W) fun p hp => hW.cell hp)
  have HB5 := hid b5
  have HM2 := hid (HMP.out w5 ((HRB.out w5 (HB4.out.trans (b5.mono HB4.out.size))).more (Nat.le_trans HB4.out.size b5.size)) ((HRD.out w5 (HB4.out.trans (b5.mono HB4.out.size))).more (Nat.le_trans HB4.out.size b5.size)))
  clear hu5 hv5 hr5 hr6 b5 HM1
  go_wp2_with fail
  (with_reducible refine HM2.out.mono ?_)
  rintro e w6 ⟨u6, v6, rfl, hu6, hv6, b6⟩
  obtain ⟨A7, c7, rfl, hr7, _, _⟩ := hu6.rd HWU.out
  obtain ⟨A8, c8, rfl, hr8, _, _⟩ := hv6.rd HLB.out
  rw [HWL.out] at hr7 ⊢
  have HS1 := hid (same_any A5 nb c5 A7 c7 ws A6 L.length c6 A8 c8 L w6 w6.heap.size ((HR5.out w6 b6).more b6.size) hr7 ((HR6.out w6 b6).more b6.size) hr8 (Nat.le_refl _) (by have := HLN.out; omega))
  have HB6 := hid (HB5.out.trans (b6.mono HB5.out.size))
  clear hu6 hv6 hr7 hr8 b6 HM2 HR5 HR6 HB5
  go_wp2_with fail
  (with_reducible refine HS1.out.mono ?_)
  rintro e w7 ⟨rfl, b7⟩
  have HB7 := hid (HB6.out.trans (b7.mono HB6.out.size))
  have HM3 := hid (HMM.out w7 ((HRM.out w7 HB7.out).more HB7.out.size) ((HRL.out w7 HB7.out).more HB7.out.size))
  clear b7 HS1 HB6
  go_wp2_with fail
  (with_reducible refine HM3.out.mono ?_)
  rintro e w8 ⟨u8, v8, rfl, hu8, hv8, b8⟩
  obtain ⟨A9, c9, rfl, hr9, _, _⟩ := hu8.rd HWUm.out
  obtain ⟨A10, c10, rfl, hr10, _, _⟩ := hv8.rd HLBm.out
  rw [HWLm.out] at hr9 ⊢
  have HR9 := hid (fun (W : World) (hW : Below w8.heap.size w8 W) => hr9.keep (w' := W) fun p hp => hW.cell hp)
  have HR10 := hid (fun (W : World) (hW : Below w8.heap.size w8 W) => hr10.keep (w' := W) fun p hp => hW.cell hp)
  have HB8 := hid (HB7.out.trans (b8.mono HB7.out.size))
  have HM4 := hid (HMQ.out w8 ((HRM.out w8 HB8.out).more HB8.out.size) ((HRL.out w8 HB8.out).more HB8.out.size))
  clear hu8 hv8 hr9 hr10 b8 HM3 HB7
  go_wp2_with fail
  (with_reducible refine HM4.out.mono ?_)
  rintro e w9 ⟨u9, v9, rfl, hu9, hv9, b9⟩
  obtain ⟨A11, c11, rfl, hr11, _, _⟩ := hu9.rd HWUm.out
  obtain ⟨A12, c12, rfl, hr12, _, _⟩ := hv9.rd HLBm.out
  rw [HWLm.out] at hr11 ⊢
  have HS2 := hid (same_any A9 N c9 A11 c11 wm A10 Lm.length c10 A12 c12 Lm w9 w9.heap.size ((HR9.out w9 b9).more b9.size) hr11 ((HR10.out w9 b9).more b9.size) hr12 (Nat.le_refl _) (by have := HLNm.out; omega))
  have HB9 := hid (HB8.out.trans (b9.mono HB8.out.size))
  clear hu9 hv9 hr11 hr12 b9 HM4 HR9 HR10 HB8
  go_wp2_with fail
  (with_reducible refine HS2.out.mono ?_)
  rintro e w10 ⟨rfl, b10⟩
  have HB10 := hid (HB9.out.trans (b10.mono HB9.out.size))
  have HX10 := hid (HX4.out.below HB10.out HX4.out.lt)
  have HBW := hid (HB4.out.trans (HB10.out.mono HB4.out.size))
  have HT1 := hid (tells_any Ax nx cx xs Ay ny cy l i w10 w.heap.size (HRX.out w10 HBW.out) (HRY.out w10 HBW.out) HBW.out.size hxc hxm (by omega) (by omega) hi)
  have c0 := HX10.out.cell (i := 0) rfl
  have c1 := HX10.out.cell (i := 1) rfl
  clear b10 HS2 HB9
  go_wp2_with fail
  (with_reducible refine HT1.out.mono ?_)
  rintro e w11 ⟨rfl, b11⟩
  have HB11 := hid (HBW.out.trans (b11.mono HBW.out.size))
  have HX11 := hid (HX10.out.below b11 HX10.out.lt)
  have HM11 := hid ((HRM.out w11 (HB10.out.trans (b11.mono HB10.out.size))))
  have HT2 := hid (tells_any Ax nx cx xs Ay ny cy l ((k3 : Int) - 1) w11 w.heap.size (HRX.out w11 HB11.out) (HRY.out w11 HB11.out) HB11.out.size hxc hxm (by omega) (by omega) (by omega))
  have HC11 := hid (HB10.out.trans (b11.mono HB10.out.size))
  have d0 := HX11.out.cell (i := 0) rfl
  have d1 := HX11.out.cell (i := 1) rfl
  have hkw : IntKind.i64.wrap ((k3 : Int) - 1) = (k3 : Int) - 1 := by rw [IntWalk.i64_in _ (by omega)]
  clear b11 HT1 c0 c1
  go_wp2_with fail
  (with_reducible refine HT2.out.mono ?_)
  rintro e w12 ⟨rfl, b12⟩
  have HB12 := hid (HB11.out.trans (b12.mono HB11.out.size))
  have HC12 := hid (HC11.out.trans (b12.mono HC11.out.size))
  have HT3 := hid (tells_any Am N cm bz (some ⟨w3.heap.size, 0, none⟩) 5 5 l5 ((k3 : Int) - 1) w12 w12.heap.size ((HRM.out w12 HC12.out).more HC12.out.size) ((HRL.out w12 HC12.out).more HC12.out.size) (Nat.le_refl _) hcm hmm (by omega) (by omega) (by omega))
  clear b12 HT2 d0 d1
  go_wp2_with fail
  (with_reducible refine HT3.out.mono ?_)
  rintro e w13 ⟨rfl, b13⟩
  go_wp2
  go_ret
  exact ⟨rfl, HB12.out.trans (b13.mono HB12.out.size)⟩

theorem mediumBlocks_any (Ax : Option Addr) (nx cx : Nat) (xs : List Int) (Ay : Option Addr) (ny cy : Nat) (l : List Int) (Ab : Option Addr) (nb cb : Nat) (bs : List Int) (Ad : Option Addr) (nd cd : Nat) (bad : List Int) (i : Int) (A : Option Addr) (n c : Nat) (zs : List Int) (m k : Int) (w : World)
    (hx : Rd w w.heap.size Ax nx xs) (hxc : nx ≤ cx) (hxm : cx ≤ maxLen) (hy : RdI w w.heap.size Ay ny l) (hny : ny ≤ 140737488355328) (hb : Rd w w.heap.size Ab nb bs) (hbc : nb ≤ cb) (hbm : cb ≤ maxLen) (hd : RdI w w.heap.size Ad nd bad) (hnd : nd ≤ 140737488355328)
    (hi : -9223372036854775808 ≤ i ∧ i ≤ 9223372036854775807) (hr : Rd w w.heap.size A n zs) (hn : n ≤ maxLen) (hm : 0 ≤ m ∧ m ≤ 65535) (hk : 0 ≤ k ∧ k ≤ 255) :
    Calls Try.prog 5 #[.agg #[.slice Ax nx cx, .slice Ay ny cy], .slice Ab nb cb, .slice Ad nd cd, .int .i64 i, .slice A n c, .int .u16 m, .int .u8 k] w fun e w' => e = .returned (.bool true) ∧ Below w.heap.size w w' := by
  obtain ⟨m, rfl⟩ : ∃ j : Nat, m = j := ⟨m.toNat, by omega⟩
  obtain ⟨k, rfl⟩ : ∃ j : Nat, k = j := ⟨k.toNat, by omega⟩
  exact mediumBlocks_nat Ax nx cx xs Ay ny cy l Ab nb cb bs Ad nd cd bad i A n c zs m k w hx hxc hxm hy hny hb hbc hbm hd hnd hi hr hn (by omega) (by omega)
end Go.Proofs.Yteneknmbddnkaaa
