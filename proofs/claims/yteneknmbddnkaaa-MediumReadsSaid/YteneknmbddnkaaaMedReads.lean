/-
  MediumReads' walk.
-/
import Derived.Test.YteneknmbddnkaaaMedLaw
import Derived.Test.YteneknmbddnkaaaMedRefG
import Derived.Test.YteneknmbddnkaaaMedGather
import Derived.Test.YteneknmbddnkaaaMedStep
namespace Go.Proofs.Yteneknmbddnkaaa
open Go.RowKit Go.Lib

/-- A block of the document's, laid anew. -/
theorem set_five {w w' : World} {gt : Nat} {o : Obj} {a b c d e a' b' c' d' e' : Value} (hx : Blk w gt 41 [a, b, c, d, e])
    (hw : w' = (((((w.setCell ⟨gt, 0, none⟩ a').setCell ⟨gt, 1, none⟩ b').setCell ⟨gt, 2, none⟩ c').setCell ⟨gt, 3, none⟩ d').setCell ⟨gt, 4, none⟩ e').alloc o) :
    Blk w' gt 41 [a', b', c', d', e'] ∧ w.grownBy w' (some gt) := by
  subst hw
  exact ⟨(((((hx.set 0 a').set 1 b').set 2 c').set 3 d').set 4 e').alloc o,
    (((((grownBy_setCell w gt 0 a').trans (grownBy_setCell _ gt 1 b')).trans (grownBy_setCell _ gt 2 c')).trans (grownBy_setCell _ gt 3 d')).trans (grownBy_setCell _ gt 4 e')).trans (World.grownBy_alloc _ o (some gt))⟩
theorem OwnY.rdB {w : World} {b B : Nat} {A : Option Addr} {n c : Nat} {zs : List Int} (h : OwnY w b (.slice A n c) zs) (hn : zs.length = n) (hz : u8s zs) (hB : ∀ r, (Value.slice A n c).ownBlock = some r → r < B) : Rd w B A n zs := by
  obtain ⟨A', c', hv', hrd, _, _⟩ := h.rd hz
  rw [hn] at hv' hrd
  cases hv'
  refine ⟨hrd.len, hrd.bd, fun h0 => ?_⟩
  obtain ⟨b', off, e, _, hc⟩ := hrd.2.2 h0
  obtain ⟨g, cap, hv, _, _⟩ := World.ownsRow.form h (by omega)
  cases hv
  cases e
  exact ⟨b', 0, rfl, hB b' rfl, hc⟩

theorem OwnI.row {w : World} {b : Nat} {A : Option Addr} {c : Nat} {l : List Int} (h : OwnI w b (.slice A l.length c) l) (hz : i64s l) : RdI w w.heap.size A l.length l := by
  obtain ⟨A', c', hv', hrd, _, _⟩ := h.rd hz
  cases hv'
  exact hrd
theorem grown_of_drew {w w' : World} {row : Option Nat} (h : w.drew.grownBy w' row) : w.grownBy w' row := ⟨h.os, h.tape, h.output, h.size, h.block⟩
/-- Between two reads. -/
def RdsAt (w w2 : World) (g gt : Nat) (zs L sz : List Int) (u v s : Value) (wr : World) : Prop :=
  ∃ p t, Med wr g zs L sz p t ∧ Blk wr gt 41 [u, v, s, .int .i64 p, .int .i64 t] ∧ OwnY wr w2.heap.size u zs ∧ OwnI wr w2.heap.size v L ∧ Below w.heap.size w wr

set_option maxRecDepth 100000 in
set_option maxHeartbeats 8000000 in
theorem mediumReads_even (A : Option Addr) (n c : Nat) (zs : List Int) (m : Nat) (A1 : Option Addr) (n1 c1 : Nat) (bad : List Int) (en : Int) (A2 : Option Addr) (n2 c2 : Nat) (ss : List Int) (k jj : Nat) (w : World)
    (hr : Rd w w.heap.size A n zs) (hn : n ≤ maxLen) (hm : m ≤ 65535) (h1 : RdI w w.heap.size A1 n1 bad) (h2 : RdI w w.heap.size A2 n2 ss) (h6 : n1 + n2 ≤ 30) (hk : k ≤ 255) (hj : jj ≤ 255) (hn2c : n2 ≤ c2) (hcm : c2 ≤ maxLen) (hk0 : k % 2 = 0) :
    Calls Try.prog 6 #[.slice A n c, .int .u16 m, .slice A1 n1 c1, .int .i64 en, .slice A2 n2 c2, .int .u8 k, .int .u8 jj] w fun e w' => e = .returned (.bool true) ∧ Below w.heap.size w w' := by
  obtain ⟨en', hen⟩ : ∃ en' : Int, en' = (k : Int) * 20 := ⟨_, rfl⟩
  have he : -9223372036854775808 ≤ en' ∧ en' ≤ 9223372036854775807 := by omega
  have e1 : decide ((30 : Int) < (n1 : Int) + n2) = false := by rw [decide_eq_false_iff_not]; omega
  have hN1 : m % 3000 ≤ 2999 := by omega
  have HBY := hid (fun (W : World) (hb : Below w.heap.size w W) => bytes_any A n c zs m W w.heap.size (hr.keep (w' := W) fun p hp => hb.cell hp) hb.size hm hn)
  have HI1 := hid (fun W (hb : Below w.heap.size w W) => (h1.keep (w' := W) fun p hp => hb.cell hp))
  have HI2 := hid (fun W (hb : Below w.heap.size w W) => (h2.keep (w' := W) fun p hp => hb.cell hp))
  have HBL := hid (M.bytes_len zs (m % 3000))
  have HBU : Hid (u8s (M.bytes zs (m % 3000))) := hid (M.bytes_bd zs (m % 3000))
  clear hr h1 h2
  generalize M.bytes zs (m % 3000) = bz at *
  generalize m % 3000 = N at *
  have hmsN := M.cutN_le N en'
  have HNW := hid (fun (Ab : Option Addr) (cb : Nat) (W : World) (hb : Below w.heap.size w W) (hrr : Rd W W.heap.size Ab N bz) (q1 : N ≤ cb) (q2 : cb ≤ maxLen) => new_any Ab N cb bz A1 n1 c1 bad en' A2 n2 c2 ss W W.heap.size hrr ((HI1.out W hb).more hb.size) ((HI2.out W hb).more hb.size) (Nat.le_refl _) q1 q2 (by omega) (by omega) (by omega) he)
  have HNT := hid (fun (Ab : Option Addr) (cb : Nat) (W : World) (hb : Below w.heap.size w W) (hrr : Rd W W.heap.size Ab N bz) (q1 : N ≤ cb) (q2 : cb ≤ maxLen) => refNew_any Ab N cb bz A1 n1 c1 bad en' A2 n2 c2 W W.heap.size hrr ((HI1.out W hb).more hb.size) (Nat.le_refl _) q1 q2 (by omega) (by omega) he)
  have hszl := M.szs_len ss
  have HRS := hid (fun (Ax : Option Addr) (nx cx : Nat) (ys : List Int) (v1 : Value) (Ay : Option Addr) (ny cy : Nat) (hv : v1 = .slice Ay ny cy) (p t : Nat) (W : World) (B : Nat) (hB0 : w.heap.size ≤ B) (hBW : B ≤ W.heap.size) (hb : Below w.heap.size w W) (hrr : Rd W B Ax nx ys) (q1 : nx ≤ cx) (q2 : cx ≤ maxLen) (q3 : nx ≤ 1000000) (hp : p < nx) (ht : t < (M.szs ss).length) => by
    have h := refRead_some Ax nx cx ys Ay ny cy A2 n2 c2 ss p t W B hrr ((HI2.out W hb).more hB0) hBW q1 q2 q3 (by omega) hp ht
    unfold TRead at h
    rw [← hv] at h
    exact h)
  have hzl2 := hid (show ss.length = n2 from (HI2.out w (Below.refl _ _)).len)
  have HZ2 : Hid ((M.szs ss).length ≤ 31) := hid (by have := hszl.2; have := hzl2.out; omega)
  generalize M.szs ss = sz at *
  have HWL : Hid ((M.wipe (M.bads (M.cutN N en') bad) (bz.take (M.cutN N en'))).length = M.cutN N en') := hid (by rw [M.wipe_len, List.length_take, HBL.out]; omega)
  have HWU : Hid (u8s (M.wipe (M.bads (M.cutN N en') bad) (bz.take (M.cutN N en')))) := hid (M.wipe_bd fun z hz => HBU.out z (List.mem_of_mem_take hz))
  have HLB : Hid (i64s (M.bads (M.cutN N en') bad)) := hid (M.bads_bd (by omega))
  have HLN : Hid ((M.bads (M.cutN N en') bad).length ≤ 3000) := hid (by have := M.bads_le (M.cutN N en') bad; omega)
  generalize M.bads (M.cutN N en') bad = L at *
  generalize M.wipe L (bz.take (M.cutN N en')) = ws at *
  generalize M.cutN N en' = ms at *
  have hj6 : ((jj : Int)) % 6 = ((jj % 6 : Nat) : Int) := by omega
  have hj5 : jj % 6 ≤ 5 := by omega
  have hk2 : ((k : Int)) % 2 = 0 := by omega
  have hz2 : (((k : Int)) % 2 == 0) = true := by rw [hk2]; rfl
  have hen2 : (k : Int) * 20 = en' := hen.symm
  clear hen
  generalize hJ : jj % 6 = J at *
  go_enter Try.func6, Try.ntmps6
  go_wp2_with fail
  (with_reducible refine (known_any _).mono ?_)
  rintro e w0 ⟨rfl, b0⟩
  have HB0 := hid b0
  clear b0
  go_wp2_with fail
  (with_reducible refine (HBY.out w0 HB0.out).mono ?_)
  rintro e w1 ⟨v1, rfl, hv1, b1⟩
  obtain ⟨Ab, cb, rfl, hrb, hcb, hmb⟩ := hv1.rd HBU.out
  rw [HBL.out] at hrb hcb ⊢
  have hb1 := HB0.out.trans (b1.mono HB0.out.size)
  have HN := hid (HNW.out Ab cb w1 hb1 hrb hcb hmb)
  have HNT1 := hid (fun (W : World) (hW : Below w1.heap.size w1 W) => HNT.out Ab cb W (hb1.trans (hW.mono hb1.size)) ((hrb.keep (w' := W) fun p hp => hW.cell hp).more hW.size) hcb hmb)
  have HB1 := hid hb1
  clear hv1 hrb b1 hb1 HNW HNT HBY
  go_wp2_with fail
  (with_reducible refine HN.out.mono ?_)
  rintro e w2 ⟨g, rfl, hg, hmed, b2⟩
  have HB2 := hid b2
  have HM2 := hid hmed
  have HG2 := hid (Nat.le_trans HB1.out.size hg)
  have HNT2 := hid (HNT1.out w2 b2)
  clear hmed b2 hg HN HNT1
  go_wp2_with fail
  (with_reducible refine HNT2.out.mono ?_)
  rintro e w3 ⟨u, v, rfl, hu, hv, b3⟩
  obtain ⟨Au, cu, rfl, hcu, hmu⟩ := own_room hu
  obtain ⟨Av, cv, rfl, hcv, hmv⟩ := own_room hv
  rw [HWL.out] at hu hcu ⊢
  obtain ⟨w4, hw4⟩ : ∃ w4, w4 = w3.alloc (.cells #[.slice Au ms cu, .slice Av L.length cv, .slice A2 n2 c2, .int .i64 0, .int .i64 0] 41) := ⟨_, rfl⟩
  have hb4 : Below w3.heap.size w3 w4 := by rw [hw4]; exact (Below.refl _ _).alloc (Nat.le_refl _) _
  have hx4 : Blk w4 w3.heap.size 41 [.slice Au ms cu, .slice Av L.length cv, .slice A2 n2 c2, .int .i64 0, .int .i64 0] := by rw [hw4]; exact Blk.new w3 _ _
  have hb24 : Below w2.heap.size w2 w4 := b3.trans (hb4.mono b3.size)
  have hg2 := HM2.out.lt
  have hgt : w2.heap.size ≤ w3.heap.size := b3.size
  have HUB := hid (World.ownsRow.lt hu)
  have HVB := hid (World.ownsRow.lt hv)
  have hwgt : w.heap.size ≤ w3.heap.size := Nat.le_trans (Nat.le_trans HB1.out.size HB2.out.size) b3.size
  have hb14 := HB1.out.trans ((HB2.out.trans (hb24.mono HB2.out.size)).mono HB1.out.size)
  have H0 : Hid (RdsAt w w2 g w3.heap.size ws L sz (.slice Au ms cu) (.slice Av L.length cv) (.slice A2 n2 c2) w4) := hid ⟨0, 0, HM2.out.later hb24, hx4, hu.later hb4, hv.later hb4, hb14⟩
  clear hu hv b3 hb4 hx4 hb24 hb14 HNT2
  have HW4 := hid hw4
  clear hw4
  go_wp2_with fail
  rw [← HW4.out]
  clear HW4
  generalize hgq : w3.heap.size = gt at *
  clear hgq
  go_loopw [18] (fun i wr => ∃ j : Nat, j ≤ J ∧ i = .int .i64 j ∧ RdsAt w w2 g gt ws L sz (.slice Au ms cu) (.slice Av L.length cv) (.slice A2 n2 c2) wr) (fun i _ => J - (intOf i).toNat)
  case atStart => exact ⟨0, Nat.zero_le _, rfl, H0.out⟩
  case round =>
    clear H0
    obtain ⟨j, hjJ, rfl, p, t, hM, hx, hu, hv, hb⟩ := hrel
    have hpl := hM.place
    rw [HWL.out] at hpl
    have htn := hM.turn
    have hgw := HG2.out
    by_cases hlt : j < J
    · have e2 : decide ((j : Int) < (J : Int)) = true := by rw [decide_eq_true_eq]; omega
      by_cases hp : p < ms
      · have HRD := hid (read_some g ws L sz p t wr hM (by rw [HWL.out]; exact hp))
        unfold ReadPost at HRD
        rw [HWL.out] at HRD
        have hq0 := M.pc_pos sz t (left := ms - p) (by omega)
        have hq1 := M.pc_le sz t (ms - p)
        have HTR := hid (fun (W : World) (hBW : gt ≤ W.heap.size) (hb : Below w.heap.size w W) (hrr : Rd W gt Au ms ws) => HRS.out Au ms cu ws (.slice Av L.length cv) Av L.length cv rfl p t W gt hwgt hBW hb hrr hcu hmu (by omega) hp htn)
        generalize M.pc sz t (ms - p) = q at *
        generalize (t + 1) % sz.length = t' at *
        generalize hpq : p + q = r at *
        have HPQ := hid hpq
        have hr2 : r ≤ ms := by omega
        clear hpq
        have hpb : (M.pbytes ws p q).length = q := by unfold M.pbytes; rw [List.length_take, List.length_drop, HWL.out]; omega
        have hpu : u8s (M.pbytes ws p q) := fun z hz => HWU.out z (List.mem_of_mem_drop (List.mem_of_mem_take hz))
        have HPB := hid hpb
        have HPU := hid hpu
        generalize M.pbytes ws p q = ps at *
        have HX := hid hx
        have HU := hid hu
        have HV := hid hv
        have HB := hid hb
        clear hpb hpu hx hu hv hb hM
        go_wp2_with fail
        (with_reducible refine HRD.out.mono ?_)
        rintro e w5 ⟨v5, rfl, hv5, hM5, hG5⟩
        obtain ⟨A5, c5, rfl, hr5, _, _⟩ := hv5.rd HPU.out
        rw [HPB.out] at hr5 ⊢
        have hx5 := HX.out.grown hG5 (fun e => by injection e with e; omega)
        have hu5 := HU.out.grown hG5 (.inr (HU.out.apart hg2))
        have hvv5 := HV.out.grown hG5 (.inr (HV.out.apart hg2))
        have hb5 : Below w.heap.size w w5 := below_grown HB.out hG5 HB.out.size (fun r e => by injection e with e; omega)
        have hrw : Rd w5 gt Au ms ws := hu5.rdB HWL.out HWU.out (fun r hr => (HUB.out r hr).2)
        have HT := hid (HTR.out w5 (Nat.le_of_lt hx5.lt) hb5 hrw)
        have d0 := hx5.cell (i := 0) rfl
        have d1 := hx5.cell (i := 1) rfl
        have d2 := hx5.cell (i := 2) rfl
        have d3 := hx5.cell (i := 3) rfl
        have d4 := hx5.cell (i := 4) rfl
        have HX5 := hid hx5
        have HU5 := hid hu5
        have HV5 := hid hvv5
        have HB5 := hid hb5
        have HM5 := hid hM5
        have HR5 := hid (show OwnY w5 wr.heap.size (.slice A5 q c5) ps from by have h := hv5; rw [HPB.out] at h; exact h)
        have hgtr := HX.out.lt
        clear hv5 hM5 hG5 hr5 hx5 hu5 hvv5 hb5 hrw HRD HTR
        go_wp2_with fail
        (with_reducible refine HT.out.mono ?_)
        rintro e w6 ⟨A6, c6, rfl, hr6, b6⟩
        have hx6 := HX5.out.below b6 HX5.out.lt
        have hnew : ∃ w7, w7 = (((((w6.setCell ⟨gt, 0, none⟩ (.slice Au ms cu)).setCell ⟨gt, 1, none⟩ (.slice Av L.length cv)).setCell ⟨gt, 2, none⟩ (.slice A2 n2 c2)).setCell ⟨gt, 3, none⟩ (.int .i64 r)).setCell ⟨gt, 4, none⟩ (.int .i64 t')).alloc (.cells #[.slice Au ms cu, .slice Av L.length cv, .slice A2 n2 c2, .int .i64 r, .int .i64 t'] 41) := ⟨_, rfl⟩
        obtain ⟨w7, hw7⟩ := hnew
        obtain ⟨hb7, hg67⟩ := set_five hx6 hw7
        have k0 := hx6.cell (i := 0) rfl
        have k1 := hx6.cell (i := 1) rfl
        have k2 := hx6.cell (i := 2) rfl
        have k3 := hx6.cell (i := 3) rfl
        have k4 := hx6.cell (i := 4) rfl
        have q0 := hx6.frozen 0
        have q1 := hx6.frozen 1
        have q2 := hx6.frozen 2
        have q3 := hx6.frozen 3
        have q4 := hx6.frozen 4
        have hgtl := hx6.lt
        have HW7 := hid hw7
        have hb67 : Below gt w6 w7 := ⟨hg67.os, hg67.tape, hg67.output, hg67.size, fun k hk => hg67.block k (by omega) (fun e => by injection e with e; omega)⟩
        have hb56 := b6
        have hr67 : OwnY w7 wr.heap.size (.slice A5 q c5) ps := (HR5.out.later b6).grown hg67 (.inr ((HR5.out.later b6).apart hgtr))
        have cv5 := run_str (hr67.rdB HPB.out HPU.out (B := w7.heap.size) (fun r hr => (World.ownsRow.lt hr67 r hr).2)) c5
        have cv6 := run_str (hr6.keep (w' := w7) fun q hq => hb67.cell hq) c6
        have hne := strOf_eq ps
        generalize strOf ps = S at *
        have hu7 : OwnY w7 w2.heap.size (.slice Au ms cu) ws := (HU5.out.later b6).grown hg67 (.inr (fun e => by have := (HUB.out _ e).2; omega))
        have hv7 : OwnI w7 w2.heap.size (.slice Av L.length cv) L := (HV5.out.later b6).grown hg67 (.inr (fun e => by have := (HVB.out _ e).2; omega))
        have hm7 : Med w7 g ws L sz r t' := (HM5.out.later b6).kept (fun k hk => hg67.block k (by omega) (fun e => by injection e with e; omega))
        have HU7 := hid hu7
        have HV7 := hid hv7
        have HM7 := hid hm7
        have HX7 := hid hb7
        have HB7 := hid (below_grown (HB5.out.trans (b6.mono HB5.out.size)) hg67 (Nat.le_trans HB5.out.size b6.size) (fun r e => by injection e with e; omega))
        clear hw7 hr67 hu7 hv7 hm7 hb67 hb56 b6 hr6 hx6
        go_upto_region 14 with (fail)
        rw [← HW7.out]
        clear k0 k1 k2 k3 k4 q0 q1 q2 q3 q4 d0 d1 d2 d3 d4
        go_wp2
        go_roundw
        case rel => exact ⟨j + 1, by omega, by go_num, r, t', HM7.out, HX7.out, HU7.out, HV7.out, HB7.out⟩
        case measure => simp [intOf]; omega
      · obtain rfl : p = ms := by omega
        have HRD := hid (read_none g ws L sz t wr (by rw [HWL.out]; exact hM))
        have htb : t ≤ 1000000 := by have := HZ2.out; omega
        have HX := hid hx
        have HU := hid hu
        have HV := hid hv
        have HB := hid hb
        have HM := hid hM
        clear hx hu hv hb hM
        go_wp2_with fail
        (with_reducible refine HRD.out.mono ?_)
        rintro e w5 ⟨rfl, b5⟩
        have hx5 := HX.out.below b5 HX.out.lt
        have HT := hid (refRead_none Au p cu Av L.length cv A2 n2 c2 t w5 (by omega) htb)
        have d0 := hx5.cell (i := 0) rfl
        have d1 := hx5.cell (i := 1) rfl
        have d2 := hx5.cell (i := 2) rfl
        have d3 := hx5.cell (i := 3) rfl
        have d4 := hx5.cell (i := 4) rfl
        have HX5 := hid hx5
        have HU5 := hid (HU.out.later b5)
        have HV5 := hid (HV.out.later b5)
        have HB5 := hid (HB.out.trans (b5.mono HB.out.size))
        have HM5 := hid (HM.out.later b5)
        clear b5 hx5 HRD
        go_wp2_with fail
        (with_reducible refine HT.out.mono ?_)
        rintro e w6 ⟨rfl, b6⟩
        have hx6 := HX5.out.below b6 HX5.out.lt
        have hnew : ∃ w7, w7 = (((((w6.setCell ⟨gt, 0, none⟩ (.slice Au p cu)).setCell ⟨gt, 1, none⟩ (.slice Av L.length cv)).setCell ⟨gt, 2, none⟩ (.slice A2 n2 c2)).setCell ⟨gt, 3, none⟩ (.int .i64 p)).setCell ⟨gt, 4, none⟩ (.int .i64 t)).alloc (.cells #[.slice Au p cu, .slice Av L.length cv, .slice A2 n2 c2, .int .i64 p, .int .i64 t] 41) := ⟨_, rfl⟩
        obtain ⟨w7, hw7⟩ := hnew
        obtain ⟨hb7, hg67⟩ := set_five hx6 hw7
        have k0 := hx6.cell (i := 0) rfl
        have k1 := hx6.cell (i := 1) rfl
        have k2 := hx6.cell (i := 2) rfl
        have k3 := hx6.cell (i := 3) rfl
        have k4 := hx6.cell (i := 4) rfl
        have q0 := hx6.frozen 0
        have q1 := hx6.frozen 1
        have q2 := hx6.frozen 2
        have q3 := hx6.frozen 3
        have q4 := hx6.frozen 4
        have hgtl := hx6.lt
        have HW7 := hid hw7
        have cv5 := run_str (Rd.none_ (w := w7) (B := 0) (A := none)) 0
        have hne := strOf_eq []
        generalize strOf [] = S at *
        have hu7 : OwnY w7 w2.heap.size (.slice Au p cu) ws := (HU5.out.later b6).grown hg67 (.inr (fun e => by have := (HUB.out _ e).2; omega))
        have hv7 : OwnI w7 w2.heap.size (.slice Av L.length cv) L := (HV5.out.later b6).grown hg67 (.inr (fun e => by have := (HVB.out _ e).2; omega))
        have hm7 : Med w7 g ws L sz p t := (HM5.out.later b6).kept (fun k hk => hg67.block k (by omega) (fun e => by injection e with e; omega))
        have HU7 := hid hu7
        have HV7 := hid hv7
        have HM7 := hid hm7
        have HX7 := hid hb7
        have HB7 := hid (below_grown (HB5.out.trans (b6.mono HB5.out.size)) hg67 (Nat.le_trans HB5.out.size b6.size) (fun r e => by injection e with e; omega))
        clear hw7 hu7 hv7 hm7 b6 hx6
        go_upto_region 14 with (fail)
        rw [← HW7.out]
        clear k0 k1 k2 k3 k4 q0 q1 q2 q3 q4 d0 d1 d2 d3 d4
        go_wp2
        go_roundw
        case rel => exact ⟨j + 1, by omega, by go_num, p, t, HM7.out, HX7.out, HU7.out, HV7.out, HB7.out⟩
        case measure => simp [intOf]; omega
    · have e2 : decide ((j : Int) < (J : Int)) = false := by rw [decide_eq_false_iff_not]; omega
      have htb : t ≤ 1000000 := by have := HZ2.out; omega
      have HSP := hid (spoilt_any g ws L sz p t wr hM)
      have HX := hid hx
      have HU := hid hu
      have HV := hid hv
      have HB := hid hb
      have HM := hid hM
      clear hx hu hv hb hM
      go_wp2_with fail
      (with_reducible refine HSP.out.mono ?_)
      rintro e w5 ⟨vl, rfl, hl, b5⟩
      obtain ⟨Al, cl, rfl, _, _⟩ := own_room hl
      have hx5 := HX.out.below b5 HX.out.lt
      have hu5 := HU.out.later b5
      have hv5 := HV.out.later b5
      have d0 := hx5.cell (i := 0) rfl
      have d1 := hx5.cell (i := 1) rfl
      have d2 := hx5.cell (i := 2) rfl
      have d3 := hx5.cell (i := 3) rfl
      have d4 := hx5.cell (i := 4) rfl
      have HT := hid (refGather_any Au ms cu ws Av L.length cv A2 n2 c2 p t w5 gt (hu5.rdB HWL.out HWU.out (fun r hr => (HUB.out r hr).2)) hcu hmu (by omega) hpl htb)
      have HU5 := hid hu5
      have HX5 := hid hx5
      have HV5 := hid hv5
      have HL5 := hid hl
      have HB5 := hid (HB.out.trans (b5.mono HB.out.size))
      have HM5 := hid (HM.out.later b5)
      have hwr := HX.out.lt
      clear b5 hx5 hu5 hv5 hl HSP
      go_wp2_with fail
      (with_reducible refine HT.out.mono ?_)
      rintro e w6 ⟨rfl, b6⟩
      obtain ⟨A6, hA6⟩ : ∃ A6, A6 = cutA Au cu p := ⟨_, rfl⟩
      rw [← hA6]
      obtain ⟨Ay, ny, cy, hys, hny, hyr⟩ : ∃ Ay ny cy, (if p = 0 then Value.slice Av L.length cv else .slice none 0 0) = .slice Ay ny cy ∧ ny = (if p = 0 then L else []).length ∧ ∀ W, OwnI W w2.heap.size (.slice Av L.length cv) L → RdI W W.heap.size Ay ny (if p = 0 then L else []) := by
        by_cases h0 : p = 0
        · rw [if_pos h0, if_pos h0]
          exact ⟨_, _, _, rfl, rfl, fun W h => h.row HLB.out⟩
        · rw [if_neg h0, if_neg h0]
          exact ⟨none, 0, 0, rfl, rfl, fun W h => RdI.none_⟩
      rw [hys]
      clear hys
      obtain ⟨w7, hw7⟩ : ∃ w7, w7 = (w6.alloc (.cells #[.slice Au ms cu, .slice Av L.length cv, .slice A2 n2 c2, .int .i64 ms, .int .i64 t] 41)).alloc (.cells #[.slice A6 (ms - p) (cu - p), .slice Ay ny cy] 27) := ⟨_, rfl⟩
      have hb7 : Below w6.heap.size w6 w7 := by rw [hw7]; exact ((Below.refl _ _).alloc (Nat.le_refl _) _).alloc (by simp) _
      have hy7 : Blk w7 (w6.heap.size + 1) 27 [.slice A6 (ms - p) (cu - p), .slice Ay ny cy] := by
        rw [hw7]
        have := Blk.new (w6.alloc (.cells #[.slice Au ms cu, .slice Av L.length cv, .slice A2 n2 c2, .int .i64 ms, .int .i64 t] 41)) 27 [.slice A6 (ms - p) (cu - p), .slice Ay ny cy]
        rwa [World.size_alloc] at this
      have hb57 : Below w5.heap.size w5 w7 := b6.trans (hb7.mono b6.size)
      have hx7 := HX5.out.below hb57 HX5.out.lt
      have y0 := hy7.cell (i := 0) rfl
      have y1 := hy7.cell (i := 1) rfl
      have y2 := hx7.cell (i := 1) rfl
      have hdl : (ws.drop p).length = ms - p := by rw [List.length_drop, HWL.out]
      have HDL := hid hdl
      have HDU : Hid (u8s (ws.drop p)) := hid (fun z hz => HWU.out z (List.mem_of_mem_drop hz))
      have HLE : Hid (i64s (if p = 0 then L else [])) := hid (by split; exact HLB.out; intro z hz; simp at hz)
      have HLN' : Hid ((if p = 0 then L else []).length = ny) := hid hny.symm
      have HNY : Hid (ny ≤ 1000000) := hid (by rw [hny]; have := HLN.out; split; omega; simp)
      have hga := gather_any g ws L sz p t w7.drew (HM5.out.later (below_drew' hb57))
      unfold GatherPost at hga
      have HGA := hid hga
      have HG67 := hid (show g < w6.heap.size from Nat.lt_of_lt_of_le HM5.out.lt b6.size)
      have hgtw : gt ≤ w7.heap.size := Nat.le_of_lt hx7.lt
      have hgt5 := HX5.out.lt
      have hs57 := hb57.size
      have hgg : g < gt := by omega
      have HU7 := hid (HU5.out.later hb57)
      have HV7 := hid (HV5.out.later hb57)
      have HL7 := hid (HL5.out.later hb57)
      have HYR := hid hyr
      have HRB := hid (fun (W : World) (hO : OwnY W w2.heap.size (.slice Au ms cu) ws) (hg : gt ≤ W.heap.size) => show Rd W W.heap.size A6 (ms - p) (ws.drop p) from by rw [hA6]; exact ((hO.rdB HWL.out HWU.out (fun r hr => (HUB.out r hr).2)).cut hpl hcu).more hg)
      have HB7 := hid (HB5.out.trans (hb57.mono HB5.out.size))
      have HW7 := hid hw7
      clear hw7 hb7 hy7 hb57 hx7 hdl hny hyr hga b6 HT hA6
      go_wp2_with fail
      rw [← HW7.out]
      clear HW7 d0 d1 d2 d3 d4
      refine wp_region_held_drew (S := fun W => W.cell? ⟨w6.heap.size + 1, 0, none⟩ = some (.slice A6 (ms - p) (cu - p)) ∧ W.cell? ⟨w6.heap.size + 1, 1, none⟩ = some (.slice Ay ny cy) ∧ W.cell? ⟨gt, 1, none⟩ = some (.slice Av L.length cv)) (by kernel_rfl) ⟨y0, y1, y2⟩ (fun hS => ?_)
      refine takeH (i := 0) (v := ?_) 93 rfl rfl (by kernel_rfl) (by kernel_rfl) (by kernel_rfl) (fun _ _ _ h => h) (by rfl) ?hye0 hS ?reste0
      case hye0 => (intro W hW; have f0 := hW.1; have f1 := hW.2.1; have f2 := hW.2.2; clear hW; go_simp; first | done | with_reducible rfl)
      try simp only [Act.put, List.setIfInBounds_toArray, List.set_cons_zero, List.set_cons_succ]
      refine takeH (i := 2) (v := ?_) 95 rfl rfl (by kernel_rfl) (by kernel_rfl) (by kernel_rfl) (fun _ _ _ h => h) (by rfl) ?hye2 hS ?reste2
      case hye2 => (intro W hW; have f0 := hW.1; have f1 := hW.2.1; have f2 := hW.2.2; clear hW; go_simp; first | done | with_reducible rfl)
      try simp only [Act.put, List.setIfInBounds_toArray, List.set_cons_zero, List.set_cons_succ]
      refine loneH (i := 1) 94 rfl rfl (by kernel_rfl) (by rfl) (fun K hK => ?_)
      go_simp
      (with_reducible refine HGA.out.mono ?_)
      rintro e w8 ⟨u8, v8, rfl, hu8, hv8, _, hG8⟩
      obtain ⟨A8, c8, rfl, hr8, _, _⟩ := hu8.rd HDU.out
      obtain ⟨A9, c9, rfl, hr9, _, _⟩ := hv8.rd HLE.out
      rw [HDL.out] at hr8 ⊢
      rw [HLN'.out] at hr9 ⊢
      have z0 := World.grownBy.cell hG8 hS.1 (fun e => by injection e with e; have := HG67.out; simp at e; omega)
      have z1 := World.grownBy.cell hG8 hS.2.1 (fun e => by injection e with e; have := HG67.out; simp at e; omega)
      have z2 := World.grownBy.cell hG8 hS.2.2 (fun e => by injection e with e; simp at e; omega)
      have hu8b : OwnY w8 w2.heap.size (.slice Au ms cu) ws := (HU7.out.grown (World.grownBy.refl w7 (some g)) (.inr (HU7.out.apart hg2))).grown (grown_of_drew hG8) (.inr (HU7.out.apart hg2))
      have hv8b : OwnI w8 w2.heap.size (.slice Av L.length cv) L := HV7.out.grown (grown_of_drew hG8) (.inr (HV7.out.apart hg2))
      have hl8b : OwnI w8 wr.heap.size (.slice Al L.length cl) L := HL7.out.grown (grown_of_drew hG8) (.inr (HL7.out.apart (by omega)))
      have hgt8 : gt ≤ w8.heap.size := Nat.le_trans hgtw hG8.size
      have HSA := hid (same_any A8 (ms - p) c8 A6 (cu - p) (ws.drop p) A9 ny c9 Ay cy (if p = 0 then L else []) w8 w8.heap.size hr8 (HRB.out w8 hu8b hgt8) hr9 (HYR.out w8 hv8b) (Nat.le_refl _) HNY.out)
      have HSB := hid (fun (W : World) (hW : Below w8.heap.size w8 W) => same_any none 0 0 none 0 [] Al L.length cl Av cv L W w8.heap.size Rd.none_ Rd.none_ ((hl8b.row HLB.out).keep (w' := W) fun p hp => hW.cell hp) ((hv8b.row HLB.out).keep (w' := W) fun p hp => hW.cell hp) hW.size (by have := HLN.out; omega))
      have HB8 := hid (below_grown HB7.out (World.grownBy.trans (grown_drew (World.grownBy.refl w7 (some g))) hG8) HB7.out.size (fun r e => by injection e with e; omega))
      clear hS hu8 hv8 hr8 hr9 hG8
      refine hK.out _ _ ⟨z0, z1, z2⟩ (fun hS => ?_)
      clear hK K
      try simp only [Act.put, List.setIfInBounds_toArray, List.set_cons_zero, List.set_cons_succ]
      refine loneH (i := 3) 96 rfl rfl (by kernel_rfl) (by rfl) (fun K hK => ?_)
      go_simp
      (with_reducible refine HSA.out.mono ?_)
      rintro e w9 ⟨rfl, bb⟩
      have z0 := (bb.cell (p := ⟨w6.heap.size + 1, 0, none⟩) (World.block_lt_of_cell? _ _ hS.1)).trans hS.1
      have z1 := (bb.cell (p := ⟨w6.heap.size + 1, 1, none⟩) (World.block_lt_of_cell? _ _ hS.2.1)).trans hS.2.1
      have z2 := (bb.cell (p := ⟨gt, 1, none⟩) (World.block_lt_of_cell? _ _ hS.2.2)).trans hS.2.2
      have B9 := bb
      clear bb hS
      refine hK.out _ _ ⟨z0, z1, z2⟩ (fun hS => ?_)
      clear hK K
      try simp only [Act.put, List.setIfInBounds_toArray, List.set_cons_zero, List.set_cons_succ]
      refine takeH (i := 4) (v := ?_) 97 rfl rfl (by kernel_rfl) (by kernel_rfl) (by kernel_rfl) (fun _ _ _ h => h) (by rfl) ?hye4 hS ?reste4
      case hye4 => (intro W hW; have f0 := hW.1; have f1 := hW.2.1; have f2 := hW.2.2; clear hW; go_simp; first | done | with_reducible rfl)
      try simp only [Act.put, List.setIfInBounds_toArray, List.set_cons_zero, List.set_cons_succ]
      refine takeH (i := 5) (v := ?_) 98 rfl rfl (by kernel_rfl) (by kernel_rfl) (by kernel_rfl) (fun _ _ _ h => h) (by rfl) ?hye5 hS ?reste5
      case hye5 => (intro W hW; have f0 := hW.1; have f1 := hW.2.1; have f2 := hW.2.2; clear hW; go_simp; first | done | with_reducible rfl)
      try simp only [Act.put, List.setIfInBounds_toArray, List.set_cons_zero, List.set_cons_succ]
      refine takeH (i := 6) (v := ?_) 99 rfl rfl (by kernel_rfl) (by kernel_rfl) (by kernel_rfl) (fun _ _ _ h => h) (by rfl) ?hye6 hS ?reste6
      case hye6 => (intro W hW; have f0 := hW.1; have f1 := hW.2.1; have f2 := hW.2.2; clear hW; go_simp; first | done | with_reducible rfl)
      try simp only [Act.put, List.setIfInBounds_toArray, List.set_cons_zero, List.set_cons_succ]
      refine takeH (i := 7) (v := ?_) 100 rfl rfl (by kernel_rfl) (by kernel_rfl) (by kernel_rfl) (fun _ _ _ h => h) (by rfl) ?hye7 hS ?reste7
      case hye7 => (intro W hW; have f0 := hW.1; have f1 := hW.2.1; have f2 := hW.2.2; clear hW; go_simp; first | done | with_reducible rfl)
      try simp only [Act.put, List.setIfInBounds_toArray, List.set_cons_zero, List.set_cons_succ]
      refine takeH (i := 8) (v := ?_) 101 rfl rfl (by kernel_rfl) (by kernel_rfl) (by kernel_rfl) (fun _ _ _ h => h) (by rfl) ?hye8 hS ?reste8
      case hye8 => (intro W hW; have f0 := hW.1; have f1 := hW.2.1; have f2 := hW.2.2; clear hW; go_simp; first | done | with_reducible rfl)
      try simp only [Act.put, List.setIfInBounds_toArray, List.set_cons_zero, List.set_cons_succ]
      refine takeH (i := 9) (v := ?_) 102 rfl rfl (by kernel_rfl) (by kernel_rfl) (by kernel_rfl) (fun _ _ _ h => h) (by rfl) ?hye9 hS ?reste9
      case hye9 => (intro W hW; have f0 := hW.1; have f1 := hW.2.1; have f2 := hW.2.2; clear hW; go_simp; first | done | with_reducible rfl)
      try simp only [Act.put, List.setIfInBounds_toArray, List.set_cons_zero, List.set_cons_succ]
      refine takeH (i := 10) (v := ?_) 103 rfl rfl (by kernel_rfl) (by kernel_rfl) (by kernel_rfl) (fun _ _ _ h => h) (by rfl) ?hye10 hS ?reste10
      case hye10 => (intro W hW; have f0 := hW.1; have f1 := hW.2.1; have f2 := hW.2.2; clear hW; go_simp; first | done | with_reducible rfl)
      try simp only [Act.put, List.setIfInBounds_toArray, List.set_cons_zero, List.set_cons_succ]
      refine loneH (i := 11) 104 rfl rfl (by kernel_rfl) (by rfl) (fun K hK => ?_)
      go_simp
      (with_reducible refine (HSB.out _ B9).mono ?_)
      rintro e w10 ⟨rfl, bb⟩
      have z0 := (bb.cell (p := ⟨w6.heap.size + 1, 0, none⟩) (World.block_lt_of_cell? _ _ hS.1)).trans hS.1
      have z1 := (bb.cell (p := ⟨w6.heap.size + 1, 1, none⟩) (World.block_lt_of_cell? _ _ hS.2.1)).trans hS.2.1
      have z2 := (bb.cell (p := ⟨gt, 1, none⟩) (World.block_lt_of_cell? _ _ hS.2.2)).trans hS.2.2
      have B10 := B9.trans (bb.mono B9.size)
      clear bb hS
      refine hK.out _ _ ⟨z0, z1, z2⟩ (fun hS => ?_)
      clear hK K
      try simp only [Act.put, List.setIfInBounds_toArray, List.set_cons_zero, List.set_cons_succ]
      refine takeH (i := 12) (v := ?_) 105 rfl rfl (by kernel_rfl) (by kernel_rfl) (by kernel_rfl) (fun _ _ _ h => h) (by rfl) ?hye12 hS ?reste12
      case hye12 => (intro W hW; have f0 := hW.1; have f1 := hW.2.1; have f2 := hW.2.2; clear hW; go_simp; first | done | with_reducible rfl)
      try simp only [Act.put, List.setIfInBounds_toArray, List.set_cons_zero, List.set_cons_succ]
      refine takeH (i := 13) (v := ?_) 14 rfl rfl (by kernel_rfl) (by kernel_rfl) (by kernel_rfl) (fun _ _ _ h => h) (by rfl) ?hye13 hS ?reste13
      case hye13 => (intro W hW; have f0 := hW.1; have f1 := hW.2.1; have f2 := hW.2.2; clear hW; go_simp; first | done | with_reducible rfl)
      try simp only [Act.put, List.setIfInBounds_toArray, List.set_cons_zero, List.set_cons_succ]
      refine wpAnyH_done (by kernel_rfl) ?_ _
      go_wp2
      go_ret
      exact ⟨rfl, HB8.out.trans (B10.mono HB8.out.size)⟩

set_option maxRecDepth 100000 in
set_option maxHeartbeats 8000000 in
theorem mediumReads_odd (A : Option Addr) (n c : Nat) (zs : List Int) (m : Nat) (A1 : Option Addr) (n1 c1 : Nat) (bad : List Int) (en' : Int) (A2 : Option Addr) (n2 c2 : Nat) (ss : List Int) (k jj : Nat) (w : World)
    (hr : Rd w w.heap.size A n zs) (hn : n ≤ maxLen) (hm : m ≤ 65535) (h1 : RdI w w.heap.size A1 n1 bad) (h2 : RdI w w.heap.size A2 n2 ss) (h6 : n1 + n2 ≤ 30) (hk : k ≤ 255) (hj : jj ≤ 255) (hn2c : n2 ≤ c2) (hcm : c2 ≤ maxLen)
    (he : -9223372036854775808 ≤ en' ∧ en' ≤ 9223372036854775807) (hk1 : k % 2 = 1) :
    Calls Try.prog 6 #[.slice A n c, .int .u16 m, .slice A1 n1 c1, .int .i64 en', .slice A2 n2 c2, .int .u8 k, .int .u8 jj] w fun e w' => e = .returned (.bool true) ∧ Below w.heap.size w w' := by
  have e1 : decide ((30 : Int) < (n1 : Int) + n2) = false := by rw [decide_eq_false_iff_not]; omega
  have hN1 : m % 3000 ≤ 2999 := by omega
  have HBY := hid (fun (W : World) (hb : Below w.heap.size w W) => bytes_any A n c zs m W w.heap.size (hr.keep (w' := W) fun p hp => hb.cell hp) hb.size hm hn)
  have HI1 := hid (fun W (hb : Below w.heap.size w W) => (h1.keep (w' := W) fun p hp => hb.cell hp))
  have HI2 := hid (fun W (hb : Below w.heap.size w W) => (h2.keep (w' := W) fun p hp => hb.cell hp))
  have HBL := hid (M.bytes_len zs (m % 3000))
  have HBU : Hid (u8s (M.bytes zs (m % 3000))) := hid (M.bytes_bd zs (m % 3000))
  clear hr h1 h2
  generalize M.bytes zs (m % 3000) = bz at *
  generalize m % 3000 = N at *
  have hmsN := M.cutN_le N en'
  have HNW := hid (fun (Ab : Option Addr) (cb : Nat) (W : World) (hb : Below w.heap.size w W) (hrr : Rd W W.heap.size Ab N bz) (q1 : N ≤ cb) (q2 : cb ≤ maxLen) => new_any Ab N cb bz A1 n1 c1 bad en' A2 n2 c2 ss W W.heap.size hrr ((HI1.out W hb).more hb.size) ((HI2.out W hb).more hb.size) (Nat.le_refl _) q1 q2 (by omega) (by omega) (by omega) he)
  have HNT := hid (fun (Ab : Option Addr) (cb : Nat) (W : World) (hb : Below w.heap.size w W) (hrr : Rd W W.heap.size Ab N bz) (q1 : N ≤ cb) (q2 : cb ≤ maxLen) => refNew_any Ab N cb bz A1 n1 c1 bad en' A2 n2 c2 W W.heap.size hrr ((HI1.out W hb).more hb.size) (Nat.le_refl _) q1 q2 (by omega) (by omega) he)
  have hszl := M.szs_len ss
  have HRS := hid (fun (Ax : Option Addr) (nx cx : Nat) (ys : List Int) (v1 : Value) (Ay : Option Addr) (ny cy : Nat) (hv : v1 = .slice Ay ny cy) (p t : Nat) (W : World) (B : Nat) (hB0 : w.heap.size ≤ B) (hBW : B ≤ W.heap.size) (hb : Below w.heap.size w W) (hrr : Rd W B Ax nx ys) (q1 : nx ≤ cx) (q2 : cx ≤ maxLen) (q3 : nx ≤ 1000000) (hp : p < nx) (ht : t < (M.szs ss).length) => by
    have h := refRead_some Ax nx cx ys Ay ny cy A2 n2 c2 ss p t W B hrr ((HI2.out W hb).more hB0) hBW q1 q2 q3 (by omega) hp ht
    unfold TRead at h
    rw [← hv] at h
    exact h)
  have hzl2 := hid (show ss.length = n2 from (HI2.out w (Below.refl _ _)).len)
  have HZ2 : Hid ((M.szs ss).length ≤ 31) := hid (by have := hszl.2; have := hzl2.out; omega)
  generalize M.szs ss = sz at *
  have HWL : Hid ((M.wipe (M.bads (M.cutN N en') bad) (bz.take (M.cutN N en'))).length = M.cutN N en') := hid (by rw [M.wipe_len, List.length_take, HBL.out]; omega)
  have HWU : Hid (u8s (M.wipe (M.bads (M.cutN N en') bad) (bz.take (M.cutN N en')))) := hid (M.wipe_bd fun z hz => HBU.out z (List.mem_of_mem_take hz))
  have HLB : Hid (i64s (M.bads (M.cutN N en') bad)) := hid (M.bads_bd (by omega))
  have HLN : Hid ((M.bads (M.cutN N en') bad).length ≤ 3000) := hid (by have := M.bads_le (M.cutN N en') bad; omega)
  generalize M.bads (M.cutN N en') bad = L at *
  generalize M.wipe L (bz.take (M.cutN N en')) = ws at *
  generalize M.cutN N en' = ms at *
  have hj6 : ((jj : Int)) % 6 = ((jj % 6 : Nat) : Int) := by omega
  have hj5 : jj % 6 ≤ 5 := by omega
  have hk2 : ((k : Int)) % 2 = 1 := by omega
  have hz2 : (((k : Int)) % 2 == 0) = false := by rw [hk2]; rfl
  generalize hJ : jj % 6 = J at *
  go_enter Try.func6, Try.ntmps6
  go_wp2_with fail
  (with_reducible refine (known_any _).mono ?_)
  rintro e w0 ⟨rfl, b0⟩
  have HB0 := hid b0
  clear b0
  go_wp2_with fail
  (with_reducible refine (HBY.out w0 HB0.out).mono ?_)
  rintro e w1 ⟨v1, rfl, hv1, b1⟩
  obtain ⟨Ab, cb, rfl, hrb, hcb, hmb⟩ := hv1.rd HBU.out
  rw [HBL.out] at hrb hcb ⊢
  have hb1 := HB0.out.trans (b1.mono HB0.out.size)
  have HN := hid (HNW.out Ab cb w1 hb1 hrb hcb hmb)
  have HNT1 := hid (fun (W : World) (hW : Below w1.heap.size w1 W) => HNT.out Ab cb W (hb1.trans (hW.mono hb1.size)) ((hrb.keep (w' := W) fun p hp => hW.cell hp).more hW.size) hcb hmb)
  have HB1 := hid hb1
  clear hv1 hrb b1 hb1 HNW HNT HBY
  go_wp2_with fail
  (with_reducible refine HN.out.mono ?_)
  rintro e w2 ⟨g, rfl, hg, hmed, b2⟩
  have HB2 := hid b2
  have HM2 := hid hmed
  have HG2 := hid (Nat.le_trans HB1.out.size hg)
  have HNT2 := hid (HNT1.out w2 b2)
  clear hmed b2 hg HN HNT1
  go_wp2_with fail
  (with_reducible refine HNT2.out.mono ?_)
  rintro e w3 ⟨u, v, rfl, hu, hv, b3⟩
  obtain ⟨Au, cu, rfl, hcu, hmu⟩ := own_room hu
  obtain ⟨Av, cv, rfl, hcv, hmv⟩ := own_room hv
  rw [HWL.out] at hu hcu ⊢
  obtain ⟨w4, hw4⟩ : ∃ w4, w4 = w3.alloc (.cells #[.slice Au ms cu, .slice Av L.length cv, .slice A2 n2 c2, .int .i64 0, .int .i64 0] 41) := ⟨_, rfl⟩
  have hb4 : Below w3.heap.size w3 w4 := by rw [hw4]; exact (Below.refl _ _).alloc (Nat.le_refl _) _
  have hx4 : Blk w4 w3.heap.size 41 [.slice Au ms cu, .slice Av L.length cv, .slice A2 n2 c2, .int .i64 0, .int .i64 0] := by rw [hw4]; exact Blk.new w3 _ _
  have hb24 : Below w2.heap.size w2 w4 := b3.trans (hb4.mono b3.size)
  have hg2 := HM2.out.lt
  have hgt : w2.heap.size ≤ w3.heap.size := b3.size
  have HUB := hid (World.ownsRow.lt hu)
  have HVB := hid (World.ownsRow.lt hv)
  have hwgt : w.heap.size ≤ w3.heap.size := Nat.le_trans (Nat.le_trans HB1.out.size HB2.out.size) b3.size
  have hb14 := HB1.out.trans ((HB2.out.trans (hb24.mono HB2.out.size)).mono HB1.out.size)
  have H0 : Hid (RdsAt w w2 g w3.heap.size ws L sz (.slice Au ms cu) (.slice Av L.length cv) (.slice A2 n2 c2) w4) := hid ⟨0, 0, HM2.out.later hb24, hx4, hu.later hb4, hv.later hb4, hb14⟩
  clear hu hv b3 hb4 hx4 hb24 hb14 HNT2
  have HW4 := hid hw4
  clear hw4
  go_wp2_with fail
  rw [← HW4.out]
  clear HW4
  generalize hgq : w3.heap.size = gt at *
  clear hgq
  go_loopw [18] (fun i wr => ∃ j : Nat, j ≤ J ∧ i = .int .i64 j ∧ RdsAt w w2 g gt ws L sz (.slice Au ms cu) (.slice Av L.length cv) (.slice A2 n2 c2) wr) (fun i _ => J - (intOf i).toNat)
  case atStart => exact ⟨0, Nat.zero_le _, rfl, H0.out⟩
  case round =>
    clear H0
    obtain ⟨j, hjJ, rfl, p, t, hM, hx, hu, hv, hb⟩ := hrel
    have hpl := hM.place
    rw [HWL.out] at hpl
    have htn := hM.turn
    have hgw := HG2.out
    by_cases hlt : j < J
    · have e2 : decide ((j : Int) < (J : Int)) = true := by rw [decide_eq_true_eq]; omega
      by_cases hp : p < ms
      · have HRD := hid (read_some g ws L sz p t wr hM (by rw [HWL.out]; exact hp))
        unfold ReadPost at HRD
        rw [HWL.out] at HRD
        have hq0 := M.pc_pos sz t (left := ms - p) (by omega)
        have hq1 := M.pc_le sz t (ms - p)
        have HTR := hid (fun (W : World) (hBW : gt ≤ W.heap.size) (hb : Below w.heap.size w W) (hrr : Rd W gt Au ms ws) => HRS.out Au ms cu ws (.slice Av L.length cv) Av L.length cv rfl p t W gt hwgt hBW hb hrr hcu hmu (by omega) hp htn)
        generalize M.pc sz t (ms - p) = q at *
        generalize (t + 1) % sz.length = t' at *
        generalize hpq : p + q = r at *
        have HPQ := hid hpq
        have hr2 : r ≤ ms := by omega
        clear hpq
        have hpb : (M.pbytes ws p q).length = q := by unfold M.pbytes; rw [List.length_take, List.length_drop, HWL.out]; omega
        have hpu : u8s (M.pbytes ws p q) := fun z hz => HWU.out z (List.mem_of_mem_drop (List.mem_of_mem_take hz))
        have HPB := hid hpb
        have HPU := hid hpu
        generalize M.pbytes ws p q = ps at *
        have HX := hid hx
        have HU := hid hu
        have HV := hid hv
        have HB := hid hb
        clear hpb hpu hx hu hv hb hM
        go_wp2_with fail
        (with_reducible refine HRD.out.mono ?_)
        rintro e w5 ⟨v5, rfl, hv5, hM5, hG5⟩
        obtain ⟨A5, c5, rfl, hr5, _, _⟩ := hv5.rd HPU.out
        rw [HPB.out] at hr5 ⊢
        have hx5 := HX.out.grown hG5 (fun e => by injection e with e; omega)
        have hu5 := HU.out.grown hG5 (.inr (HU.out.apart hg2))
        have hvv5 := HV.out.grown hG5 (.inr (HV.out.apart hg2))
        have hb5 : Below w.heap.size w w5 := below_grown HB.out hG5 HB.out.size (fun r e => by injection e with e; omega)
        have hrw : Rd w5 gt Au ms ws := hu5.rdB HWL.out HWU.out (fun r hr => (HUB.out r hr).2)
        have HT := hid (HTR.out w5 (Nat.le_of_lt hx5.lt) hb5 hrw)
        have d0 := hx5.cell (i := 0) rfl
        have d1 := hx5.cell (i := 1) rfl
        have d2 := hx5.cell (i := 2) rfl
        have d3 := hx5.cell (i := 3) rfl
        have d4 := hx5.cell (i := 4) rfl
        have HX5 := hid hx5
        have HU5 := hid hu5
        have HV5 := hid hvv5
        have HB5 := hid hb5
        have HM5 := hid hM5
        have HR5 := hid (show OwnY w5 wr.heap.size (.slice A5 q c5) ps from by have h := hv5; rw [HPB.out] at h; exact h)
        have hgtr := HX.out.lt
        clear hv5 hM5 hG5 hr5 hx5 hu5 hvv5 hb5 hrw HRD HTR
        go_wp2_with fail
        (with_reducible refine HT.out.mono ?_)
        rintro e w6 ⟨A6, c6, rfl, hr6, b6⟩
        have hx6 := HX5.out.below b6 HX5.out.lt
        have hnew : ∃ w7, w7 = (((((w6.setCell ⟨gt, 0, none⟩ (.slice Au ms cu)).setCell ⟨gt, 1, none⟩ (.slice Av L.length cv)).setCell ⟨gt, 2, none⟩ (.slice A2 n2 c2)).setCell ⟨gt, 3, none⟩ (.int .i64 r)).setCell ⟨gt, 4, none⟩ (.int .i64 t')).alloc (.cells #[.slice Au ms cu, .slice Av L.length cv, .slice A2 n2 c2, .int .i64 r, .int .i64 t'] 41) := ⟨_, rfl⟩
        obtain ⟨w7, hw7⟩ := hnew
        obtain ⟨hb7, hg67⟩ := set_five hx6 hw7
        have k0 := hx6.cell (i := 0) rfl
        have k1 := hx6.cell (i := 1) rfl
        have k2 := hx6.cell (i := 2) rfl
        have k3 := hx6.cell (i := 3) rfl
        have k4 := hx6.cell (i := 4) rfl
        have q0 := hx6.frozen 0
        have q1 := hx6.frozen 1
        have q2 := hx6.frozen 2
        have q3 := hx6.frozen 3
        have q4 := hx6.frozen 4
        have hgtl := hx6.lt
        have HW7 := hid hw7
        have hb67 : Below gt w6 w7 := ⟨hg67.os, hg67.tape, hg67.output, hg67.size, fun k hk => hg67.block k (by omega) (fun e => by injection e with e; omega)⟩
        have hb56 := b6
        have hr67 : OwnY w7 wr.heap.size (.slice A5 q c5) ps := (HR5.out.later b6).grown hg67 (.inr ((HR5.out.later b6).apart hgtr))
        have cv5 := run_str (hr67.rdB HPB.out HPU.out (B := w7.heap.size) (fun r hr => (World.ownsRow.lt hr67 r hr).2)) c5
        have cv6 := run_str (hr6.keep (w' := w7) fun q hq => hb67.cell hq) c6
        have hne := strOf_eq ps
        generalize strOf ps = S at *
        have hu7 : OwnY w7 w2.heap.size (.slice Au ms cu) ws := (HU5.out.later b6).grown hg67 (.inr (fun e => by have := (HUB.out _ e).2; omega))
        have hv7 : OwnI w7 w2.heap.size (.slice Av L.length cv) L := (HV5.out.later b6).grown hg67 (.inr (fun e => by have := (HVB.out _ e).2; omega))
        have hm7 : Med w7 g ws L sz r t' := (HM5.out.later b6).kept (fun k hk => hg67.block k (by omega) (fun e => by injection e with e; omega))
        have HU7 := hid hu7
        have HV7 := hid hv7
        have HM7 := hid hm7
        have HX7 := hid hb7
        have HB7 := hid (below_grown (HB5.out.trans (b6.mono HB5.out.size)) hg67 (Nat.le_trans HB5.out.size b6.size) (fun r e => by injection e with e; omega))
        clear hw7 hr67 hu7 hv7 hm7 hb67 hb56 b6 hr6 hx6
        go_upto_region 14 with (fail)
        rw [← HW7.out]
        clear k0 k1 k2 k3 k4 q0 q1 q2 q3 q4 d0 d1 d2 d3 d4
        go_wp2
        go_roundw
        case rel => exact ⟨j + 1, by omega, by go_num, r, t', HM7.out, HX7.out, HU7.out, HV7.out, HB7.out⟩
        case measure => simp [intOf]; omega
      · obtain rfl : p = ms := by omega
        have HRD := hid (read_none g ws L sz t wr (by rw [HWL.out]; exact hM))
        have htb : t ≤ 1000000 := by have := HZ2.out; omega
        have HX := hid hx
        have HU := hid hu
        have HV := hid hv
        have HB := hid hb
        have HM := hid hM
        clear hx hu hv hb hM
        go_wp2_with fail
        (with_reducible refine HRD.out.mono ?_)
        rintro e w5 ⟨rfl, b5⟩
        have hx5 := HX.out.below b5 HX.out.lt
        have HT := hid (refRead_none Au p cu Av L.length cv A2 n2 c2 t w5 (by omega) htb)
        have d0 := hx5.cell (i := 0) rfl
        have d1 := hx5.cell (i := 1) rfl
        have d2 := hx5.cell (i := 2) rfl
        have d3 := hx5.cell (i := 3) rfl
        have d4 := hx5.cell (i := 4) rfl
        have HX5 := hid hx5
        have HU5 := hid (HU.out.later b5)
        have HV5 := hid (HV.out.later b5)
        have HB5 := hid (HB.out.trans (b5.mono HB.out.size))
        have HM5 := hid (HM.out.later b5)
        clear b5 hx5 HRD
        go_wp2_with fail
        (with_reducible refine HT.out.mono ?_)
        rintro e w6 ⟨rfl, b6⟩
        have hx6 := HX5.out.below b6 HX5.out.lt
        have hnew : ∃ w7, w7 = (((((w6.setCell ⟨gt, 0, none⟩ (.slice Au p cu)).setCell ⟨gt, 1, none⟩ (.slice Av L.length cv)).setCell ⟨gt, 2, none⟩ (.slice A2 n2 c2)).setCell ⟨gt, 3, none⟩ (.int .i64 p)).setCell ⟨gt, 4, none⟩ (.int .i64 t)).alloc (.cells #[.slice Au p cu, .slice Av L.length cv, .slice A2 n2 c2, .int .i64 p, .int .i64 t] 41) := ⟨_, rfl⟩
        obtain ⟨w7, hw7⟩ := hnew
        obtain ⟨hb7, hg67⟩ := set_five hx6 hw7
        have k0 := hx6.cell (i := 0) rfl
        have k1 := hx6.cell (i := 1) rfl
        have k2 := hx6.cell (i := 2) rfl
        have k3 := hx6.cell (i := 3) rfl
        have k4 := hx6.cell (i := 4) rfl
        have q0 := hx6.frozen 0
        have q1 := hx6.frozen 1
        have q2 := hx6.frozen 2
        have q3 := hx6.frozen 3
        have q4 := hx6.frozen 4
        have hgtl := hx6.lt
        have HW7 := hid hw7
        have cv5 := run_str (Rd.none_ (w := w7) (B := 0) (A := none)) 0
        have hne := strOf_eq []
        generalize strOf [] = S at *
        have hu7 : OwnY w7 w2.heap.size (.slice Au p cu) ws := (HU5.out.later b6).grown hg67 (.inr (fun e => by have := (HUB.out _ e).2; omega))
        have hv7 : OwnI w7 w2.heap.size (.slice Av L.length cv) L := (HV5.out.later b6).grown hg67 (.inr (fun e => by have := (HVB.out _ e).2; omega))
        have hm7 : Med w7 g ws L sz p t := (HM5.out.later b6).kept (fun k hk => hg67.block k (by omega) (fun e => by injection e with e; omega))
        have HU7 := hid hu7
        have HV7 := hid hv7
        have HM7 := hid hm7
        have HX7 := hid hb7
        have HB7 := hid (below_grown (HB5.out.trans (b6.mono HB5.out.size)) hg67 (Nat.le_trans HB5.out.size b6.size) (fun r e => by injection e with e; omega))
        clear hw7 hu7 hv7 hm7 b6 hx6
        go_upto_region 14 with (fail)
        rw [← HW7.out]
        clear k0 k1 k2 k3 k4 q0 q1 q2 q3 q4 d0 d1 d2 d3 d4
        go_wp2
        go_roundw
        case rel => exact ⟨j + 1, by omega, by go_num, p, t, HM7.out, HX7.out, HU7.out, HV7.out, HB7.out⟩
        case measure => simp [intOf]; omega
    · have e2 : decide ((j : Int) < (J : Int)) = false := by rw [decide_eq_false_iff_not]; omega
      have htb : t ≤ 1000000 := by have := HZ2.out; omega
      have HSP := hid (spoilt_any g ws L sz p t wr hM)
      have HX := hid hx
      have HU := hid hu
      have HV := hid hv
      have HB := hid hb
      have HM := hid hM
      clear hx hu hv hb hM
      go_wp2_with fail
      (with_reducible refine HSP.out.mono ?_)
      rintro e w5 ⟨vl, rfl, hl, b5⟩
      obtain ⟨Al, cl, rfl, _, _⟩ := own_room hl
      have hx5 := HX.out.below b5 HX.out.lt
      have hu5 := HU.out.later b5
      have hv5 := HV.out.later b5
      have d0 := hx5.cell (i := 0) rfl
      have d1 := hx5.cell (i := 1) rfl
      have d2 := hx5.cell (i := 2) rfl
      have d3 := hx5.cell (i := 3) rfl
      have d4 := hx5.cell (i := 4) rfl
      have HT := hid (refGather_any Au ms cu ws Av L.length cv A2 n2 c2 p t w5 gt (hu5.rdB HWL.out HWU.out (fun r hr => (HUB.out r hr).2)) hcu hmu (by omega) hpl htb)
      have HU5 := hid hu5
      have HX5 := hid hx5
      have HV5 := hid hv5
      have HL5 := hid hl
      have HB5 := hid (HB.out.trans (b5.mono HB.out.size))
      have HM5 := hid (HM.out.later b5)
      have hwr := HX.out.lt
      clear b5 hx5 hu5 hv5 hl HSP
      go_wp2_with fail
      (with_reducible refine HT.out.mono ?_)
      rintro e w6 ⟨rfl, b6⟩
      obtain ⟨A6, hA6⟩ : ∃ A6, A6 = cutA Au cu p := ⟨_, rfl⟩
      rw [← hA6]
      obtain ⟨Ay, ny, cy, hys, hny, hyr⟩ : ∃ Ay ny cy, (if p = 0 then Value.slice Av L.length cv else .slice none 0 0) = .slice Ay ny cy ∧ ny = (if p = 0 then L else []).length ∧ ∀ W, OwnI W w2.heap.size (.slice Av L.length cv) L → RdI W W.heap.size Ay ny (if p = 0 then L else []) := by
        by_cases h0 : p = 0
        · rw [if_pos h0, if_pos h0]
          exact ⟨_, _, _, rfl, rfl, fun W h => h.row HLB.out⟩
        · rw [if_neg h0, if_neg h0]
          exact ⟨none, 0, 0, rfl, rfl, fun W h => RdI.none_⟩
      rw [hys]
      clear hys
      obtain ⟨w7, hw7⟩ : ∃ w7, w7 = (w6.alloc (.cells #[.slice Au ms cu, .slice Av L.length cv, .slice A2 n2 c2, .int .i64 ms, .int .i64 t] 41)).alloc (.cells #[.slice A6 (ms - p) (cu - p), .slice Ay ny cy] 27) := ⟨_, rfl⟩
      have hb7 : Below w6.heap.size w6 w7 := by rw [hw7]; exact ((Below.refl _ _).alloc (Nat.le_refl _) _).alloc (by simp) _
      have hy7 : Blk w7 (w6.heap.size + 1) 27 [.slice A6 (ms - p) (cu - p), .slice Ay ny cy] := by
        rw [hw7]
        have := Blk.new (w6.alloc (.cells #[.slice Au ms cu, .slice Av L.length cv, .slice A2 n2 c2, .int .i64 ms, .int .i64 t] 41)) 27 [.slice A6 (ms - p) (cu - p), .slice Ay ny cy]
        rwa [World.size_alloc] at this
      have hb57 : Below w5.heap.size w5 w7 := b6.trans (hb7.mono b6.size)
      have hx7 := HX5.out.below hb57 HX5.out.lt
      have y0 := hy7.cell (i := 0) rfl
      have y1 := hy7.cell (i := 1) rfl
      have y2 := hx7.cell (i := 1) rfl
      have hdl : (ws.drop p).length = ms - p := by rw [List.length_drop, HWL.out]
      have HDL := hid hdl
      have HDU : Hid (u8s (ws.drop p)) := hid (fun z hz => HWU.out z (List.mem_of_mem_drop hz))
      have HLE : Hid (i64s (if p = 0 then L else [])) := hid (by split; exact HLB.out; intro z hz; simp at hz)
      have HLN' : Hid ((if p = 0 then L else []).length = ny) := hid hny.symm
      have HNY : Hid (ny ≤ 1000000) := hid (by rw [hny]; have := HLN.out; split; omega; simp)
      have hga := gather_any g ws L sz p t w7.drew (HM5.out.later (below_drew' hb57))
      unfold GatherPost at hga
      have HGA := hid hga
      have HG67 := hid (show g < w6.heap.size from Nat.lt_of_lt_of_le HM5.out.lt b6.size)
      have hgtw : gt ≤ w7.heap.size := Nat.le_of_lt hx7.lt
      have hgt5 := HX5.out.lt
      have hs57 := hb57.size
      have hgg : g < gt := by omega
      have HU7 := hid (HU5.out.later hb57)
      have HV7 := hid (HV5.out.later hb57)
      have HL7 := hid (HL5.out.later hb57)
      have HYR := hid hyr
      have HRB := hid (fun (W : World) (hO : OwnY W w2.heap.size (.slice Au ms cu) ws) (hg : gt ≤ W.heap.size) => show Rd W W.heap.size A6 (ms - p) (ws.drop p) from by rw [hA6]; exact ((hO.rdB HWL.out HWU.out (fun r hr => (HUB.out r hr).2)).cut hpl hcu).more hg)
      have HB7 := hid (HB5.out.trans (hb57.mono HB5.out.size))
      have HW7 := hid hw7
      clear hw7 hb7 hy7 hb57 hx7 hdl hny hyr hga b6 HT hA6
      go_wp2_with fail
      rw [← HW7.out]
      clear HW7 d0 d1 d2 d3 d4
      refine wp_region_held_drew (S := fun W => W.cell? ⟨w6.heap.size + 1, 0, none⟩ = some (.slice A6 (ms - p) (cu - p)) ∧ W.cell? ⟨w6.heap.size + 1, 1, none⟩ = some (.slice Ay ny cy) ∧ W.cell? ⟨gt, 1, none⟩ = some (.slice Av L.length cv)) (by kernel_rfl) ⟨y0, y1, y2⟩ (fun hS => ?_)
      refine takeH (i := 0) (v := ?_) 93 rfl rfl (by kernel_rfl) (by kernel_rfl) (by kernel_rfl) (fun _ _ _ h => h) (by rfl) ?hyo0 hS ?resto0
      case hyo0 => (intro W hW; have f0 := hW.1; have f1 := hW.2.1; have f2 := hW.2.2; clear hW; go_simp; first | done | with_reducible rfl)
      try simp only [Act.put, List.setIfInBounds_toArray, List.set_cons_zero, List.set_cons_succ]
      refine takeH (i := 2) (v := ?_) 95 rfl rfl (by kernel_rfl) (by kernel_rfl) (by kernel_rfl) (fun _ _ _ h => h) (by rfl) ?hyo2 hS ?resto2
      case hyo2 => (intro W hW; have f0 := hW.1; have f1 := hW.2.1; have f2 := hW.2.2; clear hW; go_simp; first | done | with_reducible rfl)
      try simp only [Act.put, List.setIfInBounds_toArray, List.set_cons_zero, List.set_cons_succ]
      refine loneH (i := 1) 94 rfl rfl (by kernel_rfl) (by rfl) (fun K hK => ?_)
      go_simp
      (with_reducible refine HGA.out.mono ?_)
      rintro e w8 ⟨u8, v8, rfl, hu8, hv8, _, hG8⟩
      obtain ⟨A8, c8, rfl, hr8, _, _⟩ := hu8.rd HDU.out
      obtain ⟨A9, c9, rfl, hr9, _, _⟩ := hv8.rd HLE.out
      rw [HDL.out] at hr8 ⊢
      rw [HLN'.out] at hr9 ⊢
      have z0 := World.grownBy.cell hG8 hS.1 (fun e => by injection e with e; have := HG67.out; simp at e; omega)
      have z1 := World.grownBy.cell hG8 hS.2.1 (fun e => by injection e with e; have := HG67.out; simp at e; omega)
      have z2 := World.grownBy.cell hG8 hS.2.2 (fun e => by injection e with e; simp at e; omega)
      have hu8b : OwnY w8 w2.heap.size (.slice Au ms cu) ws := (HU7.out.grown (World.grownBy.refl w7 (some g)) (.inr (HU7.out.apart hg2))).grown (grown_of_drew hG8) (.inr (HU7.out.apart hg2))
      have hv8b : OwnI w8 w2.heap.size (.slice Av L.length cv) L := HV7.out.grown (grown_of_drew hG8) (.inr (HV7.out.apart hg2))
      have hl8b : OwnI w8 wr.heap.size (.slice Al L.length cl) L := HL7.out.grown (grown_of_drew hG8) (.inr (HL7.out.apart (by omega)))
      have hgt8 : gt ≤ w8.heap.size := Nat.le_trans hgtw hG8.size
      have HSA := hid (same_any A8 (ms - p) c8 A6 (cu - p) (ws.drop p) A9 ny c9 Ay cy (if p = 0 then L else []) w8 w8.heap.size hr8 (HRB.out w8 hu8b hgt8) hr9 (HYR.out w8 hv8b) (Nat.le_refl _) HNY.out)
      have HSB := hid (fun (W : World) (hW : Below w8.heap.size w8 W) => same_any none 0 0 none 0 [] Al L.length cl Av cv L W w8.heap.size Rd.none_ Rd.none_ ((hl8b.row HLB.out).keep (w' := W) fun p hp => hW.cell hp) ((hv8b.row HLB.out).keep (w' := W) fun p hp => hW.cell hp) hW.size (by have := HLN.out; omega))
      have HB8 := hid (below_grown HB7.out (World.grownBy.trans (grown_drew (World.grownBy.refl w7 (some g))) hG8) HB7.out.size (fun r e => by injection e with e; omega))
      clear hS hu8 hv8 hr8 hr9 hG8
      refine hK.out _ _ ⟨z0, z1, z2⟩ (fun hS => ?_)
      clear hK K
      try simp only [Act.put, List.setIfInBounds_toArray, List.set_cons_zero, List.set_cons_succ]
      refine loneH (i := 3) 96 rfl rfl (by kernel_rfl) (by rfl) (fun K hK => ?_)
      go_simp
      (with_reducible refine HSA.out.mono ?_)
      rintro e w9 ⟨rfl, bb⟩
      have z0 := (bb.cell (p := ⟨w6.heap.size + 1, 0, none⟩) (World.block_lt_of_cell? _ _ hS.1)).trans hS.1
      have z1 := (bb.cell (p := ⟨w6.heap.size + 1, 1, none⟩) (World.block_lt_of_cell? _ _ hS.2.1)).trans hS.2.1
      have z2 := (bb.cell (p := ⟨gt, 1, none⟩) (World.block_lt_of_cell? _ _ hS.2.2)).trans hS.2.2
      have B9 := bb
      clear bb hS
      refine hK.out _ _ ⟨z0, z1, z2⟩ (fun hS => ?_)
      clear hK K
      try simp only [Act.put, List.setIfInBounds_toArray, List.set_cons_zero, List.set_cons_succ]
      refine takeH (i := 4) (v := ?_) 97 rfl rfl (by kernel_rfl) (by kernel_rfl) (by kernel_rfl) (fun _ _ _ h => h) (by rfl) ?hyo4 hS ?resto4
      case hyo4 => (intro W hW; have f0 := hW.1; have f1 := hW.2.1; have f2 := hW.2.2; clear hW; go_simp; first | done | with_reducible rfl)
      try simp only [Act.put, List.setIfInBounds_toArray, List.set_cons_zero, List.set_cons_succ]
      refine takeH (i := 5) (v := ?_) 98 rfl rfl (by kernel_rfl) (by kernel_rfl) (by kernel_rfl) (fun _ _ _ h => h) (by rfl) ?hyo5 hS ?resto5
      case hyo5 => (intro W hW; have f0 := hW.1; have f1 := hW.2.1; have f2 := hW.2.2; clear hW; go_simp; first | done | with_reducible rfl)
      try simp only [Act.put, List.setIfInBounds_toArray, List.set_cons_zero, List.set_cons_succ]
      refine takeH (i := 6) (v := ?_) 99 rfl rfl (by kernel_rfl) (by kernel_rfl) (by kernel_rfl) (fun _ _ _ h => h) (by rfl) ?hyo6 hS ?resto6
      case hyo6 => (intro W hW; have f0 := hW.1; have f1 := hW.2.1; have f2 := hW.2.2; clear hW; go_simp; first | done | with_reducible rfl)
      try simp only [Act.put, List.setIfInBounds_toArray, List.set_cons_zero, List.set_cons_succ]
      refine takeH (i := 7) (v := ?_) 100 rfl rfl (by kernel_rfl) (by kernel_rfl) (by kernel_rfl) (fun _ _ _ h => h) (by rfl) ?hyo7 hS ?resto7
      case hyo7 => (intro W hW; have f0 := hW.1; have f1 := hW.2.1; have f2 := hW.2.2; clear hW; go_simp; first | done | with_reducible rfl)
      try simp only [Act.put, List.setIfInBounds_toArray, List.set_cons_zero, List.set_cons_succ]
      refine takeH (i := 8) (v := ?_) 101 rfl rfl (by kernel_rfl) (by kernel_rfl) (by kernel_rfl) (fun _ _ _ h => h) (by rfl) ?hyo8 hS ?resto8
      case hyo8 => (intro W hW; have f0 := hW.1; have f1 := hW.2.1; have f2 := hW.2.2; clear hW; go_simp; first | done | with_reducible rfl)
      try simp only [Act.put, List.setIfInBounds_toArray, List.set_cons_zero, List.set_cons_succ]
      refine takeH (i := 9) (v := ?_) 102 rfl rfl (by kernel_rfl) (by kernel_rfl) (by kernel_rfl) (fun _ _ _ h => h) (by rfl) ?hyo9 hS ?resto9
      case hyo9 => (intro W hW; have f0 := hW.1; have f1 := hW.2.1; have f2 := hW.2.2; clear hW; go_simp; first | done | with_reducible rfl)
      try simp only [Act.put, List.setIfInBounds_toArray, List.set_cons_zero, List.set_cons_succ]
      refine takeH (i := 10) (v := ?_) 103 rfl rfl (by kernel_rfl) (by kernel_rfl) (by kernel_rfl) (fun _ _ _ h => h) (by rfl) ?hyo10 hS ?resto10
      case hyo10 => (intro W hW; have f0 := hW.1; have f1 := hW.2.1; have f2 := hW.2.2; clear hW; go_simp; first | done | with_reducible rfl)
      try simp only [Act.put, List.setIfInBounds_toArray, List.set_cons_zero, List.set_cons_succ]
      refine loneH (i := 11) 104 rfl rfl (by kernel_rfl) (by rfl) (fun K hK => ?_)
      go_simp
      (with_reducible refine (HSB.out _ B9).mono ?_)
      rintro e w10 ⟨rfl, bb⟩
      have z0 := (bb.cell (p := ⟨w6.heap.size + 1, 0, none⟩) (World.block_lt_of_cell? _ _ hS.1)).trans hS.1
      have z1 := (bb.cell (p := ⟨w6.heap.size + 1, 1, none⟩) (World.block_lt_of_cell? _ _ hS.2.1)).trans hS.2.1
      have z2 := (bb.cell (p := ⟨gt, 1, none⟩) (World.block_lt_of_cell? _ _ hS.2.2)).trans hS.2.2
      have B10 := B9.trans (bb.mono B9.size)
      clear bb hS
      refine hK.out _ _ ⟨z0, z1, z2⟩ (fun hS => ?_)
      clear hK K
      try simp only [Act.put, List.setIfInBounds_toArray, List.set_cons_zero, List.set_cons_succ]
      refine takeH (i := 12) (v := ?_) 105 rfl rfl (by kernel_rfl) (by kernel_rfl) (by kernel_rfl) (fun _ _ _ h => h) (by rfl) ?hyo12 hS ?resto12
      case hyo12 => (intro W hW; have f0 := hW.1; have f1 := hW.2.1; have f2 := hW.2.2; clear hW; go_simp; first | done | with_reducible rfl)
      try simp only [Act.put, List.setIfInBounds_toArray, List.set_cons_zero, List.set_cons_succ]
      refine takeH (i := 13) (v := ?_) 14 rfl rfl (by kernel_rfl) (by kernel_rfl) (by kernel_rfl) (fun _ _ _ h => h) (by rfl) ?hyo13 hS ?resto13
      case hyo13 => (intro W hW; have f0 := hW.1; have f1 := hW.2.1; have f2 := hW.2.2; clear hW; go_simp; first | done | with_reducible rfl)
      try simp only [Act.put, List.setIfInBounds_toArray, List.set_cons_zero, List.set_cons_succ]
      refine wpAnyH_done (by kernel_rfl) ?_ _
      go_wp2
      go_ret
      exact ⟨rfl, HB8.out.trans (B10.mono HB8.out.size)⟩

theorem mediumReads_any (A : Option Addr) (n c : Nat) (zs : List Int) (m : Int) (A1 : Option Addr) (n1 c1 : Nat) (bad : List Int) (en : Int) (A2 : Option Addr) (n2 c2 : Nat) (ss : List Int) (k jj : Int) (w : World)
    (hr : Rd w w.heap.size A n zs) (hn : n ≤ maxLen) (hm : 0 ≤ m ∧ m ≤ 65535) (h1 : RdI w w.heap.size A1 n1 bad) (hn1 : n1 ≤ 140737488355328) (he : -9223372036854775808 ≤ en ∧ en ≤ 9223372036854775807) (h2 : RdI w w.heap.size A2 n2 ss) (hn2c : n2 ≤ c2) (hcm : c2 ≤ maxLen) (hn2 : n2 ≤ 140737488355328) (hk : 0 ≤ k ∧ k ≤ 255) (hj : 0 ≤ jj ∧ jj ≤ 255) :
    Calls Try.prog 6 #[.slice A n c, .int .u16 m, .slice A1 n1 c1, .int .i64 en, .slice A2 n2 c2, .int .u8 k, .int .u8 jj] w fun e w' => e = .returned (.bool true) ∧ Below w.heap.size w w' := by
  by_cases h6 : 30 < n1 + n2
  · have e1 : decide ((30 : Int) < (n1 : Int) + n2) = true := by rw [decide_eq_true_eq]; omega
    clear hr h1 h2
    go_enter Try.func6, Try.ntmps6
    go_wp2_with fail
    refine (known_any _).mono ?_
    rintro e w1 ⟨rfl, b1⟩
    go_wp2
    go_ret
    exact ⟨rfl, b1⟩
  obtain ⟨m, rfl⟩ : ∃ j : Nat, m = j := ⟨m.toNat, by omega⟩
  obtain ⟨k, rfl⟩ : ∃ j : Nat, k = j := ⟨k.toNat, by omega⟩
  obtain ⟨jj, rfl⟩ : ∃ j : Nat, jj = j := ⟨jj.toNat, by omega⟩
  rcases Nat.mod_two_eq_zero_or_one k with h | h
  · exact mediumReads_even A n c zs m A1 n1 c1 bad en A2 n2 c2 ss k jj w hr hn (by omega) h1 h2 (by omega) (by omega) (by omega) hn2c hcm h
  · exact mediumReads_odd A n c zs m A1 n1 c1 bad en A2 n2 c2 ss k jj w hr hn (by omega) h1 h2 (by omega) (by omega) (by omega) hn2c hcm he h
end Go.Proofs.Yteneknmbddnkaaa
