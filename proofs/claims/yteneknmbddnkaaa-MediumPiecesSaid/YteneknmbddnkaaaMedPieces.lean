/-
  MediumPieces' walk.
-/
import Derived.Test.YteneknmbddnkaaaMedLaw
import Derived.Test.YteneknmbddnkaaaMedNew
import Derived.Test.YteneknmbddnkaaaMedGather
import Derived.Test.YteneknmbddnkaaaMedStep
namespace Go.Proofs.Yteneknmbddnkaaa
open Go.RowKit Go.Lib

theorem cutN_min (n E : Nat) : M.cutN n (E : Int) = min n E := by unfold M.cutN; split <;> omega

/-- A new medium, all of it gathered. -/
theorem Rd.word {w : World} {B n : Nat} {A : Option Addr} {zs : List Int} (h : Rd w B A n zs) {k : Nat} {z : Int} (hz : zs[k]? = some z) : ∃ b off, A = some ⟨b, off, none⟩ ∧ b < B ∧ w.cell? ⟨b, off + k, none⟩ = some (.int .u8 z) := by
  have hk := (List.getElem?_eq_some_iff.1 hz).1
  obtain ⟨b, off, e, hb, hc⟩ := h.2.2 (by have := h.len; omega)
  exact ⟨b, off, e, hb, hc k z hz⟩

set_option maxRecDepth 100000 in
set_option maxHeartbeats 8000000 in
theorem mediumPieces_nat (A : Option Addr) (n c : Nat) (zs : List Int) (m : Nat) (A1 : Option Addr) (n1 c1 : Nat) (bad : List Int) (E : Nat) (A2 : Option Addr) (n2 c2 : Nat) (ss : List Int) (A3 : Option Addr) (n3 c3 : Nat) (s3 : List Int) (w : World)
    (hr : Rd w w.heap.size A n zs) (hn : n ≤ maxLen) (hm : m ≤ 65535) (h1 : RdI w w.heap.size A1 n1 bad) (hn1 : n1 ≤ 140737488355328) (hE : E ≤ 65535) (h2 : RdI w w.heap.size A2 n2 ss) (hn2 : n2 ≤ 140737488355328) (h3 : RdI w w.heap.size A3 n3 s3) (hn3 : n3 ≤ 140737488355328) :
    Calls Try.prog 7 #[.slice A n c, .int .u16 m, .slice A1 n1 c1, .int .u16 E, .slice A2 n2 c2, .slice A3 n3 c3] w fun e w' => e = .returned (.bool true) ∧ Below w.heap.size w w' := by
  by_cases h6 : 40 < n1 + n2 + n3
  · have e1 : decide ((40 : Int) < (n1 : Int) + n2 + n3) = true := by rw [decide_eq_true_eq]; omega
    clear hr h1 h2 h3
    go_enter Try.func7, Try.ntmps7
    go_wp2_with fail
    refine (known_any _).mono ?_
    rintro e w1 ⟨rfl, b1⟩
    go_wp2
    go_ret
    exact ⟨rfl, b1⟩
  have e1 : decide ((40 : Int) < (n1 : Int) + n2 + n3) = false := by rw [decide_eq_false_iff_not]; omega
  have hN1 : m % 3000 ≤ 2999 := by omega
  have HBY := hid (bytes_any A n c zs m w w.heap.size hr (Nat.le_refl _) hm hn)
  have HI1 := hid (fun W (hb : Below w.heap.size w W) => (h1.keep (w' := W) fun p hp => hb.cell hp).more hb.size)
  have HI2 := hid (fun W (hb : Below w.heap.size w W) => (h2.keep (w' := W) fun p hp => hb.cell hp).more hb.size)
  have HI3 := hid (fun W (hb : Below w.heap.size w W) => (h3.keep (w' := W) fun p hp => hb.cell hp).more hb.size)
  have HBL := hid (M.bytes_len zs (m % 3000))
  have HBU : Hid (u8s (M.bytes zs (m % 3000))) := hid (M.bytes_bd zs (m % 3000))
  clear hr h1 h2 h3
  generalize M.bytes zs (m % 3000) = bz at *
  generalize m % 3000 = N at *
  have hcm := cutN_min N E
  have hmin : min (N : Int) (E : Int) = (M.cutN N E : Nat) := by rw [hcm]; omega
  have hmsN := M.cutN_le N E
  have HNW := hid (fun (Ab : Option Addr) (cb : Nat) (W : World) (hb : Below w.heap.size w W) (hrr : Rd W W.heap.size Ab N bz) (q1 : N ≤ cb) (q2 : cb ≤ maxLen) => new_any Ab N cb bz A1 n1 c1 bad E A2 n2 c2 ss W W.heap.size hrr (HI1.out W hb) (HI2.out W hb) (Nat.le_refl _) q1 q2 (by omega) (by omega) (by omega) (by omega))
  have HNX := hid (fun (Ab : Option Addr) (cb : Nat) (W : World) (hb : Below w.heap.size w W) (hrr : Rd W W.heap.size Ab N bz) (q1 : N ≤ cb) (q2 : cb ≤ maxLen) => new_any Ab N cb bz A1 n1 c1 bad E A3 n3 c3 s3 W W.heap.size hrr (HI1.out W hb) (HI3.out W hb) (Nat.le_refl _) q1 q2 (by omega) (by omega) (by omega) (by omega))
  generalize M.szs ss = sz at *
  generalize M.szs s3 = tz at *
  clear hcm
  generalize M.cutN N E = ms at *
  have HWL : Hid ((M.wipe (M.bads ms bad) (bz.take ms)).length = ms) := hid (by rw [M.wipe_len, List.length_take, HBL.out]; omega)
  have HWU : Hid (u8s (M.wipe (M.bads ms bad) (bz.take ms))) := hid (M.wipe_bd fun z hz => HBU.out z (List.mem_of_mem_take hz))
  have HLB : Hid (i64s (M.bads ms bad)) := hid (M.bads_bd (by omega))
  have HLN : Hid ((M.bads ms bad).length ≤ 3000) := hid (by have := M.bads_le ms bad; omega)
  have HAT : Hid (∀ k, k < ms → ∃ z, bz[k]? = some z ∧ (M.wipe (M.bads ms bad) (bz.take ms))[k]? = some (if M.has (M.bads ms bad) ((k / 512 : Nat) : Int) then 0 else z)) := hid (fun k hk => by
    have hkN : k < bz.length := by rw [HBL.out]; omega
    refine ⟨bz[k], List.getElem?_eq_getElem hkN, ?_⟩
    rw [M.wipe_at, List.getElem?_take, if_pos hk, List.getElem?_eq_getElem hkN]
    rfl)
  generalize M.bads ms bad = L at *
  generalize M.wipe L (bz.take ms) = ws at *
  go_enter Try.func7, Try.ntmps7
  go_wp2_with fail
  (with_reducible refine HBY.out.mono ?_)
  rintro e w1 ⟨v1, rfl, hv1, b1⟩
  obtain ⟨Ab, cb, rfl, hrb, hcb, hmb⟩ := hv1.rd HBU.out
  rw [HBL.out] at hrb hcb ⊢
  have HRB := hid (fun (W : World) (hW : Below w1.heap.size w1 W) => (hrb.keep (w' := W) fun p hp => hW.cell hp))
  have HB1 := hid b1
  have HN := hid (HNW.out Ab cb w1 b1 hrb hcb hmb)
  have HX2 := hid (fun (W : World) (hW : Below w1.heap.size w1 W) => HNX.out Ab cb W (HB1.out.trans (hW.mono HB1.out.size)) ((HRB.out W hW).more hW.size) hcb hmb)
  clear hv1 hrb b1 HNW HNX HBY HI1 HI2 HI3
  go_wp2_with fail
  (with_reducible refine HN.out.mono ?_)
  rintro e w2 ⟨g, rfl, hg, hmed, b2⟩
  have HGA := gather_any g ws L sz 0 0 w2 hmed
  unfold GatherPost at HGA
  rw [List.drop_zero, if_pos rfl] at HGA
  have HGP := hid HGA
  have HB2 := hid b2
  have HG1 := hid hg
  clear HGA hmed b2 hg HN
  go_wp2_with fail
  (with_reducible refine HGP.out.mono ?_)
  rintro e w3 ⟨u, v, rfl, hu, hv, _, hG3⟩
  obtain ⟨Au, cu, rfl, hru, hcu, hmu⟩ := hu.rd HWU.out
  obtain ⟨Av, cv, rfl, hrv, hcv, hmv⟩ := hv.rd HLB.out
  rw [HWL.out] at hru hcu ⊢
  have hb13 : Below w1.heap.size w1 w3 := below_grown HB2.out hG3 HB2.out.size (fun k e => by injection e with e; have := HG1.out; omega)
  obtain ⟨w4, hw4⟩ : ∃ w4, w3.alloc (.cells #[.slice Au ms cu, .slice Av L.length cv] 27) = w4 := ⟨_, rfl⟩
  have hb4 : Below w3.heap.size w3 w4 := by rw [← hw4]; exact (Below.refl _ _).alloc (Nat.le_refl _) _
  have hx4 : Blk w4 w3.heap.size 27 [.slice Au ms cu, .slice Av L.length cv] := by rw [← hw4]; exact Blk.new w3 _ _
  have hb14 : Below w1.heap.size w1 w4 := hb13.trans (hb4.mono hb13.size)
  have HX4 := hid hx4
  have HRU4 := hid (((hru.keep (w' := w4) fun p hp => hb4.cell hp).more hb4.size))
  have HRV4 := hid (((hrv.keep (w' := w4) fun p hp => hb4.cell hp).more hb4.size))
  have HB14 := hid hb14
  have HN2 := hid (HX2.out w4 hb14)
  clear hu hv hru hrv hG3 hb13 hb4 hx4 hb14 HGP HX2
  go_wp2_with fail
  clear hw4
  (with_reducible refine HN2.out.mono ?_)
  rintro e w5 ⟨g5, rfl, hg5, hmed, b5⟩
  have HGA := gather_any g5 ws L tz 0 0 w5 hmed
  unfold GatherPost at HGA
  rw [List.drop_zero, if_pos rfl] at HGA
  have HGP := hid HGA
  have HB5 := hid b5
  have HG5 := hid hg5
  clear HGA hmed b5 hg5 HN2
  go_wp2_with fail
  (with_reducible refine HGP.out.mono ?_)
  rintro e w6 ⟨u, v, rfl, hu, hv, _, hG6⟩
  obtain ⟨Ax, cx, rfl, hrx, hcx, hmx⟩ := hu.rd HWU.out
  obtain ⟨Ay, cy, rfl, hry, hcy, hmy⟩ := hv.rd HLB.out
  rw [HWL.out] at hrx hcx ⊢
  have hb46 : Below w4.heap.size w4 w6 := below_grown HB5.out hG6 HB5.out.size (fun k e => by injection e with e; have := HG5.out; omega)
  obtain ⟨w7, hw7⟩ : ∃ w7, w6.alloc (.cells #[.slice Ax ms cx, .slice Ay L.length cy] 27) = w7 := ⟨_, rfl⟩
  have hb7 : Below w6.heap.size w6 w7 := by rw [← hw7]; exact (Below.refl _ _).alloc (Nat.le_refl _) _
  have hx7 : Blk w7 w6.heap.size 27 [.slice Ax ms cx, .slice Ay L.length cy] := by rw [← hw7]; exact Blk.new w6 _ _
  have hb47 : Below w4.heap.size w4 w7 := hb46.trans (hb7.mono hb46.size)
  have HX7 := hid hx7
  have HRX7 := hid (((hrx.keep (w' := w7) fun p hp => hb7.cell hp).more hb7.size))
  have HRY7 := hid (((hry.keep (w' := w7) fun p hp => hb7.cell hp).more hb7.size))
  have HRU7 := hid ((HRU4.out.keep (w' := w7) fun p hp => hb47.cell hp).more hb47.size)
  have HRV7 := hid ((HRV4.out.keep (w' := w7) fun p hp => hb47.cell hp).more hb47.size)
  have HX47 := hid (HX4.out.below hb47 HX4.out.lt)
  have hb17 := HB14.out.trans (hb47.mono HB14.out.size)
  have HRB7 := hid ((HRB.out w7 hb17).more hb17.size)
  have HB7 := hid (HB1.out.trans (hb17.mono HB1.out.size))
  have HSM := hid (fun (W : World) (hb : Below w7.heap.size w7 W) => same_any Au ms cu Ax cx ws Av L.length cv Ay cy L W w7.heap.size (HRU7.out.keep (w' := W) fun p hp => hb.cell hp) (HRX7.out.keep (w' := W) fun p hp => hb.cell hp) (HRV7.out.keep (w' := W) fun p hp => hb.cell hp) (HRY7.out.keep (w' := W) fun p hp => hb.cell hp) hb.size (by have := HLN.out; omega))
  have HBD := hid (fun (i : Int) (W : World) (hb : Below w7.heap.size w7 W) => bad_any Au ms cu Av L.length cv L i W w7.heap.size (HRV7.out.keep (w' := W) fun p hp => hb.cell hp) hb.size (by have := HLN.out; omega))
  have CF0 := hid (fun (W : World) (hW : Below w7.heap.size w7 W) => ((HX47.out.below hW HX47.out.lt).cell (i := 0) rfl))
  have CF1 := hid (fun (W : World) (hW : Below w7.heap.size w7 W) => ((HX47.out.below hW HX47.out.lt).cell (i := 1) rfl))
  have kc0 := CF0.out w7 (Below.refl _ _)
  have kc1 := CF1.out w7 (Below.refl _ _)
  clear hu hv hrx hry hG6 hb46 hb7 hx7 hb47 hb17 HGP HRU4 HRV4 HX4
  go_wp2_with fail
  clear hw7
  go_loopw [16] (fun v wr => ∃ k : Nat, k ≤ ms ∧ v = .int .i64 k ∧ Below w7.heap.size w7 wr) (fun v _ => ms - (intOf v).toNat)
  case atStart => exact ⟨0, Nat.zero_le _, rfl, Below.refl _ _⟩
  case round =>
    obtain ⟨k, hk, rfl, hb⟩ := hrel
    have d0 := CF0.out wr hb
    have d1 := CF1.out wr hb
    have HBW := hid hb
    clear hb kc0 kc1
    by_cases hlt : k < ms
    · obtain ⟨z, hz1, hz2⟩ := HAT.out k hlt
      obtain ⟨bb, ob, rfl, hbb, hcb'⟩ := HRB7.out.word hz1
      obtain ⟨bu, ou, rfl, hbu, hcu'⟩ := HRU7.out.word hz2
      have hq : ((k : Int)) / 512 = ((k / 512 : Nat) : Int) := by omega
      have CC1 := hid (fun (W : World) (hW : Below w7.heap.size w7 W) => (hW.cell (p := ⟨bb, ob + k, none⟩) hbb).trans hcb')
      have CC2 := hid (fun (W : World) (hW : Below w7.heap.size w7 W) => (hW.cell (p := ⟨bu, ou + k, none⟩) hbu).trans hcu')
      have hkN : k < N := by omega
      have hwq : IntKind.i64.wrap ((k / 512 : Nat) : Int) = ((k / 512 : Nat) : Int) := IntWalk.i64_in _ (by omega)
      clear hz1 hz2 hcb' hcu'
      generalize k / 512 = q at *
      by_cases hh : M.has L q = true
      · rw [if_pos hh] at CC2
        have HHS := hid hh
        clear hh
        go_wp2_with fail
        refine wp_region_held_drew (S := fun W => Below w7.heap.size w7 W) (by kernel_rfl) (below_drew' HBW.out) (fun hS => ?_)
        refine takeH (i := 0) (v := ?_) 60 rfl rfl (by kernel_rfl) (by kernel_rfl) (by kernel_rfl) (fun _ _ _ h => h) (by rfl) ?hya0 hS ?resta0
        case hya0 => (intro W hW; have f0 := CF0.out W hW; have f1 := CF1.out W hW; have f2 := CC1.out W hW; have f3 := CC2.out W hW; clear hW; go_simp; first | done | with_reducible rfl)
        try simp only [Act.put, List.setIfInBounds_toArray, List.set_cons_zero, List.set_cons_succ]
        refine takeH (i := 1) (v := ?_) 61 rfl rfl (by kernel_rfl) (by kernel_rfl) (by kernel_rfl) (fun _ _ _ h => h) (by rfl) ?hya1 hS ?resta1
        case hya1 => (intro W hW; have f0 := CF0.out W hW; have f1 := CF1.out W hW; have f2 := CC1.out W hW; have f3 := CC2.out W hW; clear hW; go_simp; first | done | with_reducible rfl)
        try simp only [Act.put, List.setIfInBounds_toArray, List.set_cons_zero, List.set_cons_succ]
        refine takeH (i := 2) (v := ?_) 62 rfl rfl (by kernel_rfl) (by kernel_rfl) (by kernel_rfl) (fun _ _ _ h => h) (by rfl) ?hya2 hS ?resta2
        case hya2 => (intro W hW; have f0 := CF0.out W hW; have f1 := CF1.out W hW; have f2 := CC1.out W hW; have f3 := CC2.out W hW; clear hW; go_simp; first | done | with_reducible rfl)
        try simp only [Act.put, List.setIfInBounds_toArray, List.set_cons_zero, List.set_cons_succ]
        refine loneH (i := 3) 63 rfl rfl (by kernel_rfl) (by rfl) (fun K hK => ?_)
        go_simp
        (with_reducible refine (HBD.out _ _ hS).mono ?_)
        rintro e w8 ⟨rfl, bb⟩
        rw [HHS.out]
        have B8 := hS.trans (bb.mono hS.size)
        clear bb hS
        refine hK.out _ _ B8 (fun hS => ?_)
        clear hK K
        try simp only [Act.put, List.setIfInBounds_toArray, List.set_cons_zero, List.set_cons_succ]
        refine takeH (i := 4) (v := ?_) 64 rfl rfl (by kernel_rfl) (by kernel_rfl) (by kernel_rfl) (fun _ _ _ h => h) (by rfl) ?hya4 hS ?resta4
        case hya4 => (intro W hW; have f0 := CF0.out W hW; have f1 := CF1.out W hW; have f2 := CC1.out W hW; have f3 := CC2.out W hW; clear hW; go_simp; first | done | with_reducible rfl)
        try simp only [Act.put, List.setIfInBounds_toArray, List.set_cons_zero, List.set_cons_succ]
        refine takeH (i := 5) (v := ?_) 65 rfl rfl (by kernel_rfl) (by kernel_rfl) (by kernel_rfl) (fun _ _ _ h => h) (by rfl) ?hya5 hS ?resta5
        case hya5 => (intro W hW; have f0 := CF0.out W hW; have f1 := CF1.out W hW; have f2 := CC1.out W hW; have f3 := CC2.out W hW; clear hW; go_simp; first | done | with_reducible rfl)
        try simp only [Act.put, List.setIfInBounds_toArray, List.set_cons_zero, List.set_cons_succ]
        refine takeH (i := 6) (v := ?_) 66 rfl rfl (by kernel_rfl) (by kernel_rfl) (by kernel_rfl) (fun _ _ _ h => h) (by rfl) ?hya6 hS ?resta6
        case hya6 => (intro W hW; have f0 := CF0.out W hW; have f1 := CF1.out W hW; have f2 := CC1.out W hW; have f3 := CC2.out W hW; clear hW; go_simp; first | done | with_reducible rfl)
        try simp only [Act.put, List.setIfInBounds_toArray, List.set_cons_zero, List.set_cons_succ]
        refine takeH (i := 7) (v := ?_) 67 rfl rfl (by kernel_rfl) (by kernel_rfl) (by kernel_rfl) (fun _ _ _ h => h) (by rfl) ?hya7 hS ?resta7
        case hya7 => (intro W hW; have f0 := CF0.out W hW; have f1 := CF1.out W hW; have f2 := CC1.out W hW; have f3 := CC2.out W hW; clear hW; go_simp; first | done | with_reducible rfl)
        try simp only [Act.put, List.setIfInBounds_toArray, List.set_cons_zero, List.set_cons_succ]
        refine takeH (i := 8) (v := ?_) 68 rfl rfl (by kernel_rfl) (by kernel_rfl) (by kernel_rfl) (fun _ _ _ h => h) (by rfl) ?hya8 hS ?resta8
        case hya8 => (intro W hW; have f0 := CF0.out W hW; have f1 := CF1.out W hW; have f2 := CC1.out W hW; have f3 := CC2.out W hW; clear hW; go_simp; first | done | with_reducible rfl)
        try simp only [Act.put, List.setIfInBounds_toArray, List.set_cons_zero, List.set_cons_succ]
        refine takeH (i := 9) (v := ?_) 69 rfl rfl (by kernel_rfl) (by kernel_rfl) (by kernel_rfl) (fun _ _ _ h => h) (by rfl) ?hya9 hS ?resta9
        case hya9 => (intro W hW; have f0 := CF0.out W hW; have f1 := CF1.out W hW; have f2 := CC1.out W hW; have f3 := CC2.out W hW; clear hW; go_simp; first | done | with_reducible rfl)
        try simp only [Act.put, List.setIfInBounds_toArray, List.set_cons_zero, List.set_cons_succ]
        refine takeH (i := 10) (v := ?_) 70 rfl rfl (by kernel_rfl) (by kernel_rfl) (by kernel_rfl) (fun _ _ _ h => h) (by rfl) ?hya10 hS ?resta10
        case hya10 => (intro W hW; have f0 := CF0.out W hW; have f1 := CF1.out W hW; have f2 := CC1.out W hW; have f3 := CC2.out W hW; clear hW; go_simp; first | done | with_reducible rfl)
        try simp only [Act.put, List.setIfInBounds_toArray, List.set_cons_zero, List.set_cons_succ]
        refine takeH (i := 11) (v := ?_) 71 rfl rfl (by kernel_rfl) (by kernel_rfl) (by kernel_rfl) (fun _ _ _ h => h) (by rfl) ?hya11 hS ?resta11
        case hya11 => (intro W hW; have f0 := CF0.out W hW; have f1 := CF1.out W hW; have f2 := CC1.out W hW; have f3 := CC2.out W hW; clear hW; go_simp; first | done | with_reducible rfl)
        try simp only [Act.put, List.setIfInBounds_toArray, List.set_cons_zero, List.set_cons_succ]
        refine takeH (i := 12) (v := ?_) 72 rfl rfl (by kernel_rfl) (by kernel_rfl) (by kernel_rfl) (fun _ _ _ h => h) (by rfl) ?hya12 hS ?resta12
        case hya12 => (intro W hW; have f0 := CF0.out W hW; have f1 := CF1.out W hW; have f2 := CC1.out W hW; have f3 := CC2.out W hW; clear hW; go_simp; first | done | with_reducible rfl)
        try simp only [Act.put, List.setIfInBounds_toArray, List.set_cons_zero, List.set_cons_succ]
        refine takeH (i := 13) (v := ?_) 73 rfl rfl (by kernel_rfl) (by kernel_rfl) (by kernel_rfl) (fun _ _ _ h => h) (by rfl) ?hya13 hS ?resta13
        case hya13 => (intro W hW; have f0 := CF0.out W hW; have f1 := CF1.out W hW; have f2 := CC1.out W hW; have f3 := CC2.out W hW; clear hW; go_simp; first | done | with_reducible rfl)
        try simp only [Act.put, List.setIfInBounds_toArray, List.set_cons_zero, List.set_cons_succ]
        refine takeH (i := 14) (v := ?_) 74 rfl rfl (by kernel_rfl) (by kernel_rfl) (by kernel_rfl) (fun _ _ _ h => h) (by rfl) ?hya14 hS ?resta14
        case hya14 => (intro W hW; have f0 := CF0.out W hW; have f1 := CF1.out W hW; have f2 := CC1.out W hW; have f3 := CC2.out W hW; clear hW; go_simp; first | done | with_reducible rfl)
        try simp only [Act.put, List.setIfInBounds_toArray, List.set_cons_zero, List.set_cons_succ]
        refine takeH (i := 15) (v := ?_) 75 rfl rfl (by kernel_rfl) (by kernel_rfl) (by kernel_rfl) (fun _ _ _ h => h) (by rfl) ?hya15 hS ?resta15
        case hya15 => (intro W hW; have f0 := CF0.out W hW; have f1 := CF1.out W hW; have f2 := CC1.out W hW; have f3 := CC2.out W hW; clear hW; go_simp; first | done | with_reducible rfl)
        try simp only [Act.put, List.setIfInBounds_toArray, List.set_cons_zero, List.set_cons_succ]
        refine loneH (i := 16) 76 rfl rfl (by kernel_rfl) (by rfl) (fun K hK => ?_)
        go_simp
        (with_reducible refine (HBD.out _ _ hS).mono ?_)
        rintro e w9 ⟨rfl, bb⟩
        rw [HHS.out]
        have B9 := hS.trans (bb.mono hS.size)
        clear bb hS
        refine hK.out _ _ B9 (fun hS => ?_)
        clear hK K
        try simp only [Act.put, List.setIfInBounds_toArray, List.set_cons_zero, List.set_cons_succ]
        refine takeH (i := 17) (v := ?_) 77 rfl rfl (by kernel_rfl) (by kernel_rfl) (by kernel_rfl) (fun _ _ _ h => h) (by rfl) ?hya17 hS ?resta17
        case hya17 => (intro W hW; have f0 := CF0.out W hW; have f1 := CF1.out W hW; have f2 := CC1.out W hW; have f3 := CC2.out W hW; clear hW; go_simp; first | done | with_reducible rfl)
        try simp only [Act.put, List.setIfInBounds_toArray, List.set_cons_zero, List.set_cons_succ]
        refine takeH (i := 18) (v := ?_) 78 rfl rfl (by kernel_rfl) (by kernel_rfl) (by kernel_rfl) (fun _ _ _ h => h) (by rfl) ?hya18 hS ?resta18
        case hya18 => (intro W hW; have f0 := CF0.out W hW; have f1 := CF1.out W hW; have f2 := CC1.out W hW; have f3 := CC2.out W hW; clear hW; go_simp; first | done | with_reducible rfl)
        try simp only [Act.put, List.setIfInBounds_toArray, List.set_cons_zero, List.set_cons_succ]
        refine skipH (i := 19) 79 rfl rfl (by kernel_rfl) (by kernel_rfl) (by kernel_rfl) (fun _ _ _ h => h) (by rfl) hS ?_
        try simp only [Act.put, List.setIfInBounds_toArray, List.set_cons_zero, List.set_cons_succ]
        refine skipH (i := 20) 80 rfl rfl (by kernel_rfl) (by kernel_rfl) (by kernel_rfl) (fun _ _ _ h => h) (by rfl) hS ?_
        try simp only [Act.put, List.setIfInBounds_toArray, List.set_cons_zero, List.set_cons_succ]
        refine skipH (i := 21) 81 rfl rfl (by kernel_rfl) (by kernel_rfl) (by kernel_rfl) (fun _ _ _ h => h) (by rfl) hS ?_
        try simp only [Act.put, List.setIfInBounds_toArray, List.set_cons_zero, List.set_cons_succ]
        refine skipH (i := 22) 82 rfl rfl (by kernel_rfl) (by kernel_rfl) (by kernel_rfl) (fun _ _ _ h => h) (by rfl) hS ?_
        try simp only [Act.put, List.setIfInBounds_toArray, List.set_cons_zero, List.set_cons_succ]
        refine skipH (i := 23) 83 rfl rfl (by kernel_rfl) (by kernel_rfl) (by kernel_rfl) (fun _ _ _ h => h) (by rfl) hS ?_
        try simp only [Act.put, List.setIfInBounds_toArray, List.set_cons_zero, List.set_cons_succ]
        refine skipH (i := 24) 84 rfl rfl (by kernel_rfl) (by kernel_rfl) (by kernel_rfl) (fun _ _ _ h => h) (by rfl) hS ?_
        try simp only [Act.put, List.setIfInBounds_toArray, List.set_cons_zero, List.set_cons_succ]
        refine skipH (i := 25) 85 rfl rfl (by kernel_rfl) (by kernel_rfl) (by kernel_rfl) (fun _ _ _ h => h) (by rfl) hS ?_
        try simp only [Act.put, List.setIfInBounds_toArray, List.set_cons_zero, List.set_cons_succ]
        refine skipH (i := 26) 86 rfl rfl (by kernel_rfl) (by kernel_rfl) (by kernel_rfl) (fun _ _ _ h => h) (by rfl) hS ?_
        try simp only [Act.put, List.setIfInBounds_toArray, List.set_cons_zero, List.set_cons_succ]
        refine skipH (i := 27) 87 rfl rfl (by kernel_rfl) (by kernel_rfl) (by kernel_rfl) (fun _ _ _ h => h) (by rfl) hS ?_
        try simp only [Act.put, List.setIfInBounds_toArray, List.set_cons_zero, List.set_cons_succ]
        refine skipH (i := 28) 88 rfl rfl (by kernel_rfl) (by kernel_rfl) (by kernel_rfl) (fun _ _ _ h => h) (by rfl) hS ?_
        try simp only [Act.put, List.setIfInBounds_toArray, List.set_cons_zero, List.set_cons_succ]
        refine takeH (i := 29) (v := ?_) 89 rfl rfl (by kernel_rfl) (by kernel_rfl) (by kernel_rfl) (fun _ _ _ h => h) (by rfl) ?hya29 hS ?resta29
        case hya29 => (intro W hW; have f0 := CF0.out W hW; have f1 := CF1.out W hW; have f2 := CC1.out W hW; have f3 := CC2.out W hW; clear hW; go_simp; first | done | with_reducible rfl)
        try simp only [Act.put, List.setIfInBounds_toArray, List.set_cons_zero, List.set_cons_succ]
        refine takeH (i := 30) (v := ?_) 90 rfl rfl (by kernel_rfl) (by kernel_rfl) (by kernel_rfl) (fun _ _ _ h => h) (by rfl) ?hya30 hS ?resta30
        case hya30 => (intro W hW; have f0 := CF0.out W hW; have f1 := CF1.out W hW; have f2 := CC1.out W hW; have f3 := CC2.out W hW; clear hW; go_simp; first | done | with_reducible rfl)
        try simp only [Act.put, List.setIfInBounds_toArray, List.set_cons_zero, List.set_cons_succ]
        refine wpAnyH_done (by kernel_rfl) ?_ _
        go_wp2
        go_roundw
        case rel => exact ⟨k + 1, by omega, by go_num, B9⟩
        case measure => simp [intOf]; omega
      · rw [if_neg hh] at CC2
        have HHS : Hid (M.has L q = false) := hid (by simpa using hh)
        have hzz : (z != z) = false := by simp
        clear hh
        go_wp2_with fail
        refine wp_region_held_drew (S := fun W => Below w7.heap.size w7 W) (by kernel_rfl) (below_drew' HBW.out) (fun hS => ?_)
        refine takeH (i := 0) (v := ?_) 60 rfl rfl (by kernel_rfl) (by kernel_rfl) (by kernel_rfl) (fun _ _ _ h => h) (by rfl) ?hyb0 hS ?restb0
        case hyb0 => (intro W hW; have f0 := CF0.out W hW; have f1 := CF1.out W hW; have f2 := CC1.out W hW; have f3 := CC2.out W hW; clear hW; go_simp; first | done | with_reducible rfl)
        try simp only [Act.put, List.setIfInBounds_toArray, List.set_cons_zero, List.set_cons_succ]
        refine takeH (i := 1) (v := ?_) 61 rfl rfl (by kernel_rfl) (by kernel_rfl) (by kernel_rfl) (fun _ _ _ h => h) (by rfl) ?hyb1 hS ?restb1
        case hyb1 => (intro W hW; have f0 := CF0.out W hW; have f1 := CF1.out W hW; have f2 := CC1.out W hW; have f3 := CC2.out W hW; clear hW; go_simp; first | done | with_reducible rfl)
        try simp only [Act.put, List.setIfInBounds_toArray, List.set_cons_zero, List.set_cons_succ]
        refine takeH (i := 2) (v := ?_) 62 rfl rfl (by kernel_rfl) (by kernel_rfl) (by kernel_rfl) (fun _ _ _ h => h) (by rfl) ?hyb2 hS ?restb2
        case hyb2 => (intro W hW; have f0 := CF0.out W hW; have f1 := CF1.out W hW; have f2 := CC1.out W hW; have f3 := CC2.out W hW; clear hW; go_simp; first | done | with_reducible rfl)
        try simp only [Act.put, List.setIfInBounds_toArray, List.set_cons_zero, List.set_cons_succ]
        refine loneH (i := 3) 63 rfl rfl (by kernel_rfl) (by rfl) (fun K hK => ?_)
        go_simp
        (with_reducible refine (HBD.out _ _ hS).mono ?_)
        rintro e w8 ⟨rfl, bb⟩
        rw [HHS.out]
        have B8 := hS.trans (bb.mono hS.size)
        clear bb hS
        refine hK.out _ _ B8 (fun hS => ?_)
        clear hK K
        try simp only [Act.put, List.setIfInBounds_toArray, List.set_cons_zero, List.set_cons_succ]
        refine takeH (i := 4) (v := ?_) 64 rfl rfl (by kernel_rfl) (by kernel_rfl) (by kernel_rfl) (fun _ _ _ h => h) (by rfl) ?hyb4 hS ?restb4
        case hyb4 => (intro W hW; have f0 := CF0.out W hW; have f1 := CF1.out W hW; have f2 := CC1.out W hW; have f3 := CC2.out W hW; clear hW; go_simp; first | done | with_reducible rfl)
        try simp only [Act.put, List.setIfInBounds_toArray, List.set_cons_zero, List.set_cons_succ]
        refine skipH (i := 5) 65 rfl rfl (by kernel_rfl) (by kernel_rfl) (by kernel_rfl) (fun _ _ _ h => h) (by rfl) hS ?_
        try simp only [Act.put, List.setIfInBounds_toArray, List.set_cons_zero, List.set_cons_succ]
        refine skipH (i := 6) 66 rfl rfl (by kernel_rfl) (by kernel_rfl) (by kernel_rfl) (fun _ _ _ h => h) (by rfl) hS ?_
        try simp only [Act.put, List.setIfInBounds_toArray, List.set_cons_zero, List.set_cons_succ]
        refine skipH (i := 7) 67 rfl rfl (by kernel_rfl) (by kernel_rfl) (by kernel_rfl) (fun _ _ _ h => h) (by rfl) hS ?_
        try simp only [Act.put, List.setIfInBounds_toArray, List.set_cons_zero, List.set_cons_succ]
        refine skipH (i := 8) 68 rfl rfl (by kernel_rfl) (by kernel_rfl) (by kernel_rfl) (fun _ _ _ h => h) (by rfl) hS ?_
        try simp only [Act.put, List.setIfInBounds_toArray, List.set_cons_zero, List.set_cons_succ]
        refine skipH (i := 9) 69 rfl rfl (by kernel_rfl) (by kernel_rfl) (by kernel_rfl) (fun _ _ _ h => h) (by rfl) hS ?_
        try simp only [Act.put, List.setIfInBounds_toArray, List.set_cons_zero, List.set_cons_succ]
        refine skipH (i := 10) 70 rfl rfl (by kernel_rfl) (by kernel_rfl) (by kernel_rfl) (fun _ _ _ h => h) (by rfl) hS ?_
        try simp only [Act.put, List.setIfInBounds_toArray, List.set_cons_zero, List.set_cons_succ]
        refine takeH (i := 11) (v := ?_) 71 rfl rfl (by kernel_rfl) (by kernel_rfl) (by kernel_rfl) (fun _ _ _ h => h) (by rfl) ?hyb11 hS ?restb11
        case hyb11 => (intro W hW; have f0 := CF0.out W hW; have f1 := CF1.out W hW; have f2 := CC1.out W hW; have f3 := CC2.out W hW; clear hW; go_simp; first | done | with_reducible rfl)
        try simp only [Act.put, List.setIfInBounds_toArray, List.set_cons_zero, List.set_cons_succ]
        refine takeH (i := 12) (v := ?_) 72 rfl rfl (by kernel_rfl) (by kernel_rfl) (by kernel_rfl) (fun _ _ _ h => h) (by rfl) ?hyb12 hS ?restb12
        case hyb12 => (intro W hW; have f0 := CF0.out W hW; have f1 := CF1.out W hW; have f2 := CC1.out W hW; have f3 := CC2.out W hW; clear hW; go_simp; first | done | with_reducible rfl)
        try simp only [Act.put, List.setIfInBounds_toArray, List.set_cons_zero, List.set_cons_succ]
        refine takeH (i := 13) (v := ?_) 73 rfl rfl (by kernel_rfl) (by kernel_rfl) (by kernel_rfl) (fun _ _ _ h => h) (by rfl) ?hyb13 hS ?restb13
        case hyb13 => (intro W hW; have f0 := CF0.out W hW; have f1 := CF1.out W hW; have f2 := CC1.out W hW; have f3 := CC2.out W hW; clear hW; go_simp; first | done | with_reducible rfl)
        try simp only [Act.put, List.setIfInBounds_toArray, List.set_cons_zero, List.set_cons_succ]
        refine takeH (i := 14) (v := ?_) 74 rfl rfl (by kernel_rfl) (by kernel_rfl) (by kernel_rfl) (fun _ _ _ h => h) (by rfl) ?hyb14 hS ?restb14
        case hyb14 => (intro W hW; have f0 := CF0.out W hW; have f1 := CF1.out W hW; have f2 := CC1.out W hW; have f3 := CC2.out W hW; clear hW; go_simp; first | done | with_reducible rfl)
        try simp only [Act.put, List.setIfInBounds_toArray, List.set_cons_zero, List.set_cons_succ]
        refine takeH (i := 15) (v := ?_) 75 rfl rfl (by kernel_rfl) (by kernel_rfl) (by kernel_rfl) (fun _ _ _ h => h) (by rfl) ?hyb15 hS ?restb15
        case hyb15 => (intro W hW; have f0 := CF0.out W hW; have f1 := CF1.out W hW; have f2 := CC1.out W hW; have f3 := CC2.out W hW; clear hW; go_simp; first | done | with_reducible rfl)
        try simp only [Act.put, List.setIfInBounds_toArray, List.set_cons_zero, List.set_cons_succ]
        refine loneH (i := 16) 76 rfl rfl (by kernel_rfl) (by rfl) (fun K hK => ?_)
        go_simp
        (with_reducible refine (HBD.out _ _ hS).mono ?_)
        rintro e w9 ⟨rfl, bb⟩
        rw [HHS.out]
        have B9 := hS.trans (bb.mono hS.size)
        clear bb hS
        refine hK.out _ _ B9 (fun hS => ?_)
        clear hK K
        try simp only [Act.put, List.setIfInBounds_toArray, List.set_cons_zero, List.set_cons_succ]
        refine takeH (i := 17) (v := ?_) 77 rfl rfl (by kernel_rfl) (by kernel_rfl) (by kernel_rfl) (fun _ _ _ h => h) (by rfl) ?hyb17 hS ?restb17
        case hyb17 => (intro W hW; have f0 := CF0.out W hW; have f1 := CF1.out W hW; have f2 := CC1.out W hW; have f3 := CC2.out W hW; clear hW; go_simp; first | done | with_reducible rfl)
        try simp only [Act.put, List.setIfInBounds_toArray, List.set_cons_zero, List.set_cons_succ]
        refine takeH (i := 18) (v := ?_) 78 rfl rfl (by kernel_rfl) (by kernel_rfl) (by kernel_rfl) (fun _ _ _ h => h) (by rfl) ?hyb18 hS ?restb18
        case hyb18 => (intro W hW; have f0 := CF0.out W hW; have f1 := CF1.out W hW; have f2 := CC1.out W hW; have f3 := CC2.out W hW; clear hW; go_simp; first | done | with_reducible rfl)
        try simp only [Act.put, List.setIfInBounds_toArray, List.set_cons_zero, List.set_cons_succ]
        refine takeH (i := 19) (v := ?_) 79 rfl rfl (by kernel_rfl) (by kernel_rfl) (by kernel_rfl) (fun _ _ _ h => h) (by rfl) ?hyb19 hS ?restb19
        case hyb19 => (intro W hW; have f0 := CF0.out W hW; have f1 := CF1.out W hW; have f2 := CC1.out W hW; have f3 := CC2.out W hW; clear hW; go_simp; first | done | with_reducible rfl)
        try simp only [Act.put, List.setIfInBounds_toArray, List.set_cons_zero, List.set_cons_succ]
        refine takeH (i := 20) (v := ?_) 80 rfl rfl (by kernel_rfl) (by kernel_rfl) (by kernel_rfl) (fun _ _ _ h => h) (by rfl) ?hyb20 hS ?restb20
        case hyb20 => (intro W hW; have f0 := CF0.out W hW; have f1 := CF1.out W hW; have f2 := CC1.out W hW; have f3 := CC2.out W hW; clear hW; go_simp; first | done | with_reducible rfl)
        try simp only [Act.put, List.setIfInBounds_toArray, List.set_cons_zero, List.set_cons_succ]
        refine takeH (i := 21) (v := ?_) 81 rfl rfl (by kernel_rfl) (by kernel_rfl) (by kernel_rfl) (fun _ _ _ h => h) (by rfl) ?hyb21 hS ?restb21
        case hyb21 => (intro W hW; have f0 := CF0.out W hW; have f1 := CF1.out W hW; have f2 := CC1.out W hW; have f3 := CC2.out W hW; clear hW; go_simp; first | done | with_reducible rfl)
        try simp only [Act.put, List.setIfInBounds_toArray, List.set_cons_zero, List.set_cons_succ]
        refine takeH (i := 22) (v := ?_) 82 rfl rfl (by kernel_rfl) (by kernel_rfl) (by kernel_rfl) (fun _ _ _ h => h) (by rfl) ?hyb22 hS ?restb22
        case hyb22 => (intro W hW; have f0 := CF0.out W hW; have f1 := CF1.out W hW; have f2 := CC1.out W hW; have f3 := CC2.out W hW; clear hW; go_simp; first | done | with_reducible rfl)
        try simp only [Act.put, List.setIfInBounds_toArray, List.set_cons_zero, List.set_cons_succ]
        refine takeH (i := 23) (v := ?_) 83 rfl rfl (by kernel_rfl) (by kernel_rfl) (by kernel_rfl) (fun _ _ _ h => h) (by rfl) ?hyb23 hS ?restb23
        case hyb23 => (intro W hW; have f0 := CF0.out W hW; have f1 := CF1.out W hW; have f2 := CC1.out W hW; have f3 := CC2.out W hW; clear hW; go_simp; first | done | with_reducible rfl)
        try simp only [Act.put, List.setIfInBounds_toArray, List.set_cons_zero, List.set_cons_succ]
        refine takeH (i := 24) (v := ?_) 84 rfl rfl (by kernel_rfl) (by kernel_rfl) (by kernel_rfl) (fun _ _ _ h => h) (by rfl) ?hyb24 hS ?restb24
        case hyb24 => (intro W hW; have f0 := CF0.out W hW; have f1 := CF1.out W hW; have f2 := CC1.out W hW; have f3 := CC2.out W hW; clear hW; go_simp; first | done | with_reducible rfl)
        try simp only [Act.put, List.setIfInBounds_toArray, List.set_cons_zero, List.set_cons_succ]
        refine takeH (i := 25) (v := ?_) 85 rfl rfl (by kernel_rfl) (by kernel_rfl) (by kernel_rfl) (fun _ _ _ h => h) (by rfl) ?hyb25 hS ?restb25
        case hyb25 => (intro W hW; have f0 := CF0.out W hW; have f1 := CF1.out W hW; have f2 := CC1.out W hW; have f3 := CC2.out W hW; clear hW; go_simp; first | done | with_reducible rfl)
        try simp only [Act.put, List.setIfInBounds_toArray, List.set_cons_zero, List.set_cons_succ]
        refine takeH (i := 26) (v := ?_) 86 rfl rfl (by kernel_rfl) (by kernel_rfl) (by kernel_rfl) (fun _ _ _ h => h) (by rfl) ?hyb26 hS ?restb26
        case hyb26 => (intro W hW; have f0 := CF0.out W hW; have f1 := CF1.out W hW; have f2 := CC1.out W hW; have f3 := CC2.out W hW; clear hW; go_simp; first | done | with_reducible rfl)
        try simp only [Act.put, List.setIfInBounds_toArray, List.set_cons_zero, List.set_cons_succ]
        refine takeH (i := 27) (v := ?_) 87 rfl rfl (by kernel_rfl) (by kernel_rfl) (by kernel_rfl) (fun _ _ _ h => h) (by rfl) ?hyb27 hS ?restb27
        case hyb27 => (intro W hW; have f0 := CF0.out W hW; have f1 := CF1.out W hW; have f2 := CC1.out W hW; have f3 := CC2.out W hW; clear hW; go_simp; first | done | with_reducible rfl)
        try simp only [Act.put, List.setIfInBounds_toArray, List.set_cons_zero, List.set_cons_succ]
        refine takeH (i := 28) (v := ?_) 88 rfl rfl (by kernel_rfl) (by kernel_rfl) (by kernel_rfl) (fun _ _ _ h => h) (by rfl) ?hyb28 hS ?restb28
        case hyb28 => (intro W hW; have f0 := CF0.out W hW; have f1 := CF1.out W hW; have f2 := CC1.out W hW; have f3 := CC2.out W hW; clear hW; go_simp; first | done | with_reducible rfl)
        try simp only [Act.put, List.setIfInBounds_toArray, List.set_cons_zero, List.set_cons_succ]
        refine takeH (i := 29) (v := ?_) 89 rfl rfl (by kernel_rfl) (by kernel_rfl) (by kernel_rfl) (fun _ _ _ h => h) (by rfl) ?hyb29 hS ?restb29
        case hyb29 => (intro W hW; have f0 := CF0.out W hW; have f1 := CF1.out W hW; have f2 := CC1.out W hW; have f3 := CC2.out W hW; clear hW; go_simp; first | done | with_reducible rfl)
        try simp only [Act.put, List.setIfInBounds_toArray, List.set_cons_zero, List.set_cons_succ]
        refine takeH (i := 30) (v := ?_) 90 rfl rfl (by kernel_rfl) (by kernel_rfl) (by kernel_rfl) (fun _ _ _ h => h) (by rfl) ?hyb30 hS ?restb30
        case hyb30 => (intro W hW; have f0 := CF0.out W hW; have f1 := CF1.out W hW; have f2 := CC1.out W hW; have f3 := CC2.out W hW; clear hW; go_simp; first | done | with_reducible rfl)
        try simp only [Act.put, List.setIfInBounds_toArray, List.set_cons_zero, List.set_cons_succ]
        refine wpAnyH_done (by kernel_rfl) ?_ _
        go_wp2
        go_roundw
        case rel => exact ⟨k + 1, by omega, by go_num, B9⟩
        case measure => simp [intOf]; omega
    · have HB9 := hid (HB7.out.trans (HBW.out.mono HB7.out.size))
      go_wp2_with fail
      (with_reducible refine (known_any _).mono ?_)
      rintro e w8 ⟨rfl, b8⟩
      have B8 := HBW.out.trans (b8.mono HBW.out.size)
      have k0 := CF0.out w8 B8
      have k1 := CF1.out w8 B8
      have l0 := (HX7.out.below B8 HX7.out.lt).cell (i := 0) rfl
      have l1 := (HX7.out.below B8 HX7.out.lt).cell (i := 1) rfl
      have HS8 := hid (HSM.out w8 B8)
      have HB8 := hid (HB7.out.trans (B8.mono HB7.out.size))
      clear b8 B8 d0 d1
      go_wp2_with fail
      (with_reducible refine HS8.out.mono ?_)
      rintro e w9 ⟨rfl, b9⟩
      go_wp2
      go_ret
      exact ⟨rfl, HB8.out.trans (b9.mono HB8.out.size)⟩

theorem mediumPieces_any (A : Option Addr) (n c : Nat) (zs : List Int) (m : Int) (A1 : Option Addr) (n1 c1 : Nat) (bad : List Int) (E : Int) (A2 : Option Addr) (n2 c2 : Nat) (ss : List Int) (A3 : Option Addr) (n3 c3 : Nat) (s3 : List Int) (w : World)
    (hr : Rd w w.heap.size A n zs) (hn : n ≤ maxLen) (hm : 0 ≤ m ∧ m ≤ 65535) (h1 : RdI w w.heap.size A1 n1 bad) (hn1 : n1 ≤ 140737488355328) (hE : 0 ≤ E ∧ E ≤ 65535) (h2 : RdI w w.heap.size A2 n2 ss) (hn2 : n2 ≤ 140737488355328) (h3 : RdI w w.heap.size A3 n3 s3) (hn3 : n3 ≤ 140737488355328) :
    Calls Try.prog 7 #[.slice A n c, .int .u16 m, .slice A1 n1 c1, .int .u16 E, .slice A2 n2 c2, .slice A3 n3 c3] w fun e w' => e = .returned (.bool true) ∧ Below w.heap.size w w' := by
  obtain ⟨m, rfl⟩ : ∃ j : Nat, m = j := ⟨m.toNat, by omega⟩
  obtain ⟨E, rfl⟩ : ∃ j : Nat, E = j := ⟨E.toNat, by omega⟩
  exact mediumPieces_nat A n c zs m A1 n1 c1 bad E A2 n2 c2 ss A3 n3 c3 s3 w hr hn (by omega) h1 hn1 (by omega) h2 hn2 h3 hn3
end Go.Proofs.Yteneknmbddnkaaa
