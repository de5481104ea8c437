/-
  MediumWhole's walk.
-/
import Derived.Test.YteneknmbddnkaaaMedLaw
import Derived.Test.YteneknmbddnkaaaSumStep
namespace Go.Proofs.Yteneknmbddnkaaa
open Go.RowKit Go.Lib

namespace M
theorem blkI_nat {zs : List Int} {k : Nat} (h : k < cnt zs.length) : blkI zs k = blk zs k := by
  unfold blkI
  rw [if_pos (there_iff.2 ⟨by omega, by omega⟩)]
  rfl
theorem blkI_lo (zs : List Int) : blkI zs (-1) = [] := by
  unfold blkI
  rw [if_neg (fun h => by have := (there_iff.1 h).1; omega)]
theorem blkI_hi (zs : List Int) : blkI zs (cnt zs.length : Nat) = [] := by
  unfold blkI
  rw [if_neg (fun h => by have := (there_iff.1 h).2; omega)]
end M

set_option maxRecDepth 100000 in
set_option maxHeartbeats 4000000 in
theorem mediumWhole_nat (A : Option Addr) (n c : Nat) (zs : List Int) (m : Nat) (w : World) (hr : Rd w w.heap.size A n zs) (hn : n ≤ maxLen) (hm : m ≤ 65535) :
    Calls Try.prog 8 #[.slice A n c, .int .u16 m] w fun e w' => e = .returned (.bool true) ∧ Below w.heap.size w w' := by
  have hN1 : m % 3000 ≤ 2999 := by omega
  have HB := hid (bytes_any A n c zs m w w.heap.size hr (Nat.le_refl _) hm hn)
  have HBL := hid (M.bytes_len zs (m % 3000))
  have HBU : Hid (u8s (M.bytes zs (m % 3000))) := hid (M.bytes_bd zs (m % 3000))
  clear hr
  generalize M.bytes zs (m % 3000) = bz at *
  generalize m % 3000 = N at *
  have hnil : M.bads N [] = [] := by
    refine M.rise_ext (M.bads_rise N []) (by simp) (fun x => ?_)
    rw [M.mem_bads]
    simp
  have HM := hid (fun (Ab : Option Addr) (cb : Nat) (W : World) (hrr : Rd W W.heap.size Ab N bz) => make_any Ab N cb bz none 0 0 [] W W.heap.size hrr RdI.none_ (Nat.le_refl _) (by omega) (by omega))
  rw [hnil, M.wipe_nil] at HM
  clear hnil
  go_enter Try.func8, Try.ntmps8
  go_wp2_with fail
  (with_reducible refine HB.out.mono ?_)
  rintro e w1 ⟨v1, rfl, hv1, b1⟩
  obtain ⟨Ab, cb, rfl, hrb, hcb, hmb⟩ := hv1.rd HBU.out
  rw [HBL.out] at hrb hcb ⊢
  have HM1 := hid (HM.out Ab cb w1 hrb)
  have HB1 := hid b1
  clear hv1 hrb b1 HM
  go_wp2_with fail
  (with_reducible refine HM1.out.mono ?_)
  rintro e w2 ⟨u, v, rfl, hu, hv, b2⟩
  obtain ⟨Au, cu, rfl, hru, hcu, hmu⟩ := hu.rd HBU.out
  obtain ⟨Av, cv, rfl, hrv, hcv, hmv⟩ := hv.rd (by unfold i64s; simp)
  rw [HBL.out] at hru hcu ⊢
  rw [List.length_nil] at hrv hcv ⊢
  have hB2 := HB1.out.trans (b2.mono HB1.out.size)
  obtain ⟨w3, hw3⟩ : ∃ w3, w2.alloc (.cells #[.slice Au N cu, .slice Av 0 cv] 27) = w3 := ⟨_, rfl⟩
  have hb3 : Below w2.heap.size w2 w3 := by rw [← hw3]; exact (Below.refl _ _).alloc (Nat.le_refl _) _
  have hx3 : Blk w3 w2.heap.size 27 [.slice Au N cu, .slice Av 0 cv] := by rw [← hw3]; exact Blk.new w2 _ _
  have hru3 := (hru.keep (w' := w3) fun p hp => hb3.cell hp)
  have HX3 := hid hx3
  have HRU := hid (fun (W : World) (hb : Below w3.heap.size w3 W) => hru3.keep (w' := W) fun p hp => hb.cell (Nat.lt_of_lt_of_le hp hb3.size))
  have HB3 := hid (hB2.trans (hb3.mono hB2.size))
  have HS3 := hid hb3.size
  have HCN := hid (fun W => count_any Au N cu Av 0 cv W (by omega))
  have HBK := hid (fun (i : Int) (W : World) (hb : Below w3.heap.size w3 W) (hi : -9223372036854775808 ≤ i ∧ i ≤ 9223372036854775807) => block_any Au N cu bz Av 0 cv i W w2.heap.size (HRU.out W hb) (Nat.le_trans HS3.out hb.size) hcu hmu (by omega) hi)
  clear hu hv b2 hru hrv hB2 hb3 hx3 hru3 HM1 HB1
  have hcn := M.cnt_le N
  have HCK : Hid (∀ k : Nat, decide ((k : Int) < (M.cnt N : Nat)) = decide (k < M.cnt N)) := hid (fun k => by rw [Bool.eq_iff_iff, decide_eq_true_eq, decide_eq_true_eq]; omega)
  have HBN : Hid (∀ k, k < M.cnt N → M.blkI bz k = M.blk bz k) := hid (fun k hk => M.blkI_nat (by rw [HBL.out]; exact hk))
  have HBH : Hid (M.blkI bz (M.cnt N : Nat) = []) := hid (by have := M.blkI_hi bz; rw [HBL.out] at this; exact this)
  have HBA : Hid (bz.take (512 * M.cnt N) = bz) := hid (by have := M.blk_all bz; rw [HBL.out] at this; exact this)
  have HLB : Hid (∀ k, k < M.cnt N → (M.blk bz k).length = min 512 (N - 512 * k) ∧ 512 * k < N ∧ (k + 1 < M.cnt N → 512 * k + 512 ≤ N)) := hid (fun k hk => ⟨by rw [M.blk_len, HBL.out], M.lt_cnt.1 hk, fun h => by have := M.lt_cnt.1 h; omega⟩)
  generalize M.cnt N = C at *
  go_wp2_with fail
  clear hw3
  go_loopw [6, 7] (fun a i wr => ∃ k : Nat, k ≤ C ∧ i = .int .i64 k ∧ OwnY wr w3.heap.size a (bz.take (512 * k)) ∧ Below w3.heap.size w3 wr) (fun _ i _ => C - (intOf i).toNat)
  case atStart => exact ⟨0, Nat.zero_le _, rfl, OwnY.nil _ _, Below.refl _ _⟩
  case round =>
    obtain ⟨k, hk, rfl, hy, hb⟩ := hrel
    obtain ⟨A4, c4, rfl, _, _⟩ := own_room hy
    have x3 := HX3.out.below hb HX3.out.lt
    have c0 := x3.cell (i := 0) rfl
    have c1 := x3.cell (i := 1) rfl
    have HY := hid hy
    have HBW := hid hb
    have hLt : (bz.take (512 * k)).length ≤ N := by rw [List.length_take, HBL.out]; omega
    generalize hlt0 : (bz.take (512 * k)).length = t at *
    have HLT := hid hlt0
    clear hy hb x3 hlt0
    go_wp2_with fail
    (with_reducible refine (HCN.out wr).mono ?_)
    rintro e w4 ⟨rfl, b4⟩
    have HB4 := hid (HBW.out.trans (b4.mono HBW.out.size))
    have HY4 := hid (HY.out.later b4)
    have x4 := HX3.out.below HB4.out HX3.out.lt
    have d0 := x4.cell (i := 0) rfl
    have d1 := x4.cell (i := 1) rfl
    clear b4 x4 c0 c1 HY
    by_cases hlt : k < C
    · have e1 : decide ((k : Int) < (C : Nat)) = true := by rw [HCK.out]; simpa using hlt
      have HBC := HBK.out (k : Int) w4 HB4.out (by omega)
      rw [HBN.out k hlt] at HBC
      have H5 := hid HBC
      obtain ⟨hl1, hl2, hl3⟩ := HLB.out k hlt
      have HL1 := hid hl1
      clear HBC hl1
      go_wp2_with fail
      (with_reducible refine H5.out.mono ?_)
      rintro e w5 ⟨bv, rfl, hbv, b5⟩
      obtain ⟨A5, c5, rfl, hrb5, _, _⟩ := hbv.rd (fun z hz => HBU.out z (List.mem_of_mem_drop (List.mem_of_mem_take hz)))
      have HR5 := hid hrb5
      have HB5 := hid (HB4.out.trans (b5.mono HB4.out.size))
      have HY5 := hid (HY4.out.later b5)
      have x5 := HX3.out.below HB5.out HX3.out.lt
      have d0 := x5.cell (i := 0) rfl
      have d1 := x5.cell (i := 1) rfl
      clear x5 b5 hbv hrb5 HY4
      have hLl : (M.blk bz k).length ≤ 512 := by rw [HL1.out]; omega
      have hLp : 0 < (M.blk bz k).length := by rw [HL1.out]; omega
      by_cases hfull : 512 * k + 512 ≤ N
      · have hL : (M.blk bz k).length = 512 := by rw [HL1.out]; omega
        generalize hLL : (M.blk bz k).length = L at *
        have e2 : ((L : Int) != 512) = false := by simp; omega
        clear HL1 hl3 hL
        go_wp2_with (refine wpList_app_bytes rfl (.tmp 37) (.tmp 38) rfl w3.heap.size (.slice A4 t c4) (bz.take (512 * k)) (by simp [Act.eval]) HY5.out w5.heap.size A5 L c5 (M.blk bz k) (by simp [Act.eval]) HR5.out (by rw [HLT.out]; omega) HB5.out.size ?_; intro v' w8 q1 q2 q3; obtain ⟨A8, c8, hv8, _, _⟩ := own_room q1; rw [List.length_append, HLT.out, hLL] at hv8; subst hv8; have Q1 := hid q1; have Q2 := hid q2; clear q1 q2 q3)
        go_roundw
        case rel =>
          refine ⟨k + 1, by omega, by go_num, ?_, below_grown HB5.out Q2.out HB5.out.size (fun g e => (World.ownsRow.lt HY5.out g e).1)⟩
          have hq := Q1.out
          rw [M.blk_next] at hq
          exact hq
        case measure => simp [intOf]; omega
      · have hL : (M.blk bz k).length ≠ 512 := by rw [HL1.out]; omega
        have hkC : k + 1 = C := by
          rcases Nat.lt_or_ge (k + 1) C with h | h
          · exact absurd (hl3 h) hfull
          · omega
        generalize hLL : (M.blk bz k).length = L at *
        have e2 : ((L : Int) != 512) = true := by simp; omega
        have e3 : ((k : Int) != (C : Int) - 1) = false := by simp; omega
        have e4 : ((L : Int) == 0) = false := by simp; omega
        clear HL1 hl3
        go_wp2_with fail
        (with_reducible refine (HCN.out w5).mono ?_)
        rintro e w6 ⟨rfl, b6⟩
        have HB6 := hid (HB5.out.trans (b6.mono HB5.out.size))
        have HY6 := hid (HY5.out.later b6)
        have HR6 := hid ((HR5.out.keep (w' := w6) fun p hp => b6.cell hp).more b6.size)
        clear b6 HY5 HR5 d0 d1
        go_wp2_with (refine wpList_app_bytes rfl (.tmp 37) (.tmp 38) rfl w3.heap.size (.slice A4 t c4) (bz.take (512 * k)) (by simp [Act.eval]) HY6.out w6.heap.size A5 L c5 (M.blk bz k) (by simp [Act.eval]) HR6.out (by rw [HLT.out]; omega) HB6.out.size ?_; intro v' w8 q1 q2 q3; obtain ⟨A8, c8, hv8, _, _⟩ := own_room q1; rw [List.length_append, HLT.out, hLL] at hv8; subst hv8; have Q1 := hid q1; have Q2 := hid q2; clear q1 q2 q3)
        go_roundw
        case rel =>
          refine ⟨k + 1, by omega, by go_num, ?_, below_grown HB6.out Q2.out HB6.out.size (fun g e => (World.ownsRow.lt HY6.out g e).1)⟩
          have hq := Q1.out
          rw [M.blk_next] at hq
          exact hq
        case measure => simp [intOf]; omega
    · obtain rfl : k = C := by omega
      have e1 : decide ((k : Int) < (k : Nat)) = false := by simp
      rw [HBA.out] at HY4
      have htN : t = bz.length := by rw [← HLT.out, HBA.out]
      have hy4 : OwnY w4 w3.heap.size (.slice A4 bz.length c4) bz := by rw [← htN]; exact HY4.out
      have hry := Rd.of_own hy4 HBU.out
      rw [← htN] at hry
      have HRY := hid hry
      clear hy4 hry htN
      have CF0 := hid (fun (W : World) (hW : Below w4.heap.size w4 W) => ((HX3.out.below (HB4.out.trans (hW.mono HB4.out.size)) HX3.out.lt).cell (i := 0) rfl))
      have CF1 := hid (fun (W : World) (hW : Below w4.heap.size w4 W) => ((HX3.out.below (HB4.out.trans (hW.mono HB4.out.size)) HX3.out.lt).cell (i := 1) rfl))
      have CV1 := hid (fun (W : World) (hW : Below w4.heap.size w4 W) => run_str (HRY.out.keep (w' := W) fun p hp => hW.cell hp) c4)
      have CV2 := hid (fun (W : World) (hW : Below w4.heap.size w4 W) => run_str (HRU.out W (HB4.out.trans (hW.mono HB4.out.size))) cu)
      have CBL := hid (fun (W : World) (hW : Below w4.heap.size w4 W) => HBK.out (-1) W (HB4.out.trans (hW.mono HB4.out.size)) (by decide))
      rw [M.blkI_lo] at CBL
      have CBH := hid (fun (W : World) (hW : Below w4.heap.size w4 W) => HBK.out (k : Int) W (HB4.out.trans (hW.mono HB4.out.size)) (by omega))
      rw [HBH.out] at CBH
      have hne := strOf_eq bz
      generalize strOf bz = s at *
      have HB4' := hid (Below.refl w4.heap.size w4)
      clear HY4 HRY HCK HLB HBN HBA d0 d1
      go_wp2_with fail
      refine wp_region_held_drew (S := fun W => Below w4.heap.size w4 W) (by kernel_rfl) (below_drew' HB4'.out) (fun hS => ?_)
      refine loneH (i := 0) 40 rfl rfl (by kernel_rfl) (by rfl) (fun K hK => ?_)
      go_simp
      (with_reducible refine (known_any _).mono ?_)
      rintro e w5 ⟨rfl, b5⟩
      have B5 := hS.trans (b5.mono hS.size)
      clear b5 hS
      refine hK.out _ _ B5 (fun hS => ?_)
      clear hK K
      try simp only [Act.put, List.setIfInBounds_toArray, List.set_cons_zero, List.set_cons_succ]
      refine takeH (i := 1) (v := ?_) 41 rfl rfl (by kernel_rfl) (by kernel_rfl) (by kernel_rfl) (fun _ _ _ h => h) (by rfl) ?hy1 hS ?rest1
      case hy1 => (intro W hW; have f0 := CF0.out W hW; have f1 := CF1.out W hW; have f2 := CV1.out W hW; have f3 := CV2.out W hW; clear hW; go_simp; first | done | with_reducible rfl)
      try simp only [Act.put, List.setIfInBounds_toArray, List.set_cons_zero, List.set_cons_succ]
      refine takeH (i := 2) (v := ?_) 42 rfl rfl (by kernel_rfl) (by kernel_rfl) (by kernel_rfl) (fun _ _ _ h => h) (by rfl) ?hy2 hS ?rest2
      case hy2 => (intro W hW; have f0 := CF0.out W hW; have f1 := CF1.out W hW; have f2 := CV1.out W hW; have f3 := CV2.out W hW; clear hW; go_simp; first | done | with_reducible rfl)
      try simp only [Act.put, List.setIfInBounds_toArray, List.set_cons_zero, List.set_cons_succ]
      refine takeH (i := 3) (v := ?_) 43 rfl rfl (by kernel_rfl) (by kernel_rfl) (by kernel_rfl) (fun _ _ _ h => h) (by rfl) ?hy3 hS ?rest3
      case hy3 => (intro W hW; have f0 := CF0.out W hW; have f1 := CF1.out W hW; have f2 := CV1.out W hW; have f3 := CV2.out W hW; clear hW; go_simp; first | done | with_reducible rfl)
      try simp only [Act.put, List.setIfInBounds_toArray, List.set_cons_zero, List.set_cons_succ]
      refine takeH (i := 4) (v := ?_) 44 rfl rfl (by kernel_rfl) (by kernel_rfl) (by kernel_rfl) (fun _ _ _ h => h) (by rfl) ?hy4 hS ?rest4
      case hy4 => (intro W hW; have f0 := CF0.out W hW; have f1 := CF1.out W hW; have f2 := CV1.out W hW; have f3 := CV2.out W hW; clear hW; go_simp; first | done | with_reducible rfl)
      try simp only [Act.put, List.setIfInBounds_toArray, List.set_cons_zero, List.set_cons_succ]
      refine takeH (i := 5) (v := ?_) 45 rfl rfl (by kernel_rfl) (by kernel_rfl) (by kernel_rfl) (fun _ _ _ h => h) (by rfl) ?hy5 hS ?rest5
      case hy5 => (intro W hW; have f0 := CF0.out W hW; have f1 := CF1.out W hW; have f2 := CV1.out W hW; have f3 := CV2.out W hW; clear hW; go_simp; first | done | with_reducible rfl)
      try simp only [Act.put, List.setIfInBounds_toArray, List.set_cons_zero, List.set_cons_succ]
      refine takeH (i := 6) (v := ?_) 46 rfl rfl (by kernel_rfl) (by kernel_rfl) (by kernel_rfl) (fun _ _ _ h => h) (by rfl) ?hy6 hS ?rest6
      case hy6 => (intro W hW; have f0 := CF0.out W hW; have f1 := CF1.out W hW; have f2 := CV1.out W hW; have f3 := CV2.out W hW; clear hW; go_simp; first | done | with_reducible rfl)
      try simp only [Act.put, List.setIfInBounds_toArray, List.set_cons_zero, List.set_cons_succ]
      refine takeH (i := 7) (v := ?_) 47 rfl rfl (by kernel_rfl) (by kernel_rfl) (by kernel_rfl) (fun _ _ _ h => h) (by rfl) ?hy7 hS ?rest7
      case hy7 => (intro W hW; have f0 := CF0.out W hW; have f1 := CF1.out W hW; have f2 := CV1.out W hW; have f3 := CV2.out W hW; clear hW; go_simp; first | done | with_reducible rfl)
      try simp only [Act.put, List.setIfInBounds_toArray, List.set_cons_zero, List.set_cons_succ]
      refine takeH (i := 8) (v := ?_) 48 rfl rfl (by kernel_rfl) (by kernel_rfl) (by kernel_rfl) (fun _ _ _ h => h) (by rfl) ?hy8 hS ?rest8
      case hy8 => (intro W hW; have f0 := CF0.out W hW; have f1 := CF1.out W hW; have f2 := CV1.out W hW; have f3 := CV2.out W hW; clear hW; go_simp; first | done | with_reducible rfl)
      try simp only [Act.put, List.setIfInBounds_toArray, List.set_cons_zero, List.set_cons_succ]
      refine takeH (i := 9) (v := ?_) 49 rfl rfl (by kernel_rfl) (by kernel_rfl) (by kernel_rfl) (fun _ _ _ h => h) (by rfl) ?hy9 hS ?rest9
      case hy9 => (intro W hW; have f0 := CF0.out W hW; have f1 := CF1.out W hW; have f2 := CV1.out W hW; have f3 := CV2.out W hW; clear hW; go_simp; first | done | with_reducible rfl)
      try simp only [Act.put, List.setIfInBounds_toArray, List.set_cons_zero, List.set_cons_succ]
      refine takeH (i := 10) (v := ?_) 50 rfl rfl (by kernel_rfl) (by kernel_rfl) (by kernel_rfl) (fun _ _ _ h => h) (by rfl) ?hy10 hS ?rest10
      case hy10 => (intro W hW; have f0 := CF0.out W hW; have f1 := CF1.out W hW; have f2 := CV1.out W hW; have f3 := CV2.out W hW; clear hW; go_simp; first | done | with_reducible rfl)
      try simp only [Act.put, List.setIfInBounds_toArray, List.set_cons_zero, List.set_cons_succ]
      refine loneH (i := 11) 51 rfl rfl (by kernel_rfl) (by rfl) (fun K hK => ?_)
      go_simp
      (with_reducible refine (CBL.out _ hS).mono ?_)
      rintro e w6 ⟨bv, rfl, hbv, b6⟩
      obtain ⟨A6, c6, hv6, _, _⟩ := own_room hbv
      rw [List.length_nil] at hv6
      subst hv6
      have B6 := hS.trans (b6.mono hS.size)
      clear b6 hS hbv
      refine hK.out _ _ B6 (fun hS => ?_)
      clear hK K
      try simp only [Act.put, List.setIfInBounds_toArray, List.set_cons_zero, List.set_cons_succ]
      refine takeH (i := 12) (v := ?_) 52 rfl rfl (by kernel_rfl) (by kernel_rfl) (by kernel_rfl) (fun _ _ _ h => h) (by rfl) ?hy12 hS ?rest12
      case hy12 => (intro W hW; have f0 := CF0.out W hW; have f1 := CF1.out W hW; have f2 := CV1.out W hW; have f3 := CV2.out W hW; clear hW; go_simp; first | done | with_reducible rfl)
      try simp only [Act.put, List.setIfInBounds_toArray, List.set_cons_zero, List.set_cons_succ]
      refine takeH (i := 13) (v := ?_) 53 rfl rfl (by kernel_rfl) (by kernel_rfl) (by kernel_rfl) (fun _ _ _ h => h) (by rfl) ?hy13 hS ?rest13
      case hy13 => (intro W hW; have f0 := CF0.out W hW; have f1 := CF1.out W hW; have f2 := CV1.out W hW; have f3 := CV2.out W hW; clear hW; go_simp; first | done | with_reducible rfl)
      try simp only [Act.put, List.setIfInBounds_toArray, List.set_cons_zero, List.set_cons_succ]
      refine takeH (i := 14) (v := ?_) 54 rfl rfl (by kernel_rfl) (by kernel_rfl) (by kernel_rfl) (fun _ _ _ h => h) (by rfl) ?hy14 hS ?rest14
      case hy14 => (intro W hW; have f0 := CF0.out W hW; have f1 := CF1.out W hW; have f2 := CV1.out W hW; have f3 := CV2.out W hW; clear hW; go_simp; first | done | with_reducible rfl)
      try simp only [Act.put, List.setIfInBounds_toArray, List.set_cons_zero, List.set_cons_succ]
      refine takeH (i := 15) (v := ?_) 55 rfl rfl (by kernel_rfl) (by kernel_rfl) (by kernel_rfl) (fun _ _ _ h => h) (by rfl) ?hy15 hS ?rest15
      case hy15 => (intro W hW; have f0 := CF0.out W hW; have f1 := CF1.out W hW; have f2 := CV1.out W hW; have f3 := CV2.out W hW; clear hW; go_simp; first | done | with_reducible rfl)
      try simp only [Act.put, List.setIfInBounds_toArray, List.set_cons_zero, List.set_cons_succ]
      refine takeH (i := 16) (v := ?_) 56 rfl rfl (by kernel_rfl) (by kernel_rfl) (by kernel_rfl) (fun _ _ _ h => h) (by rfl) ?hy16 hS ?rest16
      case hy16 => (intro W hW; have f0 := CF0.out W hW; have f1 := CF1.out W hW; have f2 := CV1.out W hW; have f3 := CV2.out W hW; clear hW; go_simp; first | done | with_reducible rfl)
      try simp only [Act.put, List.setIfInBounds_toArray, List.set_cons_zero, List.set_cons_succ]
      refine takeH (i := 17) (v := ?_) 57 rfl rfl (by kernel_rfl) (by kernel_rfl) (by kernel_rfl) (fun _ _ _ h => h) (by rfl) ?hy17 hS ?rest17
      case hy17 => (intro W hW; have f0 := CF0.out W hW; have f1 := CF1.out W hW; have f2 := CV1.out W hW; have f3 := CV2.out W hW; clear hW; go_simp; first | done | with_reducible rfl)
      try simp only [Act.put, List.setIfInBounds_toArray, List.set_cons_zero, List.set_cons_succ]
      refine loneH (i := 18) 58 rfl rfl (by kernel_rfl) (by rfl) (fun K hK => ?_)
      go_simp
      (with_reducible refine (HCN.out _).mono ?_)
      rintro e w7 ⟨rfl, b7⟩
      have B7 := hS.trans (b7.mono hS.size)
      clear b7 hS
      refine hK.out _ _ B7 (fun hS => ?_)
      clear hK K
      try simp only [Act.put, List.setIfInBounds_toArray, List.set_cons_zero, List.set_cons_succ]
      refine loneH (i := 19) 59 rfl rfl (by kernel_rfl) (by rfl) (fun K hK => ?_)
      go_simp
      (with_reducible refine (CBH.out _ hS).mono ?_)
      rintro e w8 ⟨bv, rfl, hbv, b6⟩
      obtain ⟨A6, c6, hv6, _, _⟩ := own_room hbv
      rw [List.length_nil] at hv6
      subst hv6
      have B8 := hS.trans (b6.mono hS.size)
      clear b6 hS hbv
      refine hK.out _ _ B8 (fun hS => ?_)
      clear hK K
      try simp only [Act.put, List.setIfInBounds_toArray, List.set_cons_zero, List.set_cons_succ]
      refine takeH (i := 20) (v := ?_) 60 rfl rfl (by kernel_rfl) (by kernel_rfl) (by kernel_rfl) (fun _ _ _ h => h) (by rfl) ?hy20 hS ?rest20
      case hy20 => (intro W hW; have f0 := CF0.out W hW; have f1 := CF1.out W hW; have f2 := CV1.out W hW; have f3 := CV2.out W hW; clear hW; go_simp; first | done | with_reducible rfl)
      try simp only [Act.put, List.setIfInBounds_toArray, List.set_cons_zero, List.set_cons_succ]
      refine takeH (i := 21) (v := ?_) 61 rfl rfl (by kernel_rfl) (by kernel_rfl) (by kernel_rfl) (fun _ _ _ h => h) (by rfl) ?hy21 hS ?rest21
      case hy21 => (intro W hW; have f0 := CF0.out W hW; have f1 := CF1.out W hW; have f2 := CV1.out W hW; have f3 := CV2.out W hW; clear hW; go_simp; first | done | with_reducible rfl)
      try simp only [Act.put, List.setIfInBounds_toArray, List.set_cons_zero, List.set_cons_succ]
      refine takeH (i := 22) (v := ?_) 62 rfl rfl (by kernel_rfl) (by kernel_rfl) (by kernel_rfl) (fun _ _ _ h => h) (by rfl) ?hy22 hS ?rest22
      case hy22 => (intro W hW; have f0 := CF0.out W hW; have f1 := CF1.out W hW; have f2 := CV1.out W hW; have f3 := CV2.out W hW; clear hW; go_simp; first | done | with_reducible rfl)
      try simp only [Act.put, List.setIfInBounds_toArray, List.set_cons_zero, List.set_cons_succ]
      refine takeH (i := 23) (v := ?_) 4 rfl rfl (by kernel_rfl) (by kernel_rfl) (by kernel_rfl) (fun _ _ _ h => h) (by rfl) ?hy23 hS ?rest23
      case hy23 => (intro W hW; have f0 := CF0.out W hW; have f1 := CF1.out W hW; have f2 := CV1.out W hW; have f3 := CV2.out W hW; clear hW; go_simp; first | done | with_reducible rfl)
      try simp only [Act.put, List.setIfInBounds_toArray, List.set_cons_zero, List.set_cons_succ]
      refine wpAnyH_done (by kernel_rfl) ?_ _
      go_wp2
      go_ret
      exact ⟨rfl, HB3.out.trans ((HB4.out.trans (B8.mono HB4.out.size)).mono HB3.out.size)⟩

theorem mediumWhole_any (A : Option Addr) (n c : Nat) (zs : List Int) (m : Int) (w : World) (hr : Rd w w.heap.size A n zs) (hn : n ≤ maxLen) (hm : 0 ≤ m ∧ m ≤ 65535) :
    Calls Try.prog 8 #[.slice A n c, .int .u16 m] w fun e w' => e = .returned (.bool true) ∧ Below w.heap.size w w' := by
  obtain ⟨k, rfl⟩ : ∃ k : Nat, m = k := ⟨m.toNat, by omega⟩
  exact mediumWhole_nat A n c zs k w hr hn (by omega)
end Go.Proofs.Yteneknmbddnkaaa
