/-
  What tells: both tell the same of an image, a block of it.
-/
import Derived.Test.YteneknmbddnkaaaMedLaw
import Derived.Test.YteneknmbddnkaaaMedStep
namespace Go.Proofs.Yteneknmbddnkaaa
open Go.RowKit Go.Lib

set_option maxRecDepth 100000 in
set_option maxHeartbeats 4000000 in
theorem tells_any (A : Option Addr) (n c : Nat) (zs : List Int) (A' : Option Addr) (n' c' : Nat) (l : List Int) (i : Int) (w : World) (B : Nat) (hr : Rd w B A n zs) (hl : RdI w B A' n' l) (hB : B ≤ w.heap.size) (hnc : n ≤ c) (hc : c ≤ maxLen) (hn : n ≤ 1000000) (hn' : n' ≤ 1000000) (hi : -9223372036854775808 ≤ i ∧ i ≤ 9223372036854775807) :
    Calls Try.prog 17 #[.agg #[.slice A n c, .slice A' n' c'], .int .i64 i] w fun e w' => e = .returned (.bool true) ∧ Below w.heap.size w w' := by
  obtain ⟨w1, hw1⟩ : ∃ w1, w1 = w.alloc (.cells #[.slice A n c, .slice A' n' c'] 27) := ⟨_, rfl⟩
  have hb1 : Below w.heap.size w w1 := by rw [hw1]; exact (Below.refl _ _).alloc (Nat.le_refl _) _
  have hx1 : Blk w1 w.heap.size 27 [.slice A n c, .slice A' n' c'] := by rw [hw1]; exact Blk.new w _ _
  have HBW := hid hb1
  have HBB := hid (Nat.le_trans hB hb1.size)
  have HRK := hid (fun (W : World) (hW : Below w1.heap.size w1 W) => hr.keep (w' := W) fun p hp => (hW.cell (Nat.lt_of_lt_of_le hp (Nat.le_trans hB hb1.size))).trans (hb1.cell (Nat.lt_of_lt_of_le hp hB)))
  have HIK := hid (fun (W : World) (hW : Below w1.heap.size w1 W) => hl.keep (w' := W) fun p hp => (hW.cell (Nat.lt_of_lt_of_le hp (Nat.le_trans hB hb1.size))).trans (hb1.cell (Nat.lt_of_lt_of_le hp hB)))
  have HC1 := hid (fun W => count_any A n c A' n' c' W (by omega))
  have HC2 := hid (fun W => refCount_any A n c A' n' c' W (by omega))
  have HK1 := hid (fun (W : World) (hW : Below w1.heap.size w1 W) => block_any A n c zs A' n' c' i W B (HRK.out W hW) (Nat.le_trans HBB.out hW.size) hnc hc hn hi)
  have HK2 := hid (fun (W : World) (hW : Below w1.heap.size w1 W) => refBlock_any A n c zs A' n' c' i W B (HRK.out W hW) (Nat.le_trans HBB.out hW.size) hnc hc hn hi)
  have HD1 := hid (fun (W : World) (hW : Below w1.heap.size w1 W) => bad_any A n c A' n' c' l i W B (HIK.out W hW) (Nat.le_trans HBB.out hW.size) hn')
  have HD2 := hid (fun (W : World) (hW : Below w1.heap.size w1 W) => refBad_any A n c A' n' c' l i W B (HIK.out W hW) (Nat.le_trans HBB.out hW.size) hn')
  have HBU : Hid (u8s (M.blkI zs i)) := hid (M.blkI_bd i hr.bd)
  unfold PartIs at HK2
  have CF0 := hid (fun (W : World) (hW : Below w1.heap.size w1 W) => ((hx1.below hW hx1.lt).cell (i := 0) rfl))
  have CF1 := hid (fun (W : World) (hW : Below w1.heap.size w1 W) => ((hx1.below hW hx1.lt).cell (i := 1) rfl))
  have HB1 := hid (Below.refl w1.heap.size w1)
  have HW1 := hid hw1
  clear hw1 hb1 hx1 hr hl HRK HIK
  generalize hcnt : ((M.cnt n : Nat) : Int) = cn at *
  clear hcnt
  generalize M.has l i = hb at *
  have hne := strOf_eq (M.blkI zs i)
  generalize M.blkI zs i = ys at *
  generalize strOf ys = s at *
  have hcc : (cn == cn) = true := by simp
  have hbb : (hb == hb) = true := by simp
  go_enter Try.func17, Try.ntmps17
  go_wp2_with fail
  rw [← HW1.out]
  clear HW1
  refine wp_region_held_drew (S := fun W => Below w1.heap.size w1 W) (by kernel_rfl) (below_drew' HB1.out) (fun hS => ?_)
  refine takeH (i := 0) (v := ?_) 5 rfl rfl (by kernel_rfl) (by kernel_rfl) (by kernel_rfl) (fun _ _ _ h => h) (by rfl) ?hy0 hS ?rest0
  case hy0 => (intro W hW; have f0 := CF0.out W hW; have f1 := CF1.out W hW; clear hW; go_simp; first | done | with_reducible rfl)
  try simp only [Act.put, List.setIfInBounds_toArray, List.set_cons_zero, List.set_cons_succ]
  refine takeH (i := 2) (v := ?_) 7 rfl rfl (by kernel_rfl) (by kernel_rfl) (by kernel_rfl) (fun _ _ _ h => h) (by rfl) ?hy2 hS ?rest2
  case hy2 => (intro W hW; have f0 := CF0.out W hW; have f1 := CF1.out W hW; clear hW; go_simp; first | done | with_reducible rfl)
  try simp only [Act.put, List.setIfInBounds_toArray, List.set_cons_zero, List.set_cons_succ]
  refine loneH (i := 1) 6 rfl rfl (by kernel_rfl) (by rfl) (fun K hK => ?_)
  go_simp
  (with_reducible refine (HC1.out _).mono ?_)
  rintro e w2 ⟨rfl, bb⟩
  have B2 := hS.trans (bb.mono hS.size)
  clear bb hS
  refine hK.out _ _ B2 (fun hS => ?_)
  clear hK K
  try simp only [Act.put, List.setIfInBounds_toArray, List.set_cons_zero, List.set_cons_succ]
  refine loneH (i := 3) 8 rfl rfl (by kernel_rfl) (by rfl) (fun K hK => ?_)
  go_simp
  (with_reducible refine (HC2.out _).mono ?_)
  rintro e w3 ⟨rfl, bb⟩
  have B3 := hS.trans (bb.mono hS.size)
  clear bb hS
  refine hK.out _ _ B3 (fun hS => ?_)
  clear hK K
  try simp only [Act.put, List.setIfInBounds_toArray, List.set_cons_zero, List.set_cons_succ]
  refine takeH (i := 4) (v := ?_) 9 rfl rfl (by kernel_rfl) (by kernel_rfl) (by kernel_rfl) (fun _ _ _ h => h) (by rfl) ?hy4 hS ?rest4
  case hy4 => (intro W hW; have f0 := CF0.out W hW; have f1 := CF1.out W hW; clear hW; go_simp; first | done | with_reducible rfl)
  try simp only [Act.put, List.setIfInBounds_toArray, List.set_cons_zero, List.set_cons_succ]
  refine takeH (i := 5) (v := ?_) 10 rfl rfl (by kernel_rfl) (by kernel_rfl) (by kernel_rfl) (fun _ _ _ h => h) (by rfl) ?hy5 hS ?rest5
  case hy5 => (intro W hW; have f0 := CF0.out W hW; have f1 := CF1.out W hW; clear hW; go_simp; first | done | with_reducible rfl)
  try simp only [Act.put, List.setIfInBounds_toArray, List.set_cons_zero, List.set_cons_succ]
  refine takeH (i := 6) (v := ?_) 11 rfl rfl (by kernel_rfl) (by kernel_rfl) (by kernel_rfl) (fun _ _ _ h => h) (by rfl) ?hy6 hS ?rest6
  case hy6 => (intro W hW; have f0 := CF0.out W hW; have f1 := CF1.out W hW; clear hW; go_simp; first | done | with_reducible rfl)
  try simp only [Act.put, List.setIfInBounds_toArray, List.set_cons_zero, List.set_cons_succ]
  refine takeH (i := 7) (v := ?_) 12 rfl rfl (by kernel_rfl) (by kernel_rfl) (by kernel_rfl) (fun _ _ _ h => h) (by rfl) ?hy7 hS ?rest7
  case hy7 => (intro W hW; have f0 := CF0.out W hW; have f1 := CF1.out W hW; clear hW; go_simp; first | done | with_reducible rfl)
  try simp only [Act.put, List.setIfInBounds_toArray, List.set_cons_zero, List.set_cons_succ]
  refine takeH (i := 10) (v := ?_) 15 rfl rfl (by kernel_rfl) (by kernel_rfl) (by kernel_rfl) (fun _ _ _ h => h) (by rfl) ?hy10 hS ?rest10
  case hy10 => (intro W hW; have f0 := CF0.out W hW; have f1 := CF1.out W hW; clear hW; go_simp; first | done | with_reducible rfl)
  try simp only [Act.put, List.setIfInBounds_toArray, List.set_cons_zero, List.set_cons_succ]
  refine takeH (i := 11) (v := ?_) 16 rfl rfl (by kernel_rfl) (by kernel_rfl) (by kernel_rfl) (fun _ _ _ h => h) (by rfl) ?hy11 hS ?rest11
  case hy11 => (intro W hW; have f0 := CF0.out W hW; have f1 := CF1.out W hW; clear hW; go_simp; first | done | with_reducible rfl)
  try simp only [Act.put, List.setIfInBounds_toArray, List.set_cons_zero, List.set_cons_succ]
  refine loneH (i := 8) 13 rfl rfl (by kernel_rfl) (by rfl) (fun K hK => ?_)
  go_simp
  (with_reducible refine (HK1.out _ hS).mono ?_)
  rintro e w4 ⟨bv, rfl, hbv, bb⟩
  obtain ⟨A4, c4, rfl, hr4, _, _⟩ := hbv.rd HBU.out
  have B4 := hS.trans (bb.mono hS.size)
  have HR4 := hid hr4
  clear bb hS hbv hr4
  refine hK.out _ _ B4 (fun hS => ?_)
  clear hK K
  try simp only [Act.put, List.setIfInBounds_toArray, List.set_cons_zero, List.set_cons_succ]
  have CV4 := hid (fun (W : World) (hW : Below w4.heap.size w4 W) => run_str (HR4.out.keep (w' := W) fun p hp => hW.cell hp) c4)
  have CG0 := hid (fun (W : World) (hW : Below w4.heap.size w4 W) => CF0.out W (B4.trans (hW.mono B4.size)))
  have CG1 := hid (fun (W : World) (hW : Below w4.heap.size w4 W) => CF1.out W (B4.trans (hW.mono B4.size)))
  refine wpAnyH_narrow (S' := fun W => Below w4.heap.size w4 W) (fun W h => B4.trans (h.mono B4.size)) _ _ _ _ ?_
  clear hS
  have hS : Below w4.heap.size w4 w4 := Below.refl _ _
  refine takeH (i := 9) (v := ?_) 14 rfl rfl (by kernel_rfl) (by kernel_rfl) (by kernel_rfl) (fun _ _ _ h => h) (by rfl) ?hy9 hS ?rest9
  case hy9 => (intro W hW; have f0 := CG0.out W hW; have f1 := CG1.out W hW; have f2 := CV4.out W hW; clear hW; go_simp; first | done | with_reducible rfl)
  try simp only [Act.put, List.setIfInBounds_toArray, List.set_cons_zero, List.set_cons_succ]
  refine loneH (i := 12) 17 rfl rfl (by kernel_rfl) (by rfl) (fun K hK => ?_)
  go_simp
  (with_reducible refine (HK2.out _ (B4.trans (hS.mono B4.size))).mono ?_)
  rintro e w5 ⟨A5, n5, c5, rfl, hr5, bb⟩
  have B5 := hS.trans (bb.mono hS.size)
  have HR5 := hid hr5
  clear bb hS hr5
  refine hK.out _ _ B5 (fun hS => ?_)
  clear hK K
  try simp only [Act.put, List.setIfInBounds_toArray, List.set_cons_zero, List.set_cons_succ]
  have HWB := hid (Nat.le_trans HBB.out (Nat.le_trans (Nat.le_trans HB1.out.size B4.size) B5.size))
  have CV5 := hid (fun (W : World) (hW : Below w5.heap.size w5 W) => run_str (HR5.out.keep (w' := W) fun p hp => hW.cell (Nat.lt_of_lt_of_le hp HWB.out)) c5)
  have CH0 := hid (fun (W : World) (hW : Below w5.heap.size w5 W) => CG0.out W (B5.trans (hW.mono B5.size)))
  have CH1 := hid (fun (W : World) (hW : Below w5.heap.size w5 W) => CG1.out W (B5.trans (hW.mono B5.size)))
  have B15 := B4.trans (B5.mono B4.size)
  refine wpAnyH_narrow (S' := fun W => Below w5.heap.size w5 W) (fun W h => B5.trans (h.mono B5.size)) _ _ _ _ ?_
  clear hS
  have hS : Below w5.heap.size w5 w5 := Below.refl _ _
  refine takeH (i := 13) (v := ?_) 18 rfl rfl (by kernel_rfl) (by kernel_rfl) (by kernel_rfl) (fun _ _ _ h => h) (by rfl) ?hy13 hS ?rest13
  case hy13 => (intro W hW; have f0 := CH0.out W hW; have f1 := CH1.out W hW; have f2 := CV5.out W hW; clear hW; go_simp; first | done | with_reducible rfl)
  try simp only [Act.put, List.setIfInBounds_toArray, List.set_cons_zero, List.set_cons_succ]
  refine takeH (i := 14) (v := ?_) 19 rfl rfl (by kernel_rfl) (by kernel_rfl) (by kernel_rfl) (fun _ _ _ h => h) (by rfl) ?hy14 hS ?rest14
  case hy14 => (intro W hW; have f0 := CH0.out W hW; have f1 := CH1.out W hW; have f2 := CV5.out W hW; clear hW; go_simp; first | done | with_reducible rfl)
  try simp only [Act.put, List.setIfInBounds_toArray, List.set_cons_zero, List.set_cons_succ]
  refine takeH (i := 15) (v := ?_) 20 rfl rfl (by kernel_rfl) (by kernel_rfl) (by kernel_rfl) (fun _ _ _ h => h) (by rfl) ?hy15 hS ?rest15
  case hy15 => (intro W hW; have f0 := CH0.out W hW; have f1 := CH1.out W hW; have f2 := CV5.out W hW; clear hW; go_simp; first | done | with_reducible rfl)
  try simp only [Act.put, List.setIfInBounds_toArray, List.set_cons_zero, List.set_cons_succ]
  refine takeH (i := 16) (v := ?_) 21 rfl rfl (by kernel_rfl) (by kernel_rfl) (by kernel_rfl) (fun _ _ _ h => h) (by rfl) ?hy16 hS ?rest16
  case hy16 => (intro W hW; have f0 := CH0.out W hW; have f1 := CH1.out W hW; have f2 := CV5.out W hW; clear hW; go_simp; first | done | with_reducible rfl)
  try simp only [Act.put, List.setIfInBounds_toArray, List.set_cons_zero, List.set_cons_succ]
  refine takeH (i := 17) (v := ?_) 22 rfl rfl (by kernel_rfl) (by kernel_rfl) (by kernel_rfl) (fun _ _ _ h => h) (by rfl) ?hy17 hS ?rest17
  case hy17 => (intro W hW; have f0 := CH0.out W hW; have f1 := CH1.out W hW; have f2 := CV5.out W hW; clear hW; go_simp; first | done | with_reducible rfl)
  try simp only [Act.put, List.setIfInBounds_toArray, List.set_cons_zero, List.set_cons_succ]
  refine takeH (i := 18) (v := ?_) 23 rfl rfl (by kernel_rfl) (by kernel_rfl) (by kernel_rfl) (fun _ _ _ h => h) (by rfl) ?hy18 hS ?rest18
  case hy18 => (intro W hW; have f0 := CH0.out W hW; have f1 := CH1.out W hW; have f2 := CV5.out W hW; clear hW; go_simp; first | done | with_reducible rfl)
  try simp only [Act.put, List.setIfInBounds_toArray, List.set_cons_zero, List.set_cons_succ]
  refine takeH (i := 20) (v := ?_) 25 rfl rfl (by kernel_rfl) (by kernel_rfl) (by kernel_rfl) (fun _ _ _ h => h) (by rfl) ?hy20 hS ?rest20
  case hy20 => (intro W hW; have f0 := CH0.out W hW; have f1 := CH1.out W hW; have f2 := CV5.out W hW; clear hW; go_simp; first | done | with_reducible rfl)
  try simp only [Act.put, List.setIfInBounds_toArray, List.set_cons_zero, List.set_cons_succ]
  refine takeH (i := 21) (v := ?_) 26 rfl rfl (by kernel_rfl) (by kernel_rfl) (by kernel_rfl) (fun _ _ _ h => h) (by rfl) ?hy21 hS ?rest21
  case hy21 => (intro W hW; have f0 := CH0.out W hW; have f1 := CH1.out W hW; have f2 := CV5.out W hW; clear hW; go_simp; first | done | with_reducible rfl)
  try simp only [Act.put, List.setIfInBounds_toArray, List.set_cons_zero, List.set_cons_succ]
  refine loneH (i := 19) 24 rfl rfl (by kernel_rfl) (by rfl) (fun K hK => ?_)
  go_simp
  (with_reducible refine (HD1.out _ (B15.trans (hS.mono B15.size))).mono ?_)
  rintro e w6 ⟨rfl, bb⟩
  have B6 := hS.trans (bb.mono hS.size)
  clear bb hS
  refine hK.out _ _ B6 (fun hS => ?_)
  clear hK K
  try simp only [Act.put, List.setIfInBounds_toArray, List.set_cons_zero, List.set_cons_succ]
  refine loneH (i := 22) 27 rfl rfl (by kernel_rfl) (by rfl) (fun K hK => ?_)
  go_simp
  (with_reducible refine (HD2.out _ (B15.trans (hS.mono B15.size))).mono ?_)
  rintro e w7 ⟨rfl, bb⟩
  have B7 := hS.trans (bb.mono hS.size)
  clear bb hS
  refine hK.out _ _ B7 (fun hS => ?_)
  clear hK K
  try simp only [Act.put, List.setIfInBounds_toArray, List.set_cons_zero, List.set_cons_succ]
  refine takeH (i := 23) (v := ?_) 28 rfl rfl (by kernel_rfl) (by kernel_rfl) (by kernel_rfl) (fun _ _ _ h => h) (by rfl) ?hy23 hS ?rest23
  case hy23 => (intro W hW; have f0 := CH0.out W hW; have f1 := CH1.out W hW; have f2 := CV5.out W hW; clear hW; go_simp; first | done | with_reducible rfl)
  try simp only [Act.put, List.setIfInBounds_toArray, List.set_cons_zero, List.set_cons_succ]
  refine takeH (i := 24) (v := ?_) 29 rfl rfl (by kernel_rfl) (by kernel_rfl) (by kernel_rfl) (fun _ _ _ h => h) (by rfl) ?hy24 hS ?rest24
  case hy24 => (intro W hW; have f0 := CH0.out W hW; have f1 := CH1.out W hW; have f2 := CV5.out W hW; clear hW; go_simp; first | done | with_reducible rfl)
  try simp only [Act.put, List.setIfInBounds_toArray, List.set_cons_zero, List.set_cons_succ]
  refine takeH (i := 25) (v := ?_) 4 rfl rfl (by kernel_rfl) (by kernel_rfl) (by kernel_rfl) (fun _ _ _ h => h) (by rfl) ?hy25 hS ?rest25
  case hy25 => (intro W hW; have f0 := CH0.out W hW; have f1 := CH1.out W hW; have f2 := CV5.out W hW; clear hW; go_simp; first | done | with_reducible rfl)
  try simp only [Act.put, List.setIfInBounds_toArray, List.set_cons_zero, List.set_cons_succ]
  refine wpAnyH_done (by kernel_rfl) ?_ _
  go_wp2
  go_ret
  exact ⟨rfl, HBW.out.trans ((B15.trans (B7.mono B15.size)).mono HBW.out.size)⟩
end Go.Proofs.Yteneknmbddnkaaa
