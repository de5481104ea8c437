/-
  SumSeals' walk.
-/
import Derived.Test.YtjaopghpopmmdaaSumLaw
import Derived.Test.YtjaopghpopmmdaaSumStr
import Derived.Test.YtjaopghpopmmdaaSumStep
namespace Go.Proofs.Ytjaopghpopmmdaa
open Go.RowKit Go.Lib

/-- What a seal's answer reads as, now and later. -/
theorem str_later {w W : World} {g : Nat} {t : TypeId} {zs : List Int} (h : Arr w g t zs) (hl : zs.length = 512) (hz : ∀ z ∈ zs, 0 ≤ z ∧ z ≤ 255) (hb : Below w.heap.size w W) :
    (convert 22 9 (.slice (some ⟨g, 0, none⟩) 512 512)).run Try.prog W = .ok (.string (strOf zs)) W :=
  run_str ((h.whole hl hz).keep (w' := W) fun p hp => hb.cell hp) 512
theorem str_now {w : World} {g : Nat} {t : TypeId} {zs : List Int} (h : Arr w g t zs) (hl : zs.length = 512) (hz : ∀ z ∈ zs, 0 ≤ z ∧ z ≤ 255) :
    (convert 22 9 (.slice (some ⟨g, 0, none⟩) 512 512)).run Try.prog w = .ok (.string (strOf zs)) w := str_later h hl hz (Below.refl _ _)

set_option maxRecDepth 100000 in
set_option maxHeartbeats 4000000 in
theorem sumSeals_any (A0 : Option Addr) (n0 c0 : Nat) (z0 : List Int) (A : Option Addr) (n c : Nat) (zs : List Int) (v : Int) (w : World) (hr0 : Rd w w.heap.size A0 n0 z0) (hn0 : n0 ≤ c0) (hc0 : c0 ≤ maxLen)
    (hr : Rd w w.heap.size A n zs) (hn : n ≤ 140737488355328) (hv : 0 ≤ v ∧ v ≤ 255) :
    Calls Try.prog 6 #[.slice A0 n0 c0, .slice A n c, .int .u8 v] w fun e w' => e = .returned (.bool true) ∧ Below w.heap.size w w' := by
  by_cases h6 : 1500 < n0
  · have e1 : decide ((1500 : Int) < n0) = true := by rw [decide_eq_true_eq]; omega
    have e2 : decide (1500 < n0) = true := by rw [decide_eq_true_eq]; omega
    clear hr0 hr hn0 hc0 hn hv
    go_enter Try.func6, Try.ntmps6
    go_wp2_with fail
    refine (known_any _).mono ?_
    rintro e w1 ⟨rfl, b1⟩
    go_wp2
    go_ret
    exact ⟨rfl, b1⟩
  have e1 : decide ((1500 : Int) < n0) = false := by rw [decide_eq_false_iff_not]; omega
  have e2 : decide (1500 < n0) = false := by rw [decide_eq_false_iff_not]; omega
  have HK := fun W (hb : Below w.heap.size w W) => hr.keep (w' := W) fun p hp => hb.cell hp
  have HK0 := fun W (hb : Below w.heap.size w W) => hr0.keep (w' := W) fun p hp => hb.cell hp
  have HB := hid (fun W hb => block_any A n c zs v W _ (HK W hb) hb.size hn hv)
  have HS0 := hid (fun W hb => seal_any A0 n0 c0 z0 W _ (HK0 W hb) hb.size)
  have HR0 := hid (fun W hb => refSeal_any A0 n0 c0 z0 W _ (HK0 W hb) hb.size (Nat.le_trans hn0 hc0))
  have HX := hid (M.block_len zs v)
  have hxb := M.block_bd v hr.bd
  have HXB := hid hxb
  have HSB := hid (M.sld_bd hxb)
  have HSB0 := hid (M.sld_bd hr0.bd)
  have HSL0 := hid (M.sld_len z0)
  clear HK HK0 hr0 hr hn0 hc0 hn hv h6 hxb
  generalize M.sld z0 = y0 at *
  generalize M.block zs v = xs at *
  have HSL := hid (M.sld_len xs)
  have HS1 := hid (fun (W : World) (g : Nat) (hA : Arr W g 5 xs) => seal_any (some ⟨g, 0, none⟩) 512 512 xs W _ (hA.whole HX.out HXB.out) (Nat.le_refl _))
  have HR1 := hid (fun (W : World) (g : Nat) (hA : Arr W g 5 xs) => refSeal_any (some ⟨g, 0, none⟩) 512 512 xs W _ (hA.whole HX.out HXB.out) (Nat.le_refl _) (by decide))
  generalize M.sld xs = y1 at *
  have d0 : ((strOf y0).toList == (strOf y0).toList) = true := by simp
  have d1 : ((strOf y1).toList == (strOf y1).toList) = true := by simp
  have HC0 := hid (fun (W V : World) (g : Nat) (t : TypeId) (h : Arr W g t y0) (hb : Below W.heap.size W V) => str_later h HSL0.out HSB0.out hb)
  have HC1 := hid (fun (W V : World) (g : Nat) (t : TypeId) (h : Arr W g t y1) (hb : Below W.heap.size W V) => str_later h HSL.out HSB.out hb)
  generalize strOf y0 = s0 at *
  generalize strOf y1 = s1 at *
  clear HX HXB HSB HSL HSB0 HSL0
  go_enter Try.func6, Try.ntmps6
  go_wp2_with fail
  refine (known_any _).mono ?_
  rintro e w1 ⟨rfl, b1⟩
  go_wp2_with fail
  clear e1 e2
  refine wp_region_held_drew (S := fun W => Below w.heap.size w W) (by kernel_rfl) (below_drew' b1) (fun hS => ?_)
  refine takeH (i := 0) (v := ?_) 15 rfl rfl (by kernel_rfl) (by kernel_rfl) (by kernel_rfl) (fun _ _ _ h => h) (by rfl) ?hy0 hS ?rest0
  case hy0 => (intro W hW; go_simp; first | done | with_reducible rfl)
  try simp only [Act.put, List.setIfInBounds_toArray, List.set_cons_zero, List.set_cons_succ]
  refine takeH (i := 3) (v := ?_) 18 rfl rfl (by kernel_rfl) (by kernel_rfl) (by kernel_rfl) (fun _ _ _ h => h) (by rfl) ?hy3 hS ?rest3
  case hy3 => (intro W hW; go_simp; first | done | with_reducible rfl)
  try simp only [Act.put, List.setIfInBounds_toArray, List.set_cons_zero, List.set_cons_succ]
  refine loneH (i := 1) 16 rfl rfl (by kernel_rfl) (by rfl) (fun K hK => ?_)
  go_simp
  (with_reducible refine (HS0.out _ hS).mono ?_)
  rintro e w2 ⟨g2, rfl, hg2, hA2, b2⟩
  have B2 : Below w.heap.size w w2 := hS.trans (b2.mono hS.size)
  have HA2 := hid hA2
  have CV2 := hid (fun W (hb : Below w2.heap.size w2 W) => HC0.out _ _ _ _ HA2.out hb)
  clear b2 hg2 hA2 hS
  refine hK.out _ _ B2 (fun hS => ?_)
  clear hK K
  try simp only [Act.put, List.setIfInBounds_toArray, List.set_cons_zero, List.set_cons_succ]
  clear hS
  have hS : Sem.run Try.prog (convert 22 9 (.slice (some ⟨g2, 0, none⟩) 512 512)) w2 = .ok (.string s0) w2 ∧ Below w.heap.size w w2 ∧ Below w2.heap.size w2 w2 := ⟨CV2.out _ (Below.refl _ _), B2, Below.refl _ _⟩
  refine wpAnyH_narrow (S' := fun W => (convert 22 9 (.slice (some ⟨g2, 0, none⟩) 512 512)).run Try.prog W = .ok (.string s0) W ∧ Below w.heap.size w W ∧ Below w2.heap.size w2 W) (fun W h => h.2.1) _ _ _ _ ?_
  refine takeH (i := 2) (v := ?_) 17 rfl rfl (by kernel_rfl) (by kernel_rfl) (by kernel_rfl) (fun _ _ _ h => h) (by rfl) ?hy2 hS ?rest2
  case hy2 => (intro W hW; have hW1 := hW.1; clear hW; go_simp; first | done | with_reducible rfl)
  try simp only [Act.put, List.setIfInBounds_toArray, List.set_cons_zero, List.set_cons_succ]
  refine loneH (i := 4) 19 rfl rfl (by kernel_rfl) (by rfl) (fun K hK => ?_)
  go_simp
  (with_reducible refine (HR0.out _ hS.2.1).mono ?_)
  rintro e w3 ⟨g3, rfl, hg3, hA3, b3⟩
  have cv3 := HC0.out _ _ _ _ hA3 (Below.refl _ _)
  have B3 : Below w.heap.size w w3 := hS.2.1.trans (b3.mono hS.2.1.size)
  have B23 : Below w2.heap.size w2 w3 := hS.2.2.trans (b3.mono hS.2.2.size)
  clear b3 hg3 hA3 hS
  refine hK.out _ _ ⟨CV2.out _ B23, B3, B23⟩ (fun hS => ?_)
  clear hK K
  try simp only [Act.put, List.setIfInBounds_toArray, List.set_cons_zero, List.set_cons_succ]
  refine loneH (i := 5) 20 rfl rfl (by kernel_rfl) (by rfl) (fun K hK => ?_)
  go_simp
  refine hK.out _ _ hS (fun hS => ?_)
  clear hK K
  try simp only [Act.put, List.setIfInBounds_toArray, List.set_cons_zero, List.set_cons_succ]
  clear cv3
  refine takeH (i := 6) (v := ?_) 21 rfl rfl (by kernel_rfl) (by kernel_rfl) (by kernel_rfl) (fun _ _ _ h => h) (by rfl) ?hy6 hS ?rest6
  case hy6 => (intro W hW; go_simp; first | done | with_reducible rfl)
  try simp only [Act.put, List.setIfInBounds_toArray, List.set_cons_zero, List.set_cons_succ]
  refine takeH (i := 7) (v := ?_) 22 rfl rfl (by kernel_rfl) (by kernel_rfl) (by kernel_rfl) (fun _ _ _ h => h) (by rfl) ?hy7 hS ?rest7
  case hy7 => (intro W hW; go_simp; first | done | with_reducible rfl)
  try simp only [Act.put, List.setIfInBounds_toArray, List.set_cons_zero, List.set_cons_succ]
  refine takeH (i := 8) (v := ?_) 23 rfl rfl (by kernel_rfl) (by kernel_rfl) (by kernel_rfl) (fun _ _ _ h => h) (by rfl) ?hy8 hS ?rest8
  case hy8 => (intro W hW; go_simp; first | done | with_reducible rfl)
  try simp only [Act.put, List.setIfInBounds_toArray, List.set_cons_zero, List.set_cons_succ]
  refine takeH (i := 9) (v := ?_) 24 rfl rfl (by kernel_rfl) (by kernel_rfl) (by kernel_rfl) (fun _ _ _ h => h) (by rfl) ?hy9 hS ?rest9
  case hy9 => (intro W hW; go_simp; first | done | with_reducible rfl)
  try simp only [Act.put, List.setIfInBounds_toArray, List.set_cons_zero, List.set_cons_succ]
  refine takeH (i := 13) (v := ?_) 28 rfl rfl (by kernel_rfl) (by kernel_rfl) (by kernel_rfl) (fun _ _ _ h => h) (by rfl) ?hy13 hS ?rest13
  case hy13 => (intro W hW; go_simp; first | done | with_reducible rfl)
  try simp only [Act.put, List.setIfInBounds_toArray, List.set_cons_zero, List.set_cons_succ]
  refine takeH (i := 14) (v := ?_) 29 rfl rfl (by kernel_rfl) (by kernel_rfl) (by kernel_rfl) (fun _ _ _ h => h) (by rfl) ?hy14 hS ?rest14
  case hy14 => (intro W hW; go_simp; first | done | with_reducible rfl)
  try simp only [Act.put, List.setIfInBounds_toArray, List.set_cons_zero, List.set_cons_succ]
  refine loneH (i := 10) 25 rfl rfl (by kernel_rfl) (by rfl) (fun K hK => ?_)
  go_simp
  (with_reducible refine (HB.out _ hS.2.1).mono ?_)
  rintro e w4 ⟨g4, rfl, hg4, hA4, b4⟩
  have B4 : Below w.heap.size w w4 := hS.2.1.trans (b4.mono hS.2.1.size)
  have B24 : Below w2.heap.size w2 w4 := hS.2.2.trans (b4.mono hS.2.2.size)
  have HA4 := hid hA4
  clear b4 hg4 hA4 hS B3 B23
  refine hK.out _ _ ⟨CV2.out _ B24, B4, B24⟩ (fun hS => ?_)
  clear hK K
  try simp only [Act.put, List.setIfInBounds_toArray, List.set_cons_zero, List.set_cons_succ]
  refine loneH (i := 11) 26 rfl rfl (by kernel_rfl) (by rfl) (fun K hK => ?_)
  go_simp
  (with_reducible refine (HS1.out _ _ HA4.out).mono ?_)
  rintro e w5 ⟨g5, rfl, hg5, hA5, b5⟩
  have B5 : Below w.heap.size w w5 := hS.2.1.trans (b5.mono hS.2.1.size)
  have B25 : Below w2.heap.size w2 w5 := hS.2.2.trans (b5.mono hS.2.2.size)
  have HA5 := hid hA5
  have CV5 := hid (fun W (hb : Below w5.heap.size w5 W) => HC1.out _ _ _ _ HA5.out hb)
  clear b5 hg5 hA5 hS B4 B24
  refine hK.out _ _ ⟨CV2.out _ B25, B5, B25⟩ (fun hS => ?_)
  clear hK K
  try simp only [Act.put, List.setIfInBounds_toArray, List.set_cons_zero, List.set_cons_succ]
  clear hS
  have hS : Sem.run Try.prog (convert 22 9 (.slice (some ⟨g5, 0, none⟩) 512 512)) w5 = .ok (.string s1) w5 ∧ Below w.heap.size w w5 ∧ Below w2.heap.size w2 w5 ∧ Below w5.heap.size w5 w5 := ⟨CV5.out _ (Below.refl _ _), B5, B25, Below.refl _ _⟩
  refine wpAnyH_narrow (S' := fun W => (convert 22 9 (.slice (some ⟨g5, 0, none⟩) 512 512)).run Try.prog W = .ok (.string s1) W ∧ Below w.heap.size w W ∧ Below w2.heap.size w2 W ∧ Below w5.heap.size w5 W) (fun W h => ⟨CV2.out _ h.2.2.1, h.2.1, h.2.2.1⟩) _ _ _ _ ?_
  refine takeH (i := 12) (v := ?_) 27 rfl rfl (by kernel_rfl) (by kernel_rfl) (by kernel_rfl) (fun _ _ _ h => h) (by rfl) ?hy12 hS ?rest12
  case hy12 => (intro W hW; have hW1 := hW.1; clear hW; go_simp; first | done | with_reducible rfl)
  try simp only [Act.put, List.setIfInBounds_toArray, List.set_cons_zero, List.set_cons_succ]
  refine loneH (i := 15) 30 rfl rfl (by kernel_rfl) (by rfl) (fun K hK => ?_)
  go_simp
  (with_reducible refine (HB.out _ hS.2.1).mono ?_)
  rintro e w6 ⟨g6, rfl, hg6, hA6, b6⟩
  have B6 : Below w.heap.size w w6 := hS.2.1.trans (b6.mono hS.2.1.size)
  have B26 : Below w2.heap.size w2 w6 := hS.2.2.1.trans (b6.mono hS.2.2.1.size)
  have B56 : Below w5.heap.size w5 w6 := hS.2.2.2.trans (b6.mono hS.2.2.2.size)
  have HA6 := hid hA6
  clear b6 hg6 hA6 hS B5 B25
  refine hK.out _ _ ⟨CV5.out _ B56, B6, B26, B56⟩ (fun hS => ?_)
  clear hK K
  try simp only [Act.put, List.setIfInBounds_toArray, List.set_cons_zero, List.set_cons_succ]
  refine loneH (i := 16) 31 rfl rfl (by kernel_rfl) (by rfl) (fun K hK => ?_)
  go_simp
  (with_reducible refine (HR1.out _ _ HA6.out).mono ?_)
  rintro e w7 ⟨g7, rfl, hg7, hA7, b7⟩
  have B7 : Below w.heap.size w w7 := hS.2.1.trans (b7.mono hS.2.1.size)
  have B27 : Below w2.heap.size w2 w7 := hS.2.2.1.trans (b7.mono hS.2.2.1.size)
  have B57 : Below w5.heap.size w5 w7 := hS.2.2.2.trans (b7.mono hS.2.2.2.size)
  have cv7 := HC1.out _ _ _ _ hA7 (Below.refl _ _)
  clear b7 hg7 hA7 hS B6 B26 B56
  refine hK.out _ _ ⟨CV5.out _ B57, B7, B27, B57⟩ (fun hS => ?_)
  clear hK K
  try simp only [Act.put, List.setIfInBounds_toArray, List.set_cons_zero, List.set_cons_succ]
  refine loneH (i := 17) 32 rfl rfl (by kernel_rfl) (by rfl) (fun K hK => ?_)
  go_simp
  refine hK.out _ _ hS (fun hS => ?_)
  clear hK K
  try simp only [Act.put, List.setIfInBounds_toArray, List.set_cons_zero, List.set_cons_succ]
  refine takeH (i := 18) (v := ?_) 33 rfl rfl (by kernel_rfl) (by kernel_rfl) (by kernel_rfl) (fun _ _ _ h => h) (by rfl) ?hy18 hS ?rest18
  case hy18 => (intro W hW; go_simp; first | done | with_reducible rfl)
  try simp only [Act.put, List.setIfInBounds_toArray, List.set_cons_zero, List.set_cons_succ]
  refine takeH (i := 19) (v := ?_) 34 rfl rfl (by kernel_rfl) (by kernel_rfl) (by kernel_rfl) (fun _ _ _ h => h) (by rfl) ?hy19 hS ?rest19
  case hy19 => (intro W hW; go_simp; first | done | with_reducible rfl)
  try simp only [Act.put, List.setIfInBounds_toArray, List.set_cons_zero, List.set_cons_succ]
  refine takeH (i := 20) (v := ?_) 6 rfl rfl (by kernel_rfl) (by kernel_rfl) (by kernel_rfl) (fun _ _ _ h => h) (by rfl) ?hy20 hS ?rest20
  case hy20 => (intro W hW; go_simp; first | done | with_reducible rfl)
  try simp only [Act.put, List.setIfInBounds_toArray, List.set_cons_zero, List.set_cons_succ]
  refine wpAnyH_done (by kernel_rfl) ?_ _
  go_wp2
  go_ret
  exact ⟨rfl, B7⟩
end Go.Proofs.Ytjaopghpopmmdaa
