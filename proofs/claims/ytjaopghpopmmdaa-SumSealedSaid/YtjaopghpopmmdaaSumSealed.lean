/-
  SumSealed's walk.
-/
import Derived.Test.YtjaopghpopmmdaaSumLaw
import Derived.Test.YtjaopghpopmmdaaSumStr
import Derived.Test.YtjaopghpopmmdaaSumMathB
import Derived.Test.YtjaopghpopmmdaaSumStep
namespace Go.Proofs.Ytjaopghpopmmdaa
open Go.RowKit Go.Lib

set_option maxRecDepth 100000 in
set_option maxHeartbeats 4000000 in
theorem sumSealed_any (A : Option Addr) (n c : Nat) (zs : List Int) (v a b : Int) (w : World) (hr : Rd w w.heap.size A n zs) (hn : n ≤ 140737488355328) (hv : 0 ≤ v ∧ v ≤ 255) (ha : 0 ≤ a ∧ a ≤ 65535) (hb : 0 ≤ b ∧ b ≤ 255) :
    Calls Try.prog 7 #[.slice A n c, .int .u8 v, .int .u16 a, .int .u8 b] w fun e w' => e = .returned (.bool true) ∧ Below w.heap.size w w' := by
  obtain ⟨ha0, ha1⟩ := ha
  obtain ⟨hb0, hb1⟩ := hb
  have HB := hid (block_any A n c zs v w _ hr (Nat.le_refl _) hn hv)
  have HX := hid (M.block_len zs v)
  have HXB := hid (M.block_bd v hr.bd)
  clear hr hn hv
  generalize M.block zs v = xs at *
  go_enter Try.func7, Try.ntmps7
  go_wp2_with fail
  (with_reducible refine HB.out.mono ?_)
  rintro e w1 ⟨g1, rfl, hg1, hA1, b1⟩
  have HA1 := hid hA1
  clear HB hA1
  go_wp2_with fail
  go_loopw [10] (fun i wr => ∃ k : Nat, k ≤ 512 ∧ i = .int .i64 k ∧ Hid (Arr wr g1 5 (M.small xs k)) ∧ Below w.heap.size w wr) (fun i _ => 512 - (intOf i).toNat)
  case atStart => exact ⟨0, Nat.zero_le _, rfl, by rw [M.small_zero]; exact HA1, b1⟩
  case round =>
    obtain ⟨k, hk, rfl, hA, hbel⟩ := hrel
    by_cases hlt : k < 512
    · obtain ⟨z, hz⟩ : ∃ z, xs[k]? = some z := ⟨_, List.getElem?_eq_getElem (by rw [HX.out]; exact hlt)⟩
      have hzb := HXB.out z (List.mem_of_getElem? hz)
      obtain ⟨hz0, hz1⟩ := hzb
      have hzk : (M.small xs k)[k]? = some z := by rw [M.small_at (by rw [HX.out]; exact hlt)]; exact hz
      have hcs := hA.out.cell hzk
      have hfs := hA.out.frozen k
      have HST := hid (M.small_step hz)
      clear hz hzk
      go_wp2
      go_roundw
      case rel => exact ⟨k + 1, by omega, by go_num, hid (by rw [← HST.out]; exact hA.out.set _ _), hbel.setCell hg1 _⟩
      case measure => simp [intOf]; omega
    · obtain rfl : k = 512 := by omega
      have hs : M.small xs 512 = xs.map (· % 128) := M.small_all HX.out
      have hlow : ∀ z ∈ xs.map (· % 128), 0 ≤ z ∧ z ≤ 127 := by
        intro z hz
        obtain ⟨y, _, rfl⟩ := List.mem_map.1 hz
        constructor <;> omega
      have hlen : (xs.map (· % 128)).length = 512 := by rw [List.length_map, HX.out]
      rw [hs] at hA
      have HA := hid hA.out
      have HLOW := hid hlow
      have HLEN := hid hlen
      clear hA HA1 hs hlow hlen HX HXB b1
      generalize xs.map (· % 128) = us at *
      have h255 : Hid (∀ z ∈ us, 0 ≤ z ∧ z ≤ 255) := hid (fun z hz => by have := HLOW.out z hz; omega)
      have HS := hid (seal_any (some ⟨g1, 0, none⟩) 512 512 us wr _ (HA.out.whole HLEN.out h255.out) (Nat.le_refl _))
      clear HA
      go_wp2_with fail
      (with_reducible refine HS.out.mono ?_)
      rintro e w2 ⟨g, rfl, hg, hA2, b2⟩
      have hgw : w.heap.size ≤ g := Nat.le_trans hbel.size hg
      have hb2 := hbel.trans (b2.mono hbel.size)
      have HA2 := hid hA2
      have hgl := hA2.lt
      have HSL := hid (M.sld_len us)
      have HSB := hid (M.sld_bd h255.out)
      have HTN := hid (M.told_sld h255.out)
      have HUS := hid (M.uns_sld us)
      have HRT := hid (M.right_sld h255.out)
      have HSS := hid (M.sld_self us)
      have HR := hid (fun W (hb : Below w2.heap.size w2 W) => (HA2.out.whole HSL.out HSB.out).keep (w' := W) fun p hp => hb.cell hp)
      have HTOLD : Hid (Calls Try.prog 16 #[.slice (some ⟨g, 0, none⟩) 512 512] w2 fun e w' => e = .returned (.tuple #[.int .i64 (M.uns (M.pad us)), .bool true]) ∧ Below w2.heap.size w2 w') := hid (by
        have h := told_any (some ⟨g, 0, none⟩) 512 512 (M.sld us) w2 _ (HR.out _ (Below.refl _ _)) (Nat.le_refl _)
        rwa [HTN.out.1, HTN.out.2] at h)
      have HUN : Hid (∀ W, Below w2.heap.size w2 W → Calls Try.prog 17 #[.slice (some ⟨g, 0, none⟩) 512 512] W fun e w' => e = .returned (.int .i64 (M.uns (M.pad us))) ∧ Below W.heap.size W w') := hid (fun W hb => by
        have h := unsigned_any (some ⟨g, 0, none⟩) 512 512 (M.sld us) W _ (HR.out W hb) hb.size (by decide)
        rwa [HUS.out] at h)
      have HRI : Hid (∀ W, Below w2.heap.size w2 W → Calls Try.prog 12 #[.slice (some ⟨g, 0, none⟩) 512 512] W fun e w' => e = .returned (.bool true) ∧ Below W.heap.size W w') := hid (fun W hb => by
        have h := right_any (some ⟨g, 0, none⟩) 512 512 (M.sld us) W _ (HR.out W hb) hb.size (by decide)
        rwa [HRT.out] at h)
      have HSE : Hid (∀ W, Below w2.heap.size w2 W → Calls Try.prog 9 #[.slice (some ⟨g, 0, none⟩) 512 512] W (SealPost 38 (M.sld us) W)) := hid (fun W hb => by
        have h := seal_any (some ⟨g, 0, none⟩) 512 512 (M.sld us) W _ (HR.out W hb) hb.size
        rwa [HSS.out] at h)
      have HCV := hid (fun W (hb : Below w2.heap.size w2 W) => run_str (HR.out W hb) 512)
      have HCW := hid (fun (W : World) (g' : Nat) (t : TypeId) (hA : Arr W g' t (M.sld us)) => run_str (hA.whole HSL.out HSB.out) 512)
      have HBENT := hid (fun (i : Nat) (x u : Int) hi hx hu => M.right_bent (zs := us) (i := i) (x := x) (u := u) HLOW.out hi hx hu)
      clear HS hA2 HTN HUS HRT HSS HR b2 hbel HLEN h255
      generalize M.uns (M.pad us) = q at *
      generalize M.sld us = ys at *
      generalize strOf ys = s at *
      have d1 : (q != q) = false := by simp
      have d2 : (s.toList == s.toList) = true := by simp
      have d3 : (s.toList != s.toList) = false := by simp
      go_wp2_with fail
      (with_reducible refine HTOLD.out.mono ?_)
      rintro e w3 ⟨rfl, b3⟩
      clear HTOLD
      go_wp2_with fail
      refine wp_region_held_drew (S := fun W => (convert 22 9 (.slice (some ⟨g, 0, none⟩) 512 512)).run Try.prog W = .ok (.string s) W ∧ Below w2.heap.size w2 W) (by kernel_rfl) ⟨HCV.out _ (below_drew' b3), below_drew' b3⟩ (fun hS => ?_)
      refine takeH (i := 0) (v := ?_) 38 rfl rfl (by kernel_rfl) (by kernel_rfl) (by kernel_rfl) (fun _ _ _ h => h) (by rfl) ?hy0 hS ?rest0
      case hy0 => (intro W hW; go_simp; first | done | with_reducible rfl)
      try simp only [Act.put, List.setIfInBounds_toArray, List.set_cons_zero, List.set_cons_succ]
      refine takeH (i := 1) (v := ?_) 39 rfl rfl (by kernel_rfl) (by kernel_rfl) (by kernel_rfl) (fun _ _ _ h => h) (by rfl) ?hy1 hS ?rest1
      case hy1 => (intro W hW; go_simp; first | done | with_reducible rfl)
      try simp only [Act.put, List.setIfInBounds_toArray, List.set_cons_zero, List.set_cons_succ]
      refine takeH (i := 2) (v := ?_) 40 rfl rfl (by kernel_rfl) (by kernel_rfl) (by kernel_rfl) (fun _ _ _ h => h) (by rfl) ?hy2 hS ?rest2
      case hy2 => (intro W hW; go_simp; first | done | with_reducible rfl)
      try simp only [Act.put, List.setIfInBounds_toArray, List.set_cons_zero, List.set_cons_succ]
      refine takeH (i := 3) (v := ?_) 41 rfl rfl (by kernel_rfl) (by kernel_rfl) (by kernel_rfl) (fun _ _ _ h => h) (by rfl) ?hy3 hS ?rest3
      case hy3 => (intro W hW; go_simp; first | done | with_reducible rfl)
      try simp only [Act.put, List.setIfInBounds_toArray, List.set_cons_zero, List.set_cons_succ]
      refine takeH (i := 4) (v := ?_) 42 rfl rfl (by kernel_rfl) (by kernel_rfl) (by kernel_rfl) (fun _ _ _ h => h) (by rfl) ?hy4 hS ?rest4
      case hy4 => (intro W hW; go_simp; first | done | with_reducible rfl)
      try simp only [Act.put, List.setIfInBounds_toArray, List.set_cons_zero, List.set_cons_succ]
      refine takeH (i := 5) (v := ?_) 43 rfl rfl (by kernel_rfl) (by kernel_rfl) (by kernel_rfl) (fun _ _ _ h => h) (by rfl) ?hy5 hS ?rest5
      case hy5 => (intro W hW; go_simp; first | done | with_reducible rfl)
      try simp only [Act.put, List.setIfInBounds_toArray, List.set_cons_zero, List.set_cons_succ]
      refine takeH (i := 6) (v := ?_) 44 rfl rfl (by kernel_rfl) (by kernel_rfl) (by kernel_rfl) (fun _ _ _ h => h) (by rfl) ?hy6 hS ?rest6
      case hy6 => (intro W hW; go_simp; first | done | with_reducible rfl)
      try simp only [Act.put, List.setIfInBounds_toArray, List.set_cons_zero, List.set_cons_succ]
      refine takeH (i := 7) (v := ?_) 45 rfl rfl (by kernel_rfl) (by kernel_rfl) (by kernel_rfl) (fun _ _ _ h => h) (by rfl) ?hy7 hS ?rest7
      case hy7 => (intro W hW; go_simp; first | done | with_reducible rfl)
      try simp only [Act.put, List.setIfInBounds_toArray, List.set_cons_zero, List.set_cons_succ]
      refine takeH (i := 8) (v := ?_) 46 rfl rfl (by kernel_rfl) (by kernel_rfl) (by kernel_rfl) (fun _ _ _ h => h) (by rfl) ?hy8 hS ?rest8
      case hy8 => (intro W hW; go_simp; first | done | with_reducible rfl)
      try simp only [Act.put, List.setIfInBounds_toArray, List.set_cons_zero, List.set_cons_succ]
      refine takeH (i := 9) (v := ?_) 47 rfl rfl (by kernel_rfl) (by kernel_rfl) (by kernel_rfl) (fun _ _ _ h => h) (by rfl) ?hy9 hS ?rest9
      case hy9 => (intro W hW; go_simp; first | done | with_reducible rfl)
      try simp only [Act.put, List.setIfInBounds_toArray, List.set_cons_zero, List.set_cons_succ]
      refine loneH (i := 10) 48 rfl rfl (by kernel_rfl) (by rfl) (fun K hK => ?_)
      go_simp
      (with_reducible refine (HUN.out _ hS.2).mono ?_)
      rintro e w4 ⟨rfl, b4'⟩
      have b4 : Below w2.heap.size w2 w4 := hS.2.trans (b4'.mono hS.2.size)
      clear b4' hS
      refine hK.out _ _ ⟨HCV.out _ b4, b4⟩ (fun hS => ?_)
      clear hK K
      try simp only [Act.put, List.setIfInBounds_toArray, List.set_cons_zero, List.set_cons_succ]
      refine takeH (i := 11) (v := ?_) 49 rfl rfl (by kernel_rfl) (by kernel_rfl) (by kernel_rfl) (fun _ _ _ h => h) (by rfl) ?hy11 hS ?rest11
      case hy11 => (intro W hW; go_simp; first | done | with_reducible rfl)
      try simp only [Act.put, List.setIfInBounds_toArray, List.set_cons_zero, List.set_cons_succ]
      refine takeH (i := 12) (v := ?_) 50 rfl rfl (by kernel_rfl) (by kernel_rfl) (by kernel_rfl) (fun _ _ _ h => h) (by rfl) ?hy12 hS ?rest12
      case hy12 => (intro W hW; go_simp; first | done | with_reducible rfl)
      try simp only [Act.put, List.setIfInBounds_toArray, List.set_cons_zero, List.set_cons_succ]
      refine takeH (i := 13) (v := ?_) 51 rfl rfl (by kernel_rfl) (by kernel_rfl) (by kernel_rfl) (fun _ _ _ h => h) (by rfl) ?hy13 hS ?rest13
      case hy13 => (intro W hW; go_simp; first | done | with_reducible rfl)
      try simp only [Act.put, List.setIfInBounds_toArray, List.set_cons_zero, List.set_cons_succ]
      refine takeH (i := 14) (v := ?_) 52 rfl rfl (by kernel_rfl) (by kernel_rfl) (by kernel_rfl) (fun _ _ _ h => h) (by rfl) ?hy14 hS ?rest14
      case hy14 => (intro W hW; go_simp; first | done | with_reducible rfl)
      try simp only [Act.put, List.setIfInBounds_toArray, List.set_cons_zero, List.set_cons_succ]
      refine loneH (i := 15) 53 rfl rfl (by kernel_rfl) (by rfl) (fun K hK => ?_)
      go_simp
      (with_reducible refine (HRI.out _ hS.2).mono ?_)
      rintro e w5 ⟨rfl, b5'⟩
      have b5 : Below w2.heap.size w2 w5 := hS.2.trans (b5'.mono hS.2.size)
      clear b5' hS
      refine hK.out _ _ ⟨HCV.out _ b5, b5⟩ (fun hS => ?_)
      clear hK K
      try simp only [Act.put, List.setIfInBounds_toArray, List.set_cons_zero, List.set_cons_succ]
      refine takeH (i := 16) (v := ?_) 54 rfl rfl (by kernel_rfl) (by kernel_rfl) (by kernel_rfl) (fun _ _ _ h => h) (by rfl) ?hy16 hS ?rest16
      case hy16 => (intro W hW; go_simp; first | done | with_reducible rfl)
      try simp only [Act.put, List.setIfInBounds_toArray, List.set_cons_zero, List.set_cons_succ]
      refine takeH (i := 17) (v := ?_) 55 rfl rfl (by kernel_rfl) (by kernel_rfl) (by kernel_rfl) (fun _ _ _ h => h) (by rfl) ?hy17 hS ?rest17
      case hy17 => (intro W hW; go_simp; first | done | with_reducible rfl)
      try simp only [Act.put, List.setIfInBounds_toArray, List.set_cons_zero, List.set_cons_succ]
      refine takeH (i := 18) (v := ?_) 56 rfl rfl (by kernel_rfl) (by kernel_rfl) (by kernel_rfl) (fun _ _ _ h => h) (by rfl) ?hy18 hS ?rest18
      case hy18 => (intro W hW; go_simp; first | done | with_reducible rfl)
      try simp only [Act.put, List.setIfInBounds_toArray, List.set_cons_zero, List.set_cons_succ]
      refine takeH (i := 19) (v := ?_) 57 rfl rfl (by kernel_rfl) (by kernel_rfl) (by kernel_rfl) (fun _ _ _ h => h) (by rfl) ?hy19 hS ?rest19
      case hy19 => (intro W hW; go_simp; first | done | with_reducible rfl)
      try simp only [Act.put, List.setIfInBounds_toArray, List.set_cons_zero, List.set_cons_succ]
      refine takeH (i := 22) (v := ?_) 60 rfl rfl (by kernel_rfl) (by kernel_rfl) (by kernel_rfl) (fun _ _ _ h => h) (by rfl) ?hy22 hS ?rest22
      case hy22 => (intro W hW; go_simp; first | done | with_reducible rfl)
      try simp only [Act.put, List.setIfInBounds_toArray, List.set_cons_zero, List.set_cons_succ]
      refine takeH (i := 23) (v := ?_) 61 rfl rfl (by kernel_rfl) (by kernel_rfl) (by kernel_rfl) (fun _ _ _ h => h) (by rfl) ?hy23 hS ?rest23
      case hy23 => (intro W hW; have hW1 := hW.1; clear hW; go_simp; first | done | with_reducible rfl)
      try simp only [Act.put, List.setIfInBounds_toArray, List.set_cons_zero, List.set_cons_succ]
      refine loneH (i := 20) 58 rfl rfl (by kernel_rfl) (by rfl) (fun K hK => ?_)
      go_simp
      (with_reducible refine (HSE.out _ hS.2).mono ?_)
      rintro e w6 ⟨g6, rfl, hg6, hA6, b6'⟩
      have b6 : Below w2.heap.size w2 w6 := hS.2.trans (b6'.mono hS.2.size)
      have cw6 := HCW.out _ _ _ hA6
      clear b6' hg6 hA6 hS
      refine hK.out _ _ ⟨HCV.out _ b6, b6⟩ (fun hS => ?_)
      clear hK K
      try simp only [Act.put, List.setIfInBounds_toArray, List.set_cons_zero, List.set_cons_succ]
      refine loneH (i := 21) 59 rfl rfl (by kernel_rfl) (by rfl) (fun K hK => ?_)
      go_simp
      refine hK.out _ _ hS (fun hS => ?_)
      clear hK K
      try simp only [Act.put, List.setIfInBounds_toArray, List.set_cons_zero, List.set_cons_succ]
      refine takeH (i := 24) (v := ?_) 62 rfl rfl (by kernel_rfl) (by kernel_rfl) (by kernel_rfl) (fun _ _ _ h => h) (by rfl) ?hy24 hS ?rest24
      case hy24 => (intro W hW; go_simp; first | done | with_reducible rfl)
      try simp only [Act.put, List.setIfInBounds_toArray, List.set_cons_zero, List.set_cons_succ]
      refine takeH (i := 25) (v := ?_) 63 rfl rfl (by kernel_rfl) (by kernel_rfl) (by kernel_rfl) (fun _ _ _ h => h) (by rfl) ?hy25 hS ?rest25
      case hy25 => (intro W hW; go_simp; first | done | with_reducible rfl)
      try simp only [Act.put, List.setIfInBounds_toArray, List.set_cons_zero, List.set_cons_succ]
      refine wpAnyH_done (by kernel_rfl) ?_ _
      have HA6 := hid (HA2.out.below hS.2 hgl)
      have b06 := hb2.trans (hS.2.mono hb2.size)
      clear hS HUN HRI HSE HCV HCW cw6 d1 d2 d3 b3 b4 b5 b6 HA2 hb2
      obtain ⟨i0, hi0⟩ : ∃ i0 : Nat, a % 504 = i0 := ⟨(a % 504).toNat, by omega⟩
      have hi5 : i0 < 504 := by omega
      have hu0 : 0 ≤ b % 128 := by omega
      have hu1 : b % 128 ≤ 127 := by omega
      by_cases h148 : i0 < 148
      · have e1 : decide ((148 : Int) ≤ i0) = false := by rw [decide_eq_false_iff_not]; omega
        obtain ⟨x, hx⟩ : ∃ x, ys[i0]? = some x := ⟨_, List.getElem?_eq_getElem (by rw [HSL.out]; omega)⟩
        have hxb := HSB.out x (List.mem_of_getElem? hx)
        obtain ⟨hx0, hx1⟩ := hxb
        have hcs := HA6.out.cell hx
        have hfs := HA6.out.frozen (i0)
        have HW := hid (HBENT.out (i0) x (b % 128) (.inl h148) hx ⟨hu0, hu1⟩)
        have HA7 := hid (HA6.out.set (i0) (b % 128))
        have HB7 := hid (b06.setCell (p := ⟨g, i0, none⟩) hgw (.int .u8 (b % 128)))
        have HL7 : Hid ((ys.set (i0) (b % 128)).length = 512) := hid (by rw [List.length_set]; exact HSL.out)
        have HZ7 : Hid (∀ z ∈ ys.set (i0) (b % 128), 0 ≤ z ∧ z ≤ 255) := hid (fun z hz => by
          rcases List.mem_or_eq_of_mem_set hz with h1 | h1
          · exact HSB.out z h1
          · rw [h1]; omega)
        clear hx h148 hi5
        go_wp2_with fail
        clear hcs hfs e1
        generalize w6.setCell ⟨g, i0, none⟩ (.int .u8 (b % 128)) = w7 at *
        generalize ys.set (i0) (b % 128) = vs at *
        have hlt7 := HA7.out.lt
        refine (known_any _).mono ?_
        rintro e w8 ⟨rfl, b8⟩
        have hA8 := HA7.out.below b8 hlt7
        have hb8 := HB7.out.trans (b8.mono HB7.out.size)
        have HR8 := hid (right_any (some ⟨g, 0, none⟩) 512 512 vs w8 _ (hA8.whole HL7.out HZ7.out) (Nat.le_refl _) (by decide))
        rw [HW.out] at HR8
        clear hA8 b8 HA7 HB7 HL7 HZ7 HW
        cases hux : (b % 128 == x)
        all_goals
          rw [hux] at HR8
          go_wp2_with fail
          (with_reducible refine HR8.out.mono ?_)
          rintro e w9 ⟨rfl, b9⟩
          have hb9 := hb8.trans (b9.mono hb8.size)
          clear b9 hb8 HR8
          go_wp2
          go_ret
          exact ⟨rfl, hb9⟩
      · have e1 : decide ((148 : Int) ≤ i0) = true := by rw [decide_eq_true_eq]; omega
        obtain ⟨x, hx⟩ : ∃ x, ys[i0 + 8]? = some x := ⟨_, List.getElem?_eq_getElem (by rw [HSL.out]; omega)⟩
        have hxb := HSB.out x (List.mem_of_getElem? hx)
        obtain ⟨hx0, hx1⟩ := hxb
        have hcs := HA6.out.cell hx
        have hfs := HA6.out.frozen (i0 + 8)
        have HW := hid (HBENT.out (i0 + 8) x (b % 128) (.inr (by omega)) hx ⟨hu0, hu1⟩)
        have HA7 := hid (HA6.out.set (i0 + 8) (b % 128))
        have HB7 := hid (b06.setCell (p := ⟨g, i0 + 8, none⟩) hgw (.int .u8 (b % 128)))
        have HL7 : Hid ((ys.set (i0 + 8) (b % 128)).length = 512) := hid (by rw [List.length_set]; exact HSL.out)
        have HZ7 : Hid (∀ z ∈ ys.set (i0 + 8) (b % 128), 0 ≤ z ∧ z ≤ 255) := hid (fun z hz => by
          rcases List.mem_or_eq_of_mem_set hz with h1 | h1
          · exact HSB.out z h1
          · rw [h1]; omega)
        clear hx h148 hi5
        go_wp2_with fail
        clear hcs hfs e1
        generalize w6.setCell ⟨g, i0 + 8, none⟩ (.int .u8 (b % 128)) = w7 at *
        generalize ys.set (i0 + 8) (b % 128) = vs at *
        have hlt7 := HA7.out.lt
        refine (known_any _).mono ?_
        rintro e w8 ⟨rfl, b8⟩
        have hA8 := HA7.out.below b8 hlt7
        have hb8 := HB7.out.trans (b8.mono HB7.out.size)
        have HR8 := hid (right_any (some ⟨g, 0, none⟩) 512 512 vs w8 _ (hA8.whole HL7.out HZ7.out) (Nat.le_refl _) (by decide))
        rw [HW.out] at HR8
        clear hA8 b8 HA7 HB7 HL7 HZ7 HW
        cases hux : (b % 128 == x)
        all_goals
          rw [hux] at HR8
          go_wp2_with fail
          (with_reducible refine HR8.out.mono ?_)
          rintro e w9 ⟨rfl, b9⟩
          have hb9 := hb8.trans (b9.mono hb8.size)
          clear b9 hb8 HR8
          go_wp2
          go_ret
          exact ⟨rfl, hb9⟩
end Go.Proofs.Ytjaopghpopmmdaa
