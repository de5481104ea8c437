/-
  The document's Known, kind, magic and Way.
-/
import Derived.Test.YtkpnhggpcpjddaaGreatDoorHMd
import Derived.Test.YtkpnhggpcpjddaaGreatDoorHMi
set_option linter.unusedVariables false
set_option linter.unusedSimpArgs false
namespace Go.Proofs.YtkpnhggpcpjddaaGreatDoor
open Go.RowKit Go.Lib
theorem below_drwR {B : Nat} {a w : World} (h : Below B a w) : Below B a w.drew := ⟨h.os, h.tape, h.output, h.size, h.block⟩

set_option maxHeartbeats 1000000 in
theorem refKnown_any (c : Int) (w : World) : Calls Tryz.prog 26 #[.int .u8 c] w fun e w' => e = .returned (.bool (M.known c)) ∧ w = w' := by
  go_enter Tryz.func26, Tryz.ntmps26
  go_wp2
  all_goals
    go_ret
    refine ⟨ret_bool (Bool.eq_iff_iff.2 ?_), rfl⟩
    unfold M.known
    simp at *
    try omega
set_option maxHeartbeats 1000000 in
theorem refKind_any (A : Option Addr) (n c : Nat) (zs : List Int) (w : World) (B : Nat) (hr : Rd w B A n zs) (hn : n = 512) :
    Calls Tryz.prog 62 #[.slice A n c] w fun e w' => e = .returned (.int .u8 (M.kind zs)) ∧ w = w' := by
  subst hn
  obtain ⟨b, off, z, rfl, hb, hz0, hz1, hzk, hc⟩ := hr.at_ (k := 156) (by decide)
  have hz : M.byt zs 156 = z := by unfold M.byt; rw [List.getD_eq_getElem?_getD, hzk]; rfl
  have HK := hid (show M.kind zs = if z = 0 then 48 else z by unfold M.kind; rw [hz])
  clear hzk hz
  by_cases h0 : z = 0
  · subst h0
    go_enter Tryz.func62, Tryz.ntmps62
    go_wp2
    go_ret
    exact ⟨ret_int HK.out.symm, rfl⟩
  · have e1 : (z == 0) = false := by simpa using h0
    have HN := hid h0
    clear h0
    go_enter Tryz.func62, Tryz.ntmps62
    go_wp2
    go_ret
    exact ⟨ret_int (by rw [HK.out, if_neg HN.out]), rfl⟩
set_option maxHeartbeats 1000000 in
theorem magic_any (k : Nat) (hk : k < 3) (w : World) : Calls Tryz.prog 34 #[.int .i64 k] w fun e w' => e = .returned (.string (mgs k)) ∧ Below w.heap.size w w' := by
  have h3 : k = 0 ∨ k = 1 ∨ k = 2 := by omega
  rcases h3 with rfl | rfl | rfl
  all_goals
    clear hk
    go_enter Tryz.func34, Tryz.ntmps34
    go_wp2
    go_ret
    exact ⟨rfl, (Below.refl _ _).alloc (Nat.le_refl _) _⟩

set_option maxRecDepth 100000 in
set_option maxHeartbeats 2000000 in
theorem refWay_any (A : Option Addr) (n c : Nat) (zs : List Int) (w : World) (hr : Rd w w.heap.size A n zs) (hc : n ≤ c) (hcm : c ≤ maxLen) :
    Calls Tryz.prog 22 #[.slice A n c] w fun e w' => e = .returned (.tuple #[.int .i64 (wayN zs), .bool (M.way zs).isSome]) ∧ Below w.heap.size w w' := by
  by_cases hn : n = 512
  · subst hn
    have HW := hid (way_eq hr.bd hr.len)
    obtain ⟨b, off, rfl, _, _⟩ := hr.2.2 (by decide)
    have HCV := hid (fun (W : World) (hW : Below w.heap.size w W) => (by
      have hrs := (hr.below hW).sub (a := 257) (m := 8) (by decide)
      have hcv := S.run_text (l := M.toB (M.sub zs 257 8)) (by rw [M.ints_toB (M.sub_bd hr.bd)]; exact hrs) (c - 257)
      exact hcv : Sem.run Tryz.prog (convert 22 9 (.slice (some ⟨b, off + 257, none⟩) 8 (c - 257))) W = .ok (.string (wayText zs)) W))
    have HN : Hid (wayN zs = ((M.way zs).getD 0 : Nat)) := hid rfl
    generalize wayText zs = X at *
    generalize wayN zs = N at *
    unfold maxLen at hcm
    have H265 := hid (show (265 : Int) ≤ (c : Int) by omega)
    have H257 := hid (show c ≠ 257 by omega)
    clear hr
    go_enter Tryz.func22, Tryz.ntmps22
    go_wp2_with fail
    go_loopw [4] (fun i wr => ∃ k : Nat, i = .int .i64 k ∧ k ≤ 3 ∧ Hid (∀ j, j < k → X ≠ mgs j) ∧ Hid (Below w.heap.size w wr)) (fun i _ => 3 - (RowKit.intOf i).toNat)
    case atStart => exact ⟨0, rfl, Nat.zero_le _, hid (fun j hj => absurd hj (Nat.not_lt_zero j)), hid (Below.refl _ _)⟩
    case round =>
      obtain ⟨k, rfl, hk, hno, HB⟩ := hrel
      have h4 : k = 0 ∨ k = 1 ∨ k = 2 ∨ k = 3 := by omega
      clear hk
      rcases h4 with rfl | rfl | rfl | rfl
      · go_wp2_with fail
        by_cases hX : X = mgs 0
        · have E1 := hid (show (X.toList == (mgs 0).toList) = true by rw [hX]; exact beq_self_eq_true _)
          have HX := hid (HW.out.trans (wayX_at (by decide) hX hno.out))
          clear hX hno
          refine wp_region_held_drew (S := fun W => Below w.heap.size w W) (by kernel_rfl) (below_drwR HB.out) (fun hS => ?_)
          refine takeH (i := 0) (v := ?_) 12 rfl rfl (by kernel_rfl) (by kernel_rfl) (by kernel_rfl) (fun _ _ _ h => h) (by rfl) ?hy0r0y hS ?rest0r0y
          case hy0r0y => (intro W hW; clear hW; go_simp; first | done | with_reducible rfl)
          try simp only [Act.put, List.setIfInBounds_toArray, List.set_cons_zero, List.set_cons_succ]
          refine takeH (i := 1) (v := ?_) 13 rfl rfl (by kernel_rfl) (by kernel_rfl) (by kernel_rfl) (fun _ _ _ h => h) (by rfl) ?hy1r0y hS ?rest1r0y
          case hy1r0y => (intro W hW; have f0 := H265.out; have f1 := H257.out; clear hW; go_simp; first | done | with_reducible rfl)
          try simp only [Act.put, List.setIfInBounds_toArray, List.set_cons_zero, List.set_cons_succ]
          refine takeH (i := 2) (v := ?_) 14 rfl rfl (by kernel_rfl) (by kernel_rfl) (by kernel_rfl) (fun _ _ _ h => h) (by rfl) ?hy2r0y hS ?rest2r0y
          case hy2r0y => (intro W hW; have f0 := HCV.out W hW; clear hW; go_simp; first | done | with_reducible rfl)
          try simp only [Act.put, List.setIfInBounds_toArray, List.set_cons_zero, List.set_cons_succ]
          refine takeH (i := 3) (v := ?_) 15 rfl rfl (by kernel_rfl) (by kernel_rfl) (by kernel_rfl) (fun _ _ _ h => h) (by rfl) ?hy3r0y hS ?rest3r0y
          case hy3r0y => (intro W hW; clear hW; go_simp; first | done | with_reducible rfl)
          try simp only [Act.put, List.setIfInBounds_toArray, List.set_cons_zero, List.set_cons_succ]
          refine loneH (i := 4) 16 rfl rfl (by kernel_rfl) (by rfl) (fun K hK => ?_)
          go_simp
          refine (show Calls Tryz.prog 34 #[.int .i64 0] _ (fun e w' => e = .returned (.string (mgs 0)) ∧ Below (World.heap _).size _ w') from magic_any 0 (by decide) _).mono ?_
          rintro e w4 ⟨rfl, b4⟩
          have B4 := hS.trans (b4.mono hS.size)
          clear b4
          refine hK.out _ _ B4 (fun hS => ?_)
          clear hK K
          try simp only [Act.put, List.setIfInBounds_toArray, List.set_cons_zero, List.set_cons_succ]
          refine takeH (i := 5) (v := ?_) 17 rfl rfl (by kernel_rfl) (by kernel_rfl) (by kernel_rfl) (fun _ _ _ h => h) (by rfl) ?hy5r0y hS ?rest5r0y
          case hy5r0y => (intro W hW; have f0 := E1.out; clear hW; go_simp; first | done | with_reducible rfl)
          try simp only [Act.put, List.setIfInBounds_toArray, List.set_cons_zero, List.set_cons_succ]
          refine wpAnyH_done (by kernel_rfl) ?_ _
          try simp only [Act.put, List.setIfInBounds_toArray, List.set_cons_zero, List.set_cons_succ]
          go_wp2_with fail
          go_ret2
          exact ⟨ret_way HN.out HX.out, hS⟩
        · have E1 := hid (show (X.toList == (mgs 0).toList) = false by rw [beq_eq_false_iff_ne]; exact fun e => hX (toList_inj e))
          have HR := hid (way_more hno.out hX)
          clear hX hno
          refine wp_region_held_drew (S := fun W => Below w.heap.size w W) (by kernel_rfl) (below_drwR HB.out) (fun hS => ?_)
          refine takeH (i := 0) (v := ?_) 12 rfl rfl (by kernel_rfl) (by kernel_rfl) (by kernel_rfl) (fun _ _ _ h => h) (by rfl) ?hy0r0n hS ?rest0r0n
          case hy0r0n => (intro W hW; clear hW; go_simp; first | done | with_reducible rfl)
          try simp only [Act.put, List.setIfInBounds_toArray, List.set_cons_zero, List.set_cons_succ]
          refine takeH (i := 1) (v := ?_) 13 rfl rfl (by kernel_rfl) (by kernel_rfl) (by kernel_rfl) (fun _ _ _ h => h) (by rfl) ?hy1r0n hS ?rest1r0n
          case hy1r0n => (intro W hW; have f0 := H265.out; have f1 := H257.out; clear hW; go_simp; first | done | with_reducible rfl)
          try simp only [Act.put, List.setIfInBounds_toArray, List.set_cons_zero, List.set_cons_succ]
          refine takeH (i := 2) (v := ?_) 14 rfl rfl (by kernel_rfl) (by kernel_rfl) (by kernel_rfl) (fun _ _ _ h => h) (by rfl) ?hy2r0n hS ?rest2r0n
          case hy2r0n => (intro W hW; have f0 := HCV.out W hW; clear hW; go_simp; first | done | with_reducible rfl)
          try simp only [Act.put, List.setIfInBounds_toArray, List.set_cons_zero, List.set_cons_succ]
          refine takeH (i := 3) (v := ?_) 15 rfl rfl (by kernel_rfl) (by kernel_rfl) (by kernel_rfl) (fun _ _ _ h => h) (by rfl) ?hy3r0n hS ?rest3r0n
          case hy3r0n => (intro W hW; clear hW; go_simp; first | done | with_reducible rfl)
          try simp only [Act.put, List.setIfInBounds_toArray, List.set_cons_zero, List.set_cons_succ]
          refine loneH (i := 4) 16 rfl rfl (by kernel_rfl) (by rfl) (fun K hK => ?_)
          go_simp
          refine (show Calls Tryz.prog 34 #[.int .i64 0] _ (fun e w' => e = .returned (.string (mgs 0)) ∧ Below (World.heap _).size _ w') from magic_any 0 (by decide) _).mono ?_
          rintro e w4 ⟨rfl, b4⟩
          have B4 := hS.trans (b4.mono hS.size)
          clear b4
          refine hK.out _ _ B4 (fun hS => ?_)
          clear hK K
          try simp only [Act.put, List.setIfInBounds_toArray, List.set_cons_zero, List.set_cons_succ]
          refine takeH (i := 5) (v := ?_) 17 rfl rfl (by kernel_rfl) (by kernel_rfl) (by kernel_rfl) (fun _ _ _ h => h) (by rfl) ?hy5r0n hS ?rest5r0n
          case hy5r0n => (intro W hW; have f0 := E1.out; clear hW; go_simp; first | done | with_reducible rfl)
          try simp only [Act.put, List.setIfInBounds_toArray, List.set_cons_zero, List.set_cons_succ]
          refine wpAnyH_done (by kernel_rfl) ?_ _
          try simp only [Act.put, List.setIfInBounds_toArray, List.set_cons_zero, List.set_cons_succ]
          go_wp2_with fail
          go_roundw
          case rel => exact ⟨1, (by go_num), by decide, HR, hid hS⟩
          case measure => simp [RowKit.intOf]
      · go_wp2_with fail
        by_cases hX : X = mgs 1
        · have E1 := hid (show (X.toList == (mgs 1).toList) = true by rw [hX]; exact beq_self_eq_true _)
          have HX := hid (HW.out.trans (wayX_at (by decide) hX hno.out))
          clear hX hno
          refine wp_region_held_drew (S := fun W => Below w.heap.size w W) (by kernel_rfl) (below_drwR HB.out) (fun hS => ?_)
          refine takeH (i := 0) (v := ?_) 12 rfl rfl (by kernel_rfl) (by kernel_rfl) (by kernel_rfl) (fun _ _ _ h => h) (by rfl) ?hy0r1y hS ?rest0r1y
          case hy0r1y => (intro W hW; clear hW; go_simp; first | done | with_reducible rfl)
          try simp only [Act.put, List.setIfInBounds_toArray, List.set_cons_zero, List.set_cons_succ]
          refine takeH (i := 1) (v := ?_) 13 rfl rfl (by kernel_rfl) (by kernel_rfl) (by kernel_rfl) (fun _ _ _ h => h) (by rfl) ?hy1r1y hS ?rest1r1y
          case hy1r1y => (intro W hW; have f0 := H265.out; have f1 := H257.out; clear hW; go_simp; first | done | with_reducible rfl)
          try simp only [Act.put, List.setIfInBounds_toArray, List.set_cons_zero, List.set_cons_succ]
          refine takeH (i := 2) (v := ?_) 14 rfl rfl (by kernel_rfl) (by kernel_rfl) (by kernel_rfl) (fun _ _ _ h => h) (by rfl) ?hy2r1y hS ?rest2r1y
          case hy2r1y => (intro W hW; have f0 := HCV.out W hW; clear hW; go_simp; first | done | with_reducible rfl)
          try simp only [Act.put, List.setIfInBounds_toArray, List.set_cons_zero, List.set_cons_succ]
          refine takeH (i := 3) (v := ?_) 15 rfl rfl (by kernel_rfl) (by kernel_rfl) (by kernel_rfl) (fun _ _ _ h => h) (by rfl) ?hy3r1y hS ?rest3r1y
          case hy3r1y => (intro W hW; clear hW; go_simp; first | done | with_reducible rfl)
          try simp only [Act.put, List.setIfInBounds_toArray, List.set_cons_zero, List.set_cons_succ]
          refine loneH (i := 4) 16 rfl rfl (by kernel_rfl) (by rfl) (fun K hK => ?_)
          go_simp
          refine (show Calls Tryz.prog 34 #[.int .i64 1] _ (fun e w' => e = .returned (.string (mgs 1)) ∧ Below (World.heap _).size _ w') from magic_any 1 (by decide) _).mono ?_
          rintro e w4 ⟨rfl, b4⟩
          have B4 := hS.trans (b4.mono hS.size)
          clear b4
          refine hK.out _ _ B4 (fun hS => ?_)
          clear hK K
          try simp only [Act.put, List.setIfInBounds_toArray, List.set_cons_zero, List.set_cons_succ]
          refine takeH (i := 5) (v := ?_) 17 rfl rfl (by kernel_rfl) (by kernel_rfl) (by kernel_rfl) (fun _ _ _ h => h) (by rfl) ?hy5r1y hS ?rest5r1y
          case hy5r1y => (intro W hW; have f0 := E1.out; clear hW; go_simp; first | done | with_reducible rfl)
          try simp only [Act.put, List.setIfInBounds_toArray, List.set_cons_zero, List.set_cons_succ]
          refine wpAnyH_done (by kernel_rfl) ?_ _
          try simp only [Act.put, List.setIfInBounds_toArray, List.set_cons_zero, List.set_cons_succ]
          go_wp2_with fail
          go_ret2
          exact ⟨ret_way HN.out HX.out, hS⟩
        · have E1 := hid (show (X.toList == (mgs 1).toList) = false by rw [beq_eq_false_iff_ne]; exact fun e => hX (toList_inj e))
          have HR := hid (way_more hno.out hX)
          clear hX hno
          refine wp_region_held_drew (S := fun W => Below w.heap.size w W) (by kernel_rfl) (below_drwR HB.out) (fun hS => ?_)
          refine takeH (i := 0) (v := ?_) 12 rfl rfl (by kernel_rfl) (by kernel_rfl) (by kernel_rfl) (fun _ _ _ h => h) (by rfl) ?hy0r1n hS ?rest0r1n
          case hy0r1n => (intro W hW; clear hW; go_simp; first | done | with_reducible rfl)
          try simp only [Act.put, List.setIfInBounds_toArray, List.set_cons_zero, List.set_cons_succ]
          refine takeH (i := 1) (v := ?_) 13 rfl rfl (by kernel_rfl) (by kernel_rfl) (by kernel_rfl) (fun _ _ _ h => h) (by rfl) ?hy1r1n hS ?rest1r1n
          case hy1r1n => (intro W hW; have f0 := H265.out; have f1 := H257.out; clear hW; go_simp; first | done | with_reducible rfl)
          try simp only [Act.put, List.setIfInBounds_toArray, List.set_cons_zero, List.set_cons_succ]
          refine takeH (i := 2) (v := ?_) 14 rfl rfl (by kernel_rfl) (by kernel_rfl) (by kernel_rfl) (fun _ _ _ h => h) (by rfl) ?hy2r1n hS ?rest2r1n
          case hy2r1n => (intro W hW; have f0 := HCV.out W hW; clear hW; go_simp; first | done | with_reducible rfl)
          try simp only [Act.put, List.setIfInBounds_toArray, List.set_cons_zero, List.set_cons_succ]
          refine takeH (i := 3) (v := ?_) 15 rfl rfl (by kernel_rfl) (by kernel_rfl) (by kernel_rfl) (fun _ _ _ h => h) (by rfl) ?hy3r1n hS ?rest3r1n
          case hy3r1n => (intro W hW; clear hW; go_simp; first | done | with_reducible rfl)
          try simp only [Act.put, List.setIfInBounds_toArray, List.set_cons_zero, List.set_cons_succ]
          refine loneH (i := 4) 16 rfl rfl (by kernel_rfl) (by rfl) (fun K hK => ?_)
          go_simp
          refine (show Calls Tryz.prog 34 #[.int .i64 1] _ (fun e w' => e = .returned (.string (mgs 1)) ∧ Below (World.heap _).size _ w') from magic_any 1 (by decide) _).mono ?_
          rintro e w4 ⟨rfl, b4⟩
          have B4 := hS.trans (b4.mono hS.size)
          clear b4
          refine hK.out _ _ B4 (fun hS => ?_)
          clear hK K
          try simp only [Act.put, List.setIfInBounds_toArray, List.set_cons_zero, List.set_cons_succ]
          refine takeH (i := 5) (v := ?_) 17 rfl rfl (by kernel_rfl) (by kernel_rfl) (by kernel_rfl) (fun _ _ _ h => h) (by rfl) ?hy5r1n hS ?rest5r1n
          case hy5r1n => (intro W hW; have f0 := E1.out; clear hW; go_simp; first | done | with_reducible rfl)
          try simp only [Act.put, List.setIfInBounds_toArray, List.set_cons_zero, List.set_cons_succ]
          refine wpAnyH_done (by kernel_rfl) ?_ _
          try simp only [Act.put, List.setIfInBounds_toArray, List.set_cons_zero, List.set_cons_succ]
          go_wp2_with fail
          go_roundw
          case rel => exact ⟨2, (by go_num), by decide, HR, hid hS⟩
          case measure => simp [RowKit.intOf]
      · go_wp2_with fail
        by_cases hX : X = mgs 2
        · have E1 := hid (show (X.toList == (mgs 2).toList) = true by rw [hX]; exact beq_self_eq_true _)
          have HX := hid (HW.out.trans (wayX_at (by decide) hX hno.out))
          clear hX hno
          refine wp_region_held_drew (S := fun W => Below w.heap.size w W) (by kernel_rfl) (below_drwR HB.out) (fun hS => ?_)
          refine takeH (i := 0) (v := ?_) 12 rfl rfl (by kernel_rfl) (by kernel_rfl) (by kernel_rfl) (fun _ _ _ h => h) (by rfl) ?hy0r2y hS ?rest0r2y
          case hy0r2y => (intro W hW; clear hW; go_simp; first | done | with_reducible rfl)
          try simp only [Act.put, List.setIfInBounds_toArray, List.set_cons_zero, List.set_cons_succ]
          refine takeH (i := 1) (v := ?_) 13 rfl rfl (by kernel_rfl) (by kernel_rfl) (by kernel_rfl) (fun _ _ _ h => h) (by rfl) ?hy1r2y hS ?rest1r2y
          case hy1r2y => (intro W hW; have f0 := H265.out; have f1 := H257.out; clear hW; go_simp; first | done | with_reducible rfl)
          try simp only [Act.put, List.setIfInBounds_toArray, List.set_cons_zero, List.set_cons_succ]
          refine takeH (i := 2) (v := ?_) 14 rfl rfl (by kernel_rfl) (by kernel_rfl) (by kernel_rfl) (fun _ _ _ h => h) (by rfl) ?hy2r2y hS ?rest2r2y
          case hy2r2y => (intro W hW; have f0 := HCV.out W hW; clear hW; go_simp; first | done | with_reducible rfl)
          try simp only [Act.put, List.setIfInBounds_toArray, List.set_cons_zero, List.set_cons_succ]
          refine takeH (i := 3) (v := ?_) 15 rfl rfl (by kernel_rfl) (by kernel_rfl) (by kernel_rfl) (fun _ _ _ h => h) (by rfl) ?hy3r2y hS ?rest3r2y
          case hy3r2y => (intro W hW; clear hW; go_simp; first | done | with_reducible rfl)
          try simp only [Act.put, List.setIfInBounds_toArray, List.set_cons_zero, List.set_cons_succ]
          refine loneH (i := 4) 16 rfl rfl (by kernel_rfl) (by rfl) (fun K hK => ?_)
          go_simp
          refine (show Calls Tryz.prog 34 #[.int .i64 2] _ (fun e w' => e = .returned (.string (mgs 2)) ∧ Below (World.heap _).size _ w') from magic_any 2 (by decide) _).mono ?_
          rintro e w4 ⟨rfl, b4⟩
          have B4 := hS.trans (b4.mono hS.size)
          clear b4
          refine hK.out _ _ B4 (fun hS => ?_)
          clear hK K
          try simp only [Act.put, List.setIfInBounds_toArray, List.set_cons_zero, List.set_cons_succ]
          refine takeH (i := 5) (v := ?_) 17 rfl rfl (by kernel_rfl) (by kernel_rfl) (by kernel_rfl) (fun _ _ _ h => h) (by rfl) ?hy5r2y hS ?rest5r2y
          case hy5r2y => (intro W hW; have f0 := E1.out; clear hW; go_simp; first | done | with_reducible rfl)
          try simp only [Act.put, List.setIfInBounds_toArray, List.set_cons_zero, List.set_cons_succ]
          refine wpAnyH_done (by kernel_rfl) ?_ _
          try simp only [Act.put, List.setIfInBounds_toArray, List.set_cons_zero, List.set_cons_succ]
          go_wp2_with fail
          go_ret2
          exact ⟨ret_way HN.out HX.out, hS⟩
        · have E1 := hid (show (X.toList == (mgs 2).toList) = false by rw [beq_eq_false_iff_ne]; exact fun e => hX (toList_inj e))
          have HR := hid (way_more hno.out hX)
          clear hX hno
          refine wp_region_held_drew (S := fun W => Below w.heap.size w W) (by kernel_rfl) (below_drwR HB.out) (fun hS => ?_)
          refine takeH (i := 0) (v := ?_) 12 rfl rfl (by kernel_rfl) (by kernel_rfl) (by kernel_rfl) (fun _ _ _ h => h) (by rfl) ?hy0r2n hS ?rest0r2n
          case hy0r2n => (intro W hW; clear hW; go_simp; first | done | with_reducible rfl)
          try simp only [Act.put, List.setIfInBounds_toArray, List.set_cons_zero, List.set_cons_succ]
          refine takeH (i := 1) (v := ?_) 13 rfl rfl (by kernel_rfl) (by kernel_rfl) (by kernel_rfl) (fun _ _ _ h => h) (by rfl) ?hy1r2n hS ?rest1r2n
          case hy1r2n => (intro W hW; have f0 := H265.out; have f1 := H257.out; clear hW; go_simp; first | done | with_reducible rfl)
          try simp only [Act.put, List.setIfInBounds_toArray, List.set_cons_zero, List.set_cons_succ]
          refine takeH (i := 2) (v := ?_) 14 rfl rfl (by kernel_rfl) (by kernel_rfl) (by kernel_rfl) (fun _ _ _ h => h) (by rfl) ?hy2r2n hS ?rest2r2n
          case hy2r2n => (intro W hW; have f0 := HCV.out W hW; clear hW; go_simp; first | done | with_reducible rfl)
          try simp only [Act.put, List.setIfInBounds_toArray, List.set_cons_zero, List.set_cons_succ]
          refine takeH (i := 3) (v := ?_) 15 rfl rfl (by kernel_rfl) (by kernel_rfl) (by kernel_rfl) (fun _ _ _ h => h) (by rfl) ?hy3r2n hS ?rest3r2n
          case hy3r2n => (intro W hW; clear hW; go_simp; first | done | with_reducible rfl)
          try simp only [Act.put, List.setIfInBounds_toArray, List.set_cons_zero, List.set_cons_succ]
          refine loneH (i := 4) 16 rfl rfl (by kernel_rfl) (by rfl) (fun K hK => ?_)
          go_simp
          refine (show Calls Tryz.prog 34 #[.int .i64 2] _ (fun e w' => e = .returned (.string (mgs 2)) ∧ Below (World.heap _).size _ w') from magic_any 2 (by decide) _).mono ?_
          rintro e w4 ⟨rfl, b4⟩
          have B4 := hS.trans (b4.mono hS.size)
          clear b4
          refine hK.out _ _ B4 (fun hS => ?_)
          clear hK K
          try simp only [Act.put, List.setIfInBounds_toArray, List.set_cons_zero, List.set_cons_succ]
          refine takeH (i := 5) (v := ?_) 17 rfl rfl (by kernel_rfl) (by kernel_rfl) (by kernel_rfl) (fun _ _ _ h => h) (by rfl) ?hy5r2n hS ?rest5r2n
          case hy5r2n => (intro W hW; have f0 := E1.out; clear hW; go_simp; first | done | with_reducible rfl)
          try simp only [Act.put, List.setIfInBounds_toArray, List.set_cons_zero, List.set_cons_succ]
          refine wpAnyH_done (by kernel_rfl) ?_ _
          try simp only [Act.put, List.setIfInBounds_toArray, List.set_cons_zero, List.set_cons_succ]
          go_wp2_with fail
          go_roundw
          case rel => exact ⟨3, (by go_num), by decide, HR, hid hS⟩
          case measure => simp [RowKit.intOf]
      · have HX := hid (HW.out.trans (wayX_none hno.out))
        go_wp2_with fail
        go_ret2
        exact ⟨ret_noway HN.out HX.out, HB.out⟩
  · have e1 : ((n : Int) != 512) = true := by simp; omega
    have HX := hid (show M.way zs = none by unfold M.way; rw [if_neg (by rw [hr.len]; exact hn)])
    have HN : Hid (wayN zs = ((M.way zs).getD 0 : Nat)) := hid rfl
    clear hr hn
    go_enter Tryz.func22, Tryz.ntmps22
    go_wp2
    go_ret2
    exact ⟨ret_noway HN.out HX.out, Below.refl _ _⟩
end Go.Proofs.YtkpnhggpcpjddaaGreatDoor
