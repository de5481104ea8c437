/-
  The law's Text: what it is, of choices.
-/
import Derived.Test.YtjpflljmeaihgaaDoorSpRefPrint
import Derived.Test.YtjpflljmeaihgaaDoorSpLawParts
import Derived.Test.YtjpflljmeaihgaaDoorSumStep
import Derived.Test.YtjpflljmeaihgaaDoorSpInts
import Derived.Test.YtjpflljmeaihgaaDoorSpSeq
namespace Go.Proofs.YtjpflljmeaihgaaDoor
open Go.RowKit Go.Lib
attribute [local go_sem ↓] add_plain

/-- What is put between. -/
def pk : Nat → ByteArray
  | 0 => ⟨#[44]⟩
  | 1 => ⟨#[45]⟩
  | 2 => ⟨#[48]⟩
  | 3 => ⟨#[120]⟩
  | _ => ⟨#[57, 57, 57, 57, 57, 57, 57, 57, 57, 57, 57, 57, 57, 57]⟩
theorem pk_size (j : Nat) : (pk j).size ≤ 14 := by unfold pk; split <;> decide
def pkRow : Array Value := #[.string ⟨#[44]⟩, .string ⟨#[45]⟩, .string ⟨#[48]⟩, .string ⟨#[120]⟩, .string ⟨#[57, 57, 57, 57, 57, 57, 57, 57, 57, 57, 57, 57, 57, 57]⟩]
theorem pkRow_at {j : Nat} (h : j < 5) : pkRow[j]? = some (.string (pk j)) := by
  have : j = 0 ∨ j = 1 ∨ j = 2 ∨ j = 3 ∨ j = 4 := by omega
  rcases this with rfl | rfl | rfl | rfl | rfl <;> rfl
namespace M
/-- A text of parts, as choices say. -/
def chText (zs : List Int) : List UInt8 :=
  if 0 < zs.length ∧ 150 < zs.getD 0 0 then
    (print (chParts zs)).take (zs.getD 0 0 % ((print (chParts zs)).length + 1)).toNat ++ tl (pk (zs.getD 0 0 % 5).toNat) ++ (print (chParts zs)).drop (zs.getD 0 0 % ((print (chParts zs)).length + 1)).toNat
  else print (chParts zs)
theorem chText_len {zs : List Int} (h : (chParts zs).length ≤ 8) : (chText zs).length ≤ 1000 := by
  have h1 := print_len (chParts zs)
  have h2 := pk_size (zs.getD 0 0 % 5).toNat
  unfold chText
  split
  · rw [List.length_append, List.length_append, List.length_take, List.length_drop, tl_len]; omega
  · omega
end M

set_option maxRecDepth 100000 in
set_option maxHeartbeats 4000000 in
theorem text_any (A : Option Addr) (n c : Nat) (zs : List Int) (w : World) (hr : Rd w w.heap.size A n zs) (hn : n ≤ maxLen) (ht : EV w.heap.size w) :
    Calls Tryd.prog 16 #[.slice A n c] w fun e w' => e = .returned (.string (mkS (M.chText zs))) ∧ (M.chText zs).length ≤ 1000 ∧ Below w.heap.size w w' := by
  have HT := hid (fun (W : World) (hW : Below w.heap.size w W) => (ht.on hW).up hW.size)
  have HR := hid (fun (W : World) (hW : Below w.heap.size w W) => hr.below hW)
  have HP := hid (lawPartsX_any A n c zs w hr hn)
  have HZL := hid hr.len
  unfold maxLen at hn
  clear hr ht
  go_enter Tryd.func16, Tryd.ntmps16
  go_wp2_with fail
  (with_reducible refine HP.out.mono ?_)
  rintro e w1 ⟨v, m, en, rfl, hop, hfew, hb1⟩
  obtain ⟨Ap, cp, rfl, hrp, _⟩ := hop.rd
  have HB1 := hid hb1
  have HPR := hid (refPrint_any Ap _ cp (M.chParts zs) w1 hrp hfew.i64 (by have := hfew.len; omega) (HT.out w1 hb1))
  have HLE := hid (M.chText_len hfew.len)
  have hpl := M.print_len (M.chParts zs)
  have hS : (mkS (M.print (M.chParts zs))).size ≤ 224 := by rw [mkS_size]; have := hfew.len; omega
  have HTX : Hid (M.chText zs = if 0 < zs.length ∧ 150 < zs.getD 0 0 then
    (M.print (M.chParts zs)).take (zs.getD 0 0 % ((M.print (M.chParts zs)).length + 1)).toNat ++ tl (pk (zs.getD 0 0 % 5).toNat) ++ (M.print (M.chParts zs)).drop (zs.getD 0 0 % ((M.print (M.chParts zs)).length + 1)).toNat
    else M.print (M.chParts zs)) := hid rfl
  clear HP hop hrp hfew hb1 hpl
  generalize M.chParts zs = l at *
  generalize hXE : M.chText zs = X at *
  have HXE := hid hXE
  clear hXE
  go_wp2_with fail
  (with_reducible refine HPR.out.mono ?_)
  rintro e w2 ⟨rfl, hb2⟩
  have HB2 := hid (HB1.out.trans (hb2.mono HB1.out.size))
  generalize M.print l = T at *
  clear HPR hb2
  by_cases h0 : 0 < n
  · obtain ⟨b, off, z, rfl, hb, hz0, hz1, hz, hcz⟩ := (HR.out w2 HB2.out).at_ h0
    rw [List.getD_eq_getElem?_getD, hz, Option.getD_some] at HTX
    simp only [Nat.add_zero] at hcz
    have d1 : decide (0 < n) = true := by rw [decide_eq_true_eq]; exact h0
    clear hz
    by_cases h150 : 150 < z
    · have d2 : decide (150 < z) = true := by rw [decide_eq_true_eq]; exact h150
      rw [if_pos ⟨by rw [HZL.out]; exact h0, h150⟩] at HTX
      obtain ⟨k, hk⟩ : ∃ k : Nat, z % ((T.length : Int) + 1) = (k : Int) := ⟨(z % (T.length + 1)).toNat, by have := Int.emod_nonneg z (show (T.length : Int) + 1 ≠ 0 by omega); omega⟩
      obtain ⟨j, hj⟩ : ∃ j : Nat, z % 5 = (j : Int) := ⟨(z % 5).toNat, by omega⟩
      have hj5 : j < 5 := by omega
      have hkT : k ≤ T.length := by have := Int.emod_lt_of_pos z (show 0 < (T.length : Int) + 1 by omega); omega
      rw [hk, hj, Int.toNat_natCast, Int.toNat_natCast] at HTX
      have HSZ := hid (mkS_size T)
      have hks : k ≤ (mkS T).size := by rw [HSZ.out]; exact hkT
      have hkm : Int.tmod z (((mkS T).size : Int) + 1) = (k : Int) := by rw [Int.tmod_eq_emod_of_nonneg hz0, HSZ.out]; exact hk
      have hjm : Int.tmod z 5 = (j : Int) := by rw [Int.tmod_eq_emod_of_nonneg hz0]; exact hj
      have HFX := hid (show mkS X = (mkS T).extract 0 k ++ pk j ++ (mkS T).extract k (mkS T).size by
        rw [HTX.out]
        apply tl_inj
        rw [tl_append, tl_append, tl_take, tl_drop, tl_mkS, tl_mkS])
      clear HTX hk hj
      generalize mkS T = S at *
      have CZ := hid (fun (W : World) (hW : Below w.heap.size w2 W) => (hW.cell (p := ⟨b, off, none⟩) hb).trans hcz)
      have he1 : (S.extract 0 k).size ≤ 224 := by rw [← tl_len, tl_take, List.length_take, tl_len]; omega
      have he2 : (S.extract k S.size).size ≤ 224 := by rw [← tl_len, tl_drop, List.length_drop, tl_len]; omega
      have hpk := pk_size j
      go_wp2_with fail
      clear hcz
      refine wp_region_held_drew (S := fun W => Below w.heap.size w2 W) (by kernel_rfl) (below_drew' (Below.refl _ _)) (fun hS => ?_)
      clear hS
      have hVs : Below w.heap.size w2 w2.drew := below_drew' (Below.refl _ _)
      have hbV : w.heap.size ≤ w2.drew.heap.size := HB2.out.size
      generalize hSV : World.drew w2 = V at *
      clear hSV
      have hS := hVs
      refine takeH (i := 0) (v := ?_) 33 rfl rfl (by kernel_rfl) (by kernel_rfl) (by kernel_rfl) (fun _ _ _ h => h) (by rfl) ?hy0 hS ?rest0
      case hy0 => (intro W hW; clear hW; go_simp; first | done | with_reducible rfl)
      try simp only [Act.put, List.setIfInBounds_toArray, List.set_cons_zero, List.set_cons_succ]
      refine takeH (i := 1) (v := ?_) 34 rfl rfl (by kernel_rfl) (by kernel_rfl) (by kernel_rfl) (fun _ _ _ h => h) (by rfl) ?hy1 hS ?rest1
      case hy1 => (intro W hW; clear hW; go_simp; first | done | with_reducible rfl)
      try simp only [Act.put, List.setIfInBounds_toArray, List.set_cons_zero, List.set_cons_succ]
      refine takeH (i := 2) (v := ?_) 35 rfl rfl (by kernel_rfl) (by kernel_rfl) (by kernel_rfl) (fun _ _ _ h => h) (by rfl) ?hy2 hS ?rest2
      case hy2 => (intro W hW; clear hW; go_simp; first | done | with_reducible rfl)
      try simp only [Act.put, List.setIfInBounds_toArray, List.set_cons_zero, List.set_cons_succ]
      refine takeH (i := 4) (v := ?_) 37 rfl rfl (by kernel_rfl) (by kernel_rfl) (by kernel_rfl) (fun _ _ _ h => h) (by rfl) ?hy4 hS ?rest4
      case hy4 => (intro W hW; clear hW; go_simp; first | done | with_reducible rfl)
      try simp only [Act.put, List.setIfInBounds_toArray, List.set_cons_zero, List.set_cons_succ]
      refine takeH (i := 5) (v := ?_) 38 rfl rfl (by kernel_rfl) (by kernel_rfl) (by kernel_rfl) (fun _ _ _ h => h) (by rfl) ?hy5 hS ?rest5
      case hy5 => (intro W hW; clear hW; go_simp; first | done | with_reducible rfl)
      try simp only [Act.put, List.setIfInBounds_toArray, List.set_cons_zero, List.set_cons_succ]
      refine takeH (i := 6) (v := ?_) 39 rfl rfl (by kernel_rfl) (by kernel_rfl) (by kernel_rfl) (fun _ _ _ h => h) (by rfl) ?hy6 hS ?rest6
      case hy6 => (intro W hW; have f0 := CZ.out W hW; clear hW; go_simp; first | done | with_reducible rfl)
      try simp only [Act.put, List.setIfInBounds_toArray, List.set_cons_zero, List.set_cons_succ]
      refine takeH (i := 7) (v := ?_) 40 rfl rfl (by kernel_rfl) (by kernel_rfl) (by kernel_rfl) (fun _ _ _ h => h) (by rfl) ?hy7 hS ?rest7
      case hy7 => (intro W hW; clear hW; go_simp; first | done | with_reducible rfl)
      try simp only [Act.put, List.setIfInBounds_toArray, List.set_cons_zero, List.set_cons_succ]
      refine takeH (i := 11) (v := ?_) 44 rfl rfl (by kernel_rfl) (by kernel_rfl) (by kernel_rfl) (fun _ _ _ h => h) (by rfl) ?hy11 hS ?rest11
      case hy11 => (intro W hW; clear hW; go_simp; first | done | with_reducible rfl)
      try simp only [Act.put, List.setIfInBounds_toArray, List.set_cons_zero, List.set_cons_succ]
      refine takeH (i := 12) (v := ?_) 45 rfl rfl (by kernel_rfl) (by kernel_rfl) (by kernel_rfl) (fun _ _ _ h => h) (by rfl) ?hy12 hS ?rest12
      case hy12 => (intro W hW; clear hW; go_simp; first | done | with_reducible rfl)
      try simp only [Act.put, List.setIfInBounds_toArray, List.set_cons_zero, List.set_cons_succ]
      refine takeH (i := 13) (v := ?_) 46 rfl rfl (by kernel_rfl) (by kernel_rfl) (by kernel_rfl) (fun _ _ _ h => h) (by rfl) ?hy13 hS ?rest13
      case hy13 => (intro W hW; clear hW; go_simp; first | done | with_reducible rfl)
      try simp only [Act.put, List.setIfInBounds_toArray, List.set_cons_zero, List.set_cons_succ]
      generalize S.extract 0 k = E1 at *
      generalize S.extract k S.size = E2 at *
      have g1 : ¬ (9223372036854775807 < E1.size + (pk j).size) := by omega
      have g2 : ¬ (9223372036854775807 < E1.size + (pk j).size + E2.size) := by omega
      have HCL := hid (show (V.alloc (.cells pkRow 9)).cell? ⟨V.heap.size, j, none⟩ = some (.string (pk j)) by
        rw [cell_of_row _ _ j _ _ (0, 0) (heap_alloc_new V _)]; exact pkRow_at hj5)
      refine loneH (i := 3) 36 rfl rfl (by kernel_rfl) (by rfl) (fun K hK => ?_)
      go_simp
      refine hK.out _ _ (hS.alloc hbV _) (fun hS => ?_)
      clear hK K
      try simp only [Act.put, List.setIfInBounds_toArray, List.set_cons_zero, List.set_cons_succ]
      have HSA := hid hS
      have hj5i : (j : Int) < 5 := by omega
      refine wpAnyH_narrow (S' := fun W => Below w.heap.size w2 W ∧ W.cell? ⟨V.heap.size, j, none⟩ = some (.string (pk j))) (fun _ h => h.1) _ _ _ _ ?_
      clear hS
      have hS := (And.intro HSA.out HCL.out)
      refine takeH (i := 8) (v := ?_) 41 rfl rfl (by kernel_rfl) (by kernel_rfl) (by kernel_rfl) (fun _ _ _ h => h) (by rfl) ?hy8 hS ?rest8
      case hy8 => (intro W hW; clear hW; go_simp; first | done | with_reducible rfl)
      try simp only [Act.put, List.setIfInBounds_toArray, List.set_cons_zero, List.set_cons_succ]
      refine takeH (i := 9) (v := ?_) 42 rfl rfl (by kernel_rfl) (by kernel_rfl) (by kernel_rfl) (fun _ _ _ h => h) (by rfl) ?hy9 hS ?rest9
      case hy9 => (intro W hW; have f0 := hW.2; clear hW; go_simp; first | done | with_reducible rfl)
      try simp only [Act.put, List.setIfInBounds_toArray, List.set_cons_zero, List.set_cons_succ]
      refine takeH (i := 10) (v := ?_) 43 rfl rfl (by kernel_rfl) (by kernel_rfl) (by kernel_rfl) (fun _ _ _ h => h) (by rfl) ?hy10 hS ?rest10
      case hy10 => (intro W hW; clear hW; go_simp; first | done | with_reducible rfl)
      try simp only [Act.put, List.setIfInBounds_toArray, List.set_cons_zero, List.set_cons_succ]
      refine takeH (i := 14) (v := ?_) 47 rfl rfl (by kernel_rfl) (by kernel_rfl) (by kernel_rfl) (fun _ _ _ h => h) (by rfl) ?hy14 hS ?rest14
      case hy14 => (intro W hW; clear hW; go_simp; first | done | with_reducible rfl)
      try simp only [Act.put, List.setIfInBounds_toArray, List.set_cons_zero, List.set_cons_succ]
      refine takeH (i := 15) (v := ?_) 6 rfl rfl (by kernel_rfl) (by kernel_rfl) (by kernel_rfl) (fun _ _ _ h => h) (by rfl) ?hy15 hS ?rest15
      case hy15 => (intro W hW; clear hW; go_simp; first | done | with_reducible rfl)
      try simp only [Act.put, List.setIfInBounds_toArray, List.set_cons_zero, List.set_cons_succ]
      refine wpAnyH_done (by kernel_rfl) ?_ _
      try simp only [Act.put, List.setIfInBounds_toArray, List.set_cons_zero, List.set_cons_succ]
      clear hS HCL
      go_wp2_with fail
      go_ret
      exact ⟨by rw [HXE.out, HFX.out]; rfl, by rw [HXE.out]; exact HLE.out, HB2.out.trans HSA.out⟩
    · have d2 : decide (150 < z) = false := by rw [decide_eq_false_iff_not]; exact h150
      have hX : X = T := by rw [HTX.out, if_neg (fun h => h150 h.2)]
      have HX := hid hX
      clear hX
      go_wp2_with fail
      go_ret
      exact ⟨by rw [HXE.out, HX.out]; rfl, by rw [HXE.out]; exact HLE.out, HB2.out⟩
  · have d1 : decide (0 < n) = false := by rw [decide_eq_false_iff_not]; exact h0
    have hX : X = T := by rw [HTX.out, if_neg (fun h => h0 (by rw [← HZL.out]; exact h.1))]
    have HX := hid hX
    clear hX
    go_wp2_with fail
    go_ret
    exact ⟨by rw [HXE.out, HX.out]; rfl, by rw [HXE.out]; exact HLE.out, HB2.out⟩
end Go.Proofs.YtjpflljmeaihgaaDoor
