/-
  The contract of the document's Seal.
-/
import Derived.Test.YtkpnhggpcpjddaaGreatDoorHSumRefB
import Derived.Test.YtkpnhggpcpjddaaGreatDoorHSumMake
set_option linter.unusedVariables false
set_option linter.unusedSimpArgs false
namespace Go.Proofs.YtkpnhggpcpjddaaGreatDoor
open Go.RowKit Go.Lib

attribute [local go_sem ↓] run_make512

theorem splice_take {zs fs : List Int} {k : Nat} {z : Int} (hz : zs.length = 512) (hk : fs[k]? = some z) (hl : fs.length ≤ 8) : (splice zs 148 (fs.take k)).set (148 + k) z = splice zs 148 (fs.take (k + 1)) := by
  have h1 : k < fs.length := (List.getElem?_eq_some_iff.1 hk).1
  have h2 : (fs.take k).length = k := by rw [List.length_take]; omega
  have h := M.splice_step (zs := zs) (a := fs.take k) (o := 148) (v := z) (by rw [h2, hz]; omega)
  rw [h2] at h
  rw [h, M.take_snoc' hk]
/-- A block of 512 that is under way. -/
def Half (w : World) (t : TypeId) (zs : List Int) (wr : World) : Prop := Arr wr w.heap.size t zs ∧ Below w.heap.size w wr

set_option maxRecDepth 100000 in
set_option maxHeartbeats 2000000 in
theorem refSeal_any (A : Option Addr) (n c : Nat) (zs : List Int) (w : World) (B : Nat) (hr : Rd w B A n zs) (hB : B ≤ w.heap.size) (hn : n ≤ maxLen) :
    Calls Tryz.prog 16 #[.slice A n c] w (SealPost 5 (M.sld zs) w) := by
  have HL := hid hr.len
  have HZ := hid hr.bd
  have HP := hid (M.pad_bd hr.bd)
  have HPL := hid (M.pad_len zs)
  have HUB := M.uns_pad_bd hr.bd
  have HFIT := hid (M.fits7 HUB.1 (by omega))
  obtain ⟨hu0, hu1⟩ := HUB
  have HAT := hid (fun (k : Nat) (hk : k < n) => hr.at_ hk)
  unfold maxLen at hn
  clear hr
  go_enter Tryz.func16, Tryz.ntmps16
  go_wp2_with fail
  go_loopw [4] (fun i wr => ∃ k : Nat, k ≤ n ∧ k ≤ 512 ∧ i = .int .i64 k ∧ Half w 5 (M.pad (zs.take k)) wr) (fun i _ => n - (intOf i).toNat)
  case atStart => exact ⟨0, Nat.zero_le _, Nat.zero_le _, rfl, by rw [List.take_zero, M.pad_nil]; exact Arr.new w _ _, (Below.refl _ _).alloc (Nat.le_refl _) _⟩
  case round =>
    obtain ⟨k, hk, hk5, rfl, hA, hbel⟩ := hrel
    by_cases hlt : k < n ∧ k < 512
    · obtain ⟨h1, h2⟩ := hlt
      obtain ⟨b, off, z, hAd, hb, hz0, hz1, hzk, hc⟩ := HAT.out k h1
      have hbB : b < w.heap.size := Nat.lt_of_lt_of_le hb hB
      have hc' : wr.cell? ⟨b, off + k, none⟩ = some (.int .u8 z) := (hbel.cell (p := ⟨b, off + k, none⟩) hbB).trans hc
      obtain ⟨y, hy⟩ : ∃ y, (M.pad (zs.take k))[k]? = some y := ⟨_, List.getElem?_eq_getElem (by rw [M.pad_len]; exact h2)⟩
      have hcs := hA.cell hy
      have hfs := hA.frozen k
      have HST := hid (M.pad_step h2 hzk)
      have HA := hid hA
      have e1 : decide ((k : Int) < n) = true := by rw [decide_eq_true_eq]; omega
      have e1' : decide (k < n) = true := by rw [decide_eq_true_eq]; omega
      have e2 := lt_yes (k := k) (m := 512) (by omega)
      clear hA hy hzk hc
      rw [hAd]
      go_wp2
      go_roundw
      case rel => exact ⟨k + 1, by omega, by omega, by go_num, by rw [← HST.out]; exact HA.out.set _ _, hbel.setCell (Nat.le_refl _) _⟩
      case measure => simp [intOf]; omega
    · have hpt : M.pad (zs.take k) = M.pad zs := M.pad_most (by rw [HL.out]; omega) (by rw [HL.out]; omega)
      rw [hpt] at hA
      have HA := hid hA
      have hlg := hA.lt
      clear hA hpt
      by_cases h1 : k < n
      case' pos =>
        have e1' : decide (k < n) = true := by rw [decide_eq_true_eq]; omega
        have e2 := lt_no (k := k) (m := 512) (by omega)
        go_wp2_with fail
      case' neg =>
        have e1' : decide (k < n) = false := by rw [decide_eq_false_iff_not]; omega
        go_wp2_with fail
      all_goals
        have hrd : Rd wr wr.heap.size (some ⟨w.heap.size, 0, none⟩) 512 (M.pad zs) := by
          have h := HA.out.rd HP.out hlg
          rw [HPL.out] at h
          exact h
        have HR := hid (refUnsigned_any (some ⟨w.heap.size, 0, none⟩) 512 512 (M.pad zs) wr wr.heap.size hrd (by decide))
        clear hrd
        (with_reducible refine HR.out.mono ?_)
        rintro e w' ⟨rfl, rfl⟩
        have HQ : Hid (Calls Tryz.prog 38 #[.int .i64 (M.uns (M.pad zs)), .int .i64 7] wr (PutNew wr 7 (M.oct (M.uns (M.pad zs)) 7))) := hid (putOctalRef_new (M.uns (M.pad zs)) 7 wr (by decide) (by decide) hu0 (by omega) HFIT.out.2.1)
        clear HR
        go_wp2_with fail
        (with_reducible refine HQ.out.mono ?_)
        rintro e w4 ⟨rfl, hf, b4⟩
        have HA4 := hid (HA.out.below b4 hlg)
        have hb4 := hbel.trans (b4.mono (Nat.le_of_lt hlg))
        have HF : Hid (∀ j z, (M.oct (M.uns (M.pad zs)) 7)[j]? = some z → w4.cell? ⟨wr.heap.size, j, none⟩ = some (.int .u8 z)) := hid (by
          obtain ⟨b, off, he, _, hc⟩ := hf.2.2 (by decide)
          injection he with he
          injection he with he1 he2
          subst he1
          subst he2
          intro j z hj
          have := hc j z hj
          rwa [Nat.zero_add] at this)
        have HO := hid (M.oct7_len (M.uns (M.pad zs)))
        have HOB := hid (M.oct_bd (M.uns (M.pad zs)) 7)
        have HSL : Hid (splice (M.pad zs) 148 (M.oct (M.uns (M.pad zs)) 7 ++ [32]) = M.sld zs) := hid rfl
        generalize wr.heap.size = F at *
        generalize M.oct (M.uns (M.pad zs)) 7 = fs at *
        clear HQ HA hf b4 hbel HAT HFIT
        go_wp2_with fail
        go_loopw [7] (fun i wr => ∃ k : Nat, k ≤ 7 ∧ i = .int .i64 k ∧ Half w 5 (splice (M.pad zs) 148 (fs.take k)) wr ∧ Hid (∀ j z, fs[j]? = some z → wr.cell? ⟨F, j, none⟩ = some (.int .u8 z))) (fun i _ => 7 - (intOf i).toNat)
        case atStart => exact ⟨0, Nat.zero_le _, rfl, ⟨by rw [List.take_zero, M.splice_nil]; exact HA4.out, hb4⟩, HF⟩
        case round =>
          rename_i wr2
          obtain ⟨k2, hk2, rfl, ⟨hA2, hbel2⟩, HF2⟩ := hrel
          by_cases hlt2 : k2 < 7
          · obtain ⟨z, hz⟩ : ∃ z, fs[k2]? = some z := ⟨_, List.getElem?_eq_getElem (by rw [HO.out]; exact hlt2)⟩
            have hzb := HOB.out z (List.mem_of_getElem? hz)
            obtain ⟨hz0, hz1⟩ := hzb
            have hcf := HF2.out k2 z hz
            have hl8 : (splice (M.pad zs) 148 (fs.take k2)).length = 512 := by rw [M.splice_len (by rw [HPL.out, List.length_take, HO.out]; omega)]; exact HPL.out
            obtain ⟨y, hy⟩ : ∃ y, (splice (M.pad zs) 148 (fs.take k2))[148 + k2]? = some y := ⟨_, List.getElem?_eq_getElem (by rw [hl8]; omega)⟩
            have hcs := hA2.cell hy
            have hfs := hA2.frozen (148 + k2)
            have HST := hid (splice_take HPL.out hz (by rw [HO.out]; decide))
            have HA2 := hid hA2
            clear hA2 hy hz hl8
            go_wp2
            go_roundw
            case rel =>
              refine ⟨k2 + 1, by omega, by go_num, ⟨by rw [← HST.out]; exact HA2.out.set _ _, hbel2.setCell (Nat.le_refl _) _⟩, hid (fun j q hq => ?_)⟩
              rw [World.cell?_setCell_other _ _ _ _ (by intro e; injection e with e1 e2; omega)]
              exact HF2.out j q hq
            case measure => simp [intOf]; omega
          · obtain rfl : k2 = 7 := by omega
            rw [List.take_of_length_le (by rw [HO.out]; exact Nat.le_refl _)] at hA2
            have hl8 : (splice (M.pad zs) 148 fs).length = 512 := by rw [M.splice_len (by rw [HPL.out, HO.out]; decide)]; exact HPL.out
            obtain ⟨y, hy⟩ : ∃ y, (splice (M.pad zs) 148 fs)[155]? = some y := ⟨_, List.getElem?_eq_getElem (by rw [hl8]; decide)⟩
            have hcs := hA2.cell hy
            have hfs := hA2.frozen 155
            have HST : Hid ((splice (M.pad zs) 148 fs).set 155 32 = M.sld zs) := hid (by
              have h := M.splice_step (zs := M.pad zs) (a := fs) (o := 148) (v := 32) (by rw [HO.out, HPL.out]; decide)
              rw [HO.out] at h
              rw [← HSL.out, ← h])
            have HA2 := hid hA2
            clear hA2 hy hl8 HF2
            go_wp2
            go_ret
            exact ⟨_, rfl, Nat.le_refl _, by rw [← HST.out]; exact HA2.out.set _ _, hbel2.setCell (Nat.le_refl _) _⟩
end Go.Proofs.YtkpnhggpcpjddaaGreatDoor
