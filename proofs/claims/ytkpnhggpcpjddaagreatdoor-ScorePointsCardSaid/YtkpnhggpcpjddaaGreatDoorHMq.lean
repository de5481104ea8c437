/-
  Texts of one chapter, merged.
-/
import Derived.Test.YtkpnhggpcpjddaaGreatDoorHMp
import Derived.Test.YtkpnhggpcpjddaaGreatDoorHdBentX
set_option linter.unusedVariables false
set_option linter.unusedSimpArgs false
/-! The chapter's example of points. -/
namespace Go.Proofs.YtkpnhggpcpjddaaGreatDoor
open Go.RowKit Go.Lib
attribute [local go_sem ↓] run_make512

namespace M
theorem zero_right {zs : List Int} (hl : zs.length = 512) (hr : right zs = true) : zero zs = false := by
  cases hz : zero zs with
  | false => rfl
  | true =>
    rw [zero_yes hl, beq_iff_eq] at hz
    subst hz
    have : right (nils 512) = false := by decide +kernel
    rw [this] at hr
    cases hr
theorem upto_mono (zs : List Int) (k : Nat) : upto zs k ≤ upto zs (k + 1) := by
  have := one_bd (sig zs k) (pt_bd k).1
  show upto zs k ≤ upto zs k + one (sig zs k) (pt k)
  omega
theorem upto_le (zs : List Int) (i : Nat) : ∀ k, upto zs i ≤ upto zs (i + k)
  | 0 => Int.le_refl _
  | k + 1 => Int.le_trans (upto_le zs i k) (upto_mono zs (i + k))
theorem points_right {zs : List Int} (hl : zs.length = 512) (hr : right zs = true) : 4 ≤ points zs := by
  rw [points_yes hl (zero_right hl hr)]
  have h1 : upto zs 1 = 4 := by
    show upto zs 0 + one (sig zs 0) (pt 0) = 4
    rw [show sig zs 0 = right zs from rfl, hr]
    rfl
  have := upto_le zs 1 9
  rw [h1] at this
  exact this
theorem points_nils : points (nils 512) = 0 := points_zero (by decide +kernel)
theorem points_nil : points [] = 0 := points_no (by decide)
theorem head_nil : isHead [] = false := by
  unfold isHead hparse
  rw [if_pos (by decide)]
  rfl
end M

set_option maxRecDepth 100000 in
set_option maxHeartbeats 1000000 in
theorem scKnown_any (w : World) (hmg : MG w) : Calls Tryz.prog 4 #[] w fun e w' => e = .returned (.bool true) ∧ Below w.heap.size w w' := by
  have HMG := hid (fun (W : World) (hW : Below w.heap.size w W) => hmg.later hW)
  clear hmg
  have B0 := hid ((Below.refl _ w).alloc (Nat.le_refl _) (.cells #[.int .u8 4] 5))
  have R0 := hid (show Rd (w.alloc (.cells #[.int .u8 4] 5)) (w.alloc (.cells #[.int .u8 4] 5)).heap.size (some ⟨w.heap.size, 0, none⟩) 1 [4] from
    ⟨rfl, by simp, fun _ => ⟨w.heap.size, 0, rfl, by simp, fun j z hj => by
      have hj1 : j < 1 := (List.getElem?_eq_some_iff.1 hj).1
      obtain rfl : j = 0 := by omega
      injection hj with hj
      subst hj
      rw [cell_of_row _ _ 0 _ _ (0, 0) (heap_alloc_new w _)]
      rfl⟩⟩)
  go_enter Tryz.func4, Tryz.ntmps4
  go_wp2_with fail
  generalize w.alloc (.cells #[.int .u8 4] 5) = w0 at *
  (with_reducible refine (bentX_any (some ⟨w.heap.size, 0, none⟩) 1 1 [4] w0 R0.out (Nat.le_refl _) (by decide)).mono ?_)
  rintro e w1 ⟨g, zs, rfl, hg, hx, hb, hp⟩
  have B1 := hid (B0.out.trans (hb.mono B0.out.size))
  have HX := hid hx
  have HP := hid (M.points_right hx.len hp.2)
  have HH := hid (show M.isHead zs = true by unfold M.isHead; rw [hp.1]; rfl)
  have HS := hid (show M.isSus zs = false by unfold M.isSus; rw [HH.out]; rfl)
  clear hg hx hb hp R0 B0
  go_wp2_with fail
  have B2 := hid (B1.out.alloc B1.out.size (.cells (bcells (nils 512)).toArray 5))
  have X2 := hid (HX.out.below ((Below.refl _ w1).alloc (Nat.le_refl _) (.cells (bcells (nils 512)).toArray 5)) HX.out.lt)
  have N2 := hid (BX.new w1)
  clear B1 HX
  generalize w1.alloc _ = w2 at *
  (with_reducible refine (points_any (some ⟨w1.heap.size, 0, none⟩) 512 512 (nils 512) w2 (N2.out.rd N2.out.lt) (Nat.le_refl _) (by decide) (HMG.out _ B2.out)).mono ?_)
  rintro e w3 ⟨rfl, h3⟩
  have B3 := hid (B2.out.trans (h3.mono B2.out.size))
  have X3 := hid (X2.out.below h3 X2.out.lt)
  rw [M.points_nils]
  clear h3 X2 N2 B2
  go_wp2_with fail
  (with_reducible refine (points_any (some ⟨g, 0, none⟩) 512 512 zs w3 (X3.out.rd X3.out.lt) (Nat.le_refl _) (by decide) (HMG.out _ B3.out)).mono ?_)
  rintro e w4 ⟨rfl, h4⟩
  have B4 := hid (B3.out.trans (h4.mono B3.out.size))
  have X4 := hid (X3.out.below h4 X3.out.lt)
  have hp4 := HP.out
  clear h4 X3 B3
  generalize M.points zs = pz at *
  go_wp2_with fail
  (with_reducible refine (points_any none 0 0 [] w4 Rd.none_ (Nat.le_refl _) (by decide) (HMG.out _ B4.out)).mono ?_)
  rintro e w5 ⟨rfl, h5⟩
  have B5 := hid (B4.out.trans (h5.mono B4.out.size))
  have X5 := hid (X4.out.below h5 X4.out.lt)
  rw [M.points_nil]
  clear h5 X4 B4
  go_wp2_with fail
  (with_reducible refine (isHead_any none 0 0 [] w5 Rd.none_ (Nat.le_refl _) (by decide) (by decide) (HMG.out _ B5.out)).mono ?_)
  rintro e w6 ⟨rfl, h6⟩
  have B6 := hid (B5.out.trans (h6.mono B5.out.size))
  have X6 := hid (X5.out.below h6 X5.out.lt)
  rw [M.head_nil]
  clear h6 X5 B5
  go_wp2_with fail
  (with_reducible refine (isHead_any (some ⟨g, 0, none⟩) 512 512 zs w6 (X6.out.rd X6.out.lt) (Nat.le_refl _) (by decide) (by decide) (HMG.out _ B6.out)).mono ?_)
  rintro e w7 ⟨rfl, h7⟩
  have B7 := hid (B6.out.trans (h7.mono B6.out.size))
  have X7 := hid (X6.out.below h7 X6.out.lt)
  rw [HH.out]
  clear h7 X6 B6
  go_wp2_with fail
  (with_reducible refine (isSus_any (some ⟨g, 0, none⟩) 512 512 zs w7 (X7.out.rd X7.out.lt) (Nat.le_refl _) (by decide) (by decide) (HMG.out _ B7.out)).mono ?_)
  rintro e w8 ⟨rfl, h8⟩
  have B8 := hid (B7.out.trans (h8.mono B7.out.size))
  rw [HS.out]
  clear h8 X7 B7
  go_wp2_with fail
  go_ret
  exact ⟨rfl, B8.out⟩
end Go.Proofs.YtkpnhggpcpjddaaGreatDoor

/-! What holds of points: plain mathematics. -/
namespace Go.Proofs.YtkpnhggpcpjddaaGreatDoor
open Go.RowKit Go.Lib
namespace M

/-! Sealed. -/
theorem pad_512 {zs : List Int} (h : zs.length = 512) : pad zs = zs := by
  unfold pad
  rw [List.take_append_of_le_length (by omega), List.take_of_length_le (by omega)]
theorem sld_512 {zs : List Int} (h : zs.length = 512) : sld zs = splice zs 148 (oct (uns zs) 7 ++ [32]) := by
  unfold sld
  rw [pad_512 h]
theorem sub_sld {zs : List Int} (h : zs.length = 512) {b n : Nat} (hd : b + n ≤ 148 ∨ 156 ≤ b) : sub (sld zs) b n = sub zs b n := by
  rw [sld_512 h]
  exact sub_off (m := 8) (oct8_len _) (by omega) (by omega)
theorem byt_sld {zs : List Int} (h : zs.length = 512) : byt (sld zs) 156 = byt zs 156 := by
  rw [sld_512 h]
  exact byt_off (m := 8) (oct8_len _) (by omega) (by omega)
theorem num_sld {zs : List Int} (h : zs.length = 512) {a m : Nat} (hd : a + m ≤ 148 ∨ 156 ≤ a) : numIs (sld zs) a m = numIs zs a m := by
  unfold numIs has
  rw [sub_sld h hd]
theorem way_sld {zs : List Int} (h : zs.length = 512) : way (sld zs) = way zs := by
  unfold way
  rw [sub_sld h (by omega), sld_len, h]
theorem txt_sld {zs : List Int} (h : zs.length = 512) : txt (sld zs) 0 100 = txt zs 0 100 := by
  unfold txt
  rw [sub_sld h (by omega)]
theorem sig_sld {zs : List Int} (h : zs.length = 512) (i : Nat) : sig (sld zs) (i + 2) = sig zs (i + 2) := by
  have e2 : wayIs (sld zs) = wayIs zs := by unfold wayIs; rw [way_sld h]
  have e3 : known (byt (sld zs) 156) = known (byt zs 156) := by rw [byt_sld h]
  have e4 : nameIs (sld zs) = nameIs zs := by unfold nameIs; rw [txt_sld h]
  match i with
  | 0 => exact e2
  | 1 => exact e3
  | 2 => exact e4
  | 3 => exact num_sld h (by omega)
  | 4 => exact num_sld h (by omega)
  | 5 => exact num_sld h (by omega)
  | 6 => exact num_sld h (by omega)
  | k + 7 => exact num_sld h (by omega)
/-- All but the sum's. -/
def tailp (zs : List Int) : Int := one (sig zs 2) 3 + one (sig zs 3) 1 + one (sig zs 4) 2 + one (sig zs 5) 1 + one (sig zs 6) 1 + one (sig zs 7) 1 + one (sig zs 8) 1 + one (sig zs 9) 1
theorem tailp_bd (zs : List Int) : 0 ≤ tailp zs ∧ tailp zs ≤ 11 := by
  have h2 := one_bd (sig zs 2) (n := 3) (by decide)
  have h3 := one_bd (sig zs 3) (n := 1) (by decide)
  have h4 := one_bd (sig zs 4) (n := 2) (by decide)
  have h5 := one_bd (sig zs 5) (n := 1) (by decide)
  have h6 := one_bd (sig zs 6) (n := 1) (by decide)
  have h7 := one_bd (sig zs 7) (n := 1) (by decide)
  have h8 := one_bd (sig zs 8) (n := 1) (by decide)
  have h9 := one_bd (sig zs 9) (n := 1) (by decide)
  unfold tailp
  omega
theorem upto_ten (zs : List Int) : upto zs 10 = one (right zs) 4 + one (toldOk zs && !right zs) 1 + tailp zs := by
  show 0 + one (sig zs 0) 4 + one (sig zs 1) 1 + one (sig zs 2) 3 + one (sig zs 3) 1 + one (sig zs 4) 2 + one (sig zs 5) 1 + one (sig zs 6) 1 + one (sig zs 7) 1 + one (sig zs 8) 1 + one (sig zs 9) 1 = _
  rw [show sig zs 0 = right zs from rfl, show sig zs 1 = (toldOk zs && !right zs) from rfl]
  unfold tailp
  omega
theorem tailp_sld {zs : List Int} (h : zs.length = 512) : tailp (sld zs) = tailp zs := by
  unfold tailp
  rw [sig_sld h 0, sig_sld h 1, sig_sld h 2, sig_sld h 3, sig_sld h 4, sig_sld h 5, sig_sld h 6, sig_sld h 7]
theorem points_sld {zs : List Int} (h : zs.length = 512) (hb : ∀ z ∈ zs, 0 ≤ z ∧ z ≤ 255) : points (sld zs) = 4 + tailp zs := by
  have hr := right_sld hb
  rw [points_yes (sld_len zs) (zero_right (sld_len zs) hr), upto_ten, hr, tailp_sld h]
  simp [one]
theorem points_seal {zs : List Int} (h : zs.length = 512) (hb : ∀ z ∈ zs, 0 ≤ z ∧ z ≤ 255) : points zs ≤ points (sld zs) ∧ points (sld zs) ≤ points zs + 4 ∨ zero zs = true := by
  cases hz : zero zs with
  | true => exact .inr rfl
  | false =>
    refine .inl ?_
    rw [points_sld h hb, points_yes h hz, upto_ten]
    cases hr : right zs with
    | true => simp [one]; omega
    | false =>
      have := one_bd (toldOk zs && !false) (n := 1) (by decide)
      simp only [one] at this ⊢
      simp only [Bool.false_eq_true, if_false] at this ⊢
      omega
theorem points_most {zs : List Int} (h : zs.length = 512) (hb : ∀ z ∈ zs, 0 ≤ z ∧ z ≤ 255) : points (sld zs) ≤ 15 ∧ 4 ≤ points (sld zs) := by
  rw [points_sld h hb]
  have := tailp_bd zs
  omega

/-! Printed, and spoilt. -/
theorem points_print {h : Hdr} {zs : List Int} (hp : hprint h = (0, zs)) : isHead zs = true ∧ 5 ≤ points zs ∧ zs.length = 512 ∧ (∀ v ∈ zs, 0 ≤ v ∧ v ≤ 255) := by
  obtain ⟨s⟩ := print_back hp
  refine ⟨by unfold isHead; rw [s.back]; rfl, ?_, s.lout, s.bd⟩
  have hr := s.right_
  rw [points_yes s.lout (zero_right s.lout hr), upto_ten, hr]
  have h3 : sig zs 3 = true := by
    show known (byt zs 156) = true
    rw [s.byte_kind]
    exact s.kd.1
  unfold tailp
  rw [h3]
  have h2 := one_bd (sig zs 2) (n := 3) (by decide)
  have h4 := one_bd (sig zs 4) (n := 2) (by decide)
  have h5 := one_bd (sig zs 5) (n := 1) (by decide)
  have h6 := one_bd (sig zs 6) (n := 1) (by decide)
  have h7 := one_bd (sig zs 7) (n := 1) (by decide)
  have h8 := one_bd (sig zs 8) (n := 1) (by decide)
  have h9 := one_bd (sig zs 9) (n := 1) (by decide)
  have e1 : one true 4 = 4 := rfl
  have e2 : one true 1 = 1 := rfl
  have e3 := one_bd (toldOk zs && !true) (n := 1) (by decide)
  rw [e1, e2]
  omega
theorem mem_dropWhile {p : Int → Bool} {l : List Int} {x : Int} (hx : x ∈ l) (hp : p x = false) : x ∈ l.dropWhile p := by
  induction l with
  | nil => cases hx
  | cons y l ih =>
    rw [List.dropWhile_cons]
    split
    · rename_i hy
      rcases List.mem_cons.1 hx with rfl | hx
      · rw [hp] at hy; cases hy
      · exact ih hx
    · exact hx
theorem octOk_letter {l : List Int} (h : (122 : Int) ∈ l) : octOk l = false := by
  have h1 : (122 : Int) ∈ tail l := by
    unfold tail rest
    exact mem_dropWhile (mem_dropWhile h (by decide)) (by decide)
  refine octOk_false_of_tail ?_
  rw [List.all_eq_false]
  exact ⟨122, h1, by decide⟩
theorem letter_head {zs : List Int} (h : zs.length = 512) {j : Nat} (hj : j < 6) : isHead (zs.set (148 + j) 122) = false := by
  have hf : (122 : Int) ∈ fld (zs.set (148 + j) 122) := by
    unfold fld
    refine List.mem_iff_getElem?.2 ⟨j, ?_⟩
    rw [List.getElem?_take, if_pos (by omega), List.getElem?_drop, List.getElem?_set_self (by omega)]
  have ht : toldOk (zs.set (148 + j) 122) = false := by
    unfold toldOk
    rw [octOk_letter hf, Bool.and_false]
  have hr : right (zs.set (148 + j) 122) = false := by unfold right; rw [ht]; rfl
  unfold isHead hparse
  rw [if_neg (by rw [List.length_set, h]; decide), if_pos hr]
  rfl
end M
end Go.Proofs.YtkpnhggpcpjddaaGreatDoor
