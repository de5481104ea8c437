/-
  SumSums' walk.
-/
import Derived.Test.YtjaopghpopmmdaaSumLaw
namespace Go.Proofs.Ytjaopghpopmmdaa
open Go.RowKit Go.Lib

set_option maxRecDepth 100000 in
set_option maxHeartbeats 1000000 in
theorem sumSums_any (A0 : Option Addr) (n0 c0 : Nat) (z0 : List Int) (A : Option Addr) (n c : Nat) (zs : List Int) (v a b : Int) (w : World) (hr0 : Rd w w.heap.size A0 n0 z0) (hn0 : n0 ≤ c0) (hc0 : c0 ≤ maxLen)
    (hr : Rd w w.heap.size A n zs) (hn : n ≤ 140737488355328) (hv : 0 ≤ v ∧ v ≤ 255) (ha : 0 ≤ a ∧ a ≤ 65535) (hb : 0 ≤ b ∧ b ≤ 255) :
    Calls Try.prog 5 #[.slice A0 n0 c0, .slice A n c, .int .u8 v, .int .u16 a, .int .u8 b] w fun e w' => e = .returned (.bool true) ∧ Below w.heap.size w w' := by
  by_cases h6 : 600 < n0
  · have e1 : decide ((600 : Int) < n0) = true := by rw [decide_eq_true_eq]; omega
    have e2 : decide (600 < n0) = true := by rw [decide_eq_true_eq]; omega
    clear hr0 hr hn0 hc0 hn hv ha hb
    go_enter Try.func5, Try.ntmps5
    go_wp2_with fail
    refine (known_any _).mono ?_
    rintro e w1 ⟨rfl, b1⟩
    go_wp2
    go_ret
    exact ⟨rfl, b1⟩
  obtain ⟨ha0, ha1⟩ := ha
  obtain ⟨hb0, hb1⟩ := hb
  have e1 : decide ((600 : Int) < n0) = false := by rw [decide_eq_false_iff_not]; omega
  have e2 : decide (600 < n0) = false := by rw [decide_eq_false_iff_not]; omega
  have HK := fun W (hb : Below w.heap.size w W) => hr.keep (w' := W) fun p hp => hb.cell hp
  have HK0 := fun W (hb : Below w.heap.size w W) => hr0.keep (w' := W) fun p hp => hb.cell hp
  have HB := hid (fun W hb => block_any A n c zs v W _ (HK W hb) hb.size hn hv)
  have HT0 := hid (fun W hb => tells_any A0 n0 c0 z0 W _ (HK0 W hb) hb.size hn0 hc0 (by omega))
  have HX := hid (M.block_len zs v)
  have hxb := M.block_bd v hr.bd
  have HXB := hid hxb
  have HSB := hid (M.sld_bd hxb)
  clear HK HK0 hr0 hr hn0 hc0 hn hv h6 hxb
  generalize M.block zs v = xs at *
  have HSL := hid (M.sld_len xs)
  go_enter Try.func5, Try.ntmps5
  go_wp2_with fail
  refine (known_any _).mono ?_
  rintro e w1 ⟨rfl, b1⟩
  go_wp2_with fail
  (with_reducible refine (HB.out _ b1).mono ?_)
  rintro e w2 ⟨g2, rfl, hg2, hA2, b2'⟩
  have b2 := b1.trans (b2'.mono b1.size)
  have hl2 := hA2.lt
  have HS := hid (fun W (hb : Below w2.heap.size w2 W) => refSeal_any (some ⟨g2, 0, none⟩) 512 512 xs W _ ((hA2.whole HX.out HXB.out).keep (w' := W) fun p hp => hb.cell hp) hb.size (by decide))
  have HT2 := hid (fun W (hb : Below w2.heap.size w2 W) => tells_any (some ⟨g2, 0, none⟩) 512 512 xs W _ ((hA2.whole HX.out HXB.out).keep (w' := W) fun p hp => hb.cell hp) hb.size (by decide) (by decide) (by decide))
  clear hA2 b2' b1 HB hg2
  go_wp2_with fail
  (with_reducible refine (HS.out _ (Below.refl _ _)).mono ?_)
  rintro e w3 ⟨g3, rfl, hg3, hA3, b3⟩
  have hl3 := hA3.lt
  have HT3 := hid (fun W (hb : Below w3.heap.size w3 W) => tells_any (some ⟨g3, 0, none⟩) 512 512 (M.sld xs) W _ ((hA3.whole HSL.out HSB.out).keep (w' := W) fun p hp => hb.cell hp) hb.size (by decide) (by decide) (by decide))
  clear hA3
  go_wp2_with fail
  (with_reducible refine (HS.out _ b3).mono ?_)
  rintro e w4 ⟨g4, rfl, hg4, hA4, b4⟩
  clear HS
  generalize M.sld xs = ys at *
  have hi0 : 0 ≤ a % 512 := by omega
  have hi1 : a % 512 < 512 := by omega
  have hj0 : 0 ≤ a % 8 := by omega
  have hj1 : a % 8 < 8 := by omega
  have hji : (148 + a % 8) % 65536 = 148 + a % 8 := by omega
  obtain ⟨y, hy⟩ : ∃ y, ys[(a % 512).toNat]? = some y := ⟨_, List.getElem?_eq_getElem (by rw [HSL.out]; omega)⟩
  have hc4 := hA4.cell hy
  have hf4 := hA4.frozen (a % 512).toNat
  have hA5 := hA4.set (a % 512).toNat b
  obtain ⟨q, hq⟩ : ∃ q, (ys.set (a % 512).toNat b)[(148 + a % 8).toNat]? = some q := ⟨_, List.getElem?_eq_getElem (by rw [List.length_set, HSL.out]; omega)⟩
  have hc5 := hA5.cell hq
  have hf5 := hA5.frozen (148 + a % 8).toNat
  have hA6 := hA5.set (148 + a % 8).toNat b
  have h34 : w3.heap.size ≤ g4 := hg4
  have h24 : w2.heap.size ≤ g4 := Nat.le_trans b3.size hg4
  have h04 : w.heap.size ≤ g4 := Nat.le_trans b2.size h24
  have c36 := (b4.setCell (p := ⟨g4, (a % 512).toNat, none⟩) hg4 (.int .u8 b)).setCell (p := ⟨g4, (148 + a % 8).toNat, none⟩) hg4 (.int .u8 b)
  have HA6 := hid hA6
  have HC36 := hid c36
  have HL6 : Hid (((ys.set (a % 512).toNat b).set (148 + a % 8).toNat b).length = 512) := hid (by rw [List.length_set, List.length_set]; exact HSL.out)
  have HZ6 : Hid (∀ z ∈ (ys.set (a % 512).toNat b).set (148 + a % 8).toNat b, 0 ≤ z ∧ z ≤ 255) := hid (fun z hz => by
    rcases List.mem_or_eq_of_mem_set hz with h1 | h1
    · rcases List.mem_or_eq_of_mem_set h1 with h2 | h2
      · exact HSB.out z h2
      · rw [h2]; exact ⟨hb0, hb1⟩
    · rw [h1]; exact ⟨hb0, hb1⟩)
  clear hA4 hA5 hA6 c36 hg4 hg3 hy hq b4 HSB HSL HX HXB
  go_wp2_with fail
  clear hc4 hf4 hc5 hf5 hji hi0 hi1 hj0 hj1
  generalize (w4.setCell ⟨g4, (a % 512).toNat, none⟩ (.int .u8 b)).setCell ⟨g4, (148 + a % 8).toNat, none⟩ (.int .u8 b) = w6 at *
  generalize (ys.set (a % 512).toNat b).set (148 + a % 8).toNat b = us at *
  have c36 := HC36.out
  have c26 := b3.trans (c36.mono b3.size)
  have c06 := b2.trans (c26.mono b2.size)
  have HT6 := hid (fun W (hb : Below w6.heap.size w6 W) => tells_any (some ⟨g4, 0, none⟩) 512 512 us W _ ((HA6.out.whole HL6.out HZ6.out).keep (w' := W) fun p hp => hb.cell hp) hb.size (by decide) (by decide) (by decide))
  clear HA6 HC36 HL6 HZ6 b2 b3
  (with_reducible refine (HT0.out _ c06).mono ?_)
  rintro e w7 ⟨rfl, b7⟩
  have c67 := b7
  have c27 := c26.trans (b7.mono c26.size)
  have c37 := c36.trans (b7.mono c36.size)
  have c07 := c06.trans (b7.mono c06.size)
  clear b7 c26 c36 c06
  go_wp2_with fail
  (with_reducible refine (HT2.out _ c27).mono ?_)
  rintro e w8 ⟨rfl, b8⟩
  have c68 := c67.trans (b8.mono c67.size)
  have c38 := c37.trans (b8.mono c37.size)
  have c08 := c07.trans (b8.mono c07.size)
  clear b8 c27 c37 c07 c67
  go_wp2_with fail
  (with_reducible refine (HT3.out _ c38).mono ?_)
  rintro e w9 ⟨rfl, b9⟩
  have c69 := c68.trans (b9.mono c68.size)
  have c09 := c08.trans (b9.mono c08.size)
  clear b9 c38 c08 c68
  go_wp2_with fail
  (with_reducible refine (HT6.out _ c69).mono ?_)
  rintro e w10 ⟨rfl, b10⟩
  have c10 := c09.trans (b10.mono c09.size)
  clear b10 c09 c69
  go_wp2
  go_ret
  exact ⟨rfl, c10⟩
end Go.Proofs.Ytjaopghpopmmdaa
