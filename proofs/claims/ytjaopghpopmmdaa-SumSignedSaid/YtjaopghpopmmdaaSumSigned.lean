/-
  SumSigned's walk.
-/
import Derived.Test.YtjaopghpopmmdaaSumLaw
namespace Go.Proofs.Ytjaopghpopmmdaa
open Go.RowKit Go.Lib

set_option maxRecDepth 100000 in
set_option maxHeartbeats 1000000 in
theorem sumSigned_any (A : Option Addr) (n c : Nat) (zs : List Int) (v : Int) (w : World) (hr : Rd w w.heap.size A n zs) (hn : n ≤ 140737488355328) (hv : 0 ≤ v ∧ v ≤ 255) :
    Calls Try.prog 8 #[.slice A n c, .int .u8 v] w fun e w' => e = .returned (.bool true) ∧ Below w.heap.size w w' := by
  have HB := hid (block_any A n c zs v w _ hr (Nat.le_refl _) hn hv)
  have HX := hid (M.block_len zs v)
  have HXB := hid (M.block_bd v hr.bd)
  clear hr hn hv
  generalize M.block zs v = xs at *
  go_enter Try.func8, Try.ntmps8
  go_wp2_with fail
  (with_reducible refine HB.out.mono ?_)
  rintro e w1 ⟨g, rfl, hg, hA, b1⟩
  have HA := hid hA
  have hgl := hA.lt
  clear hA HB
  go_wp2_with fail
  go_loop [6, 7] (fun m i => ∃ k : Nat, k ≤ 512 ∧ i = .int .i64 k ∧ m = .int .i64 (M.tot M.hi 0 (xs.take k))) (fun _ i => 512 - (intOf i).toNat)
  case atStart => exact ⟨0, Nat.zero_le _, rfl, by rw [List.take_zero]; rfl⟩
  case round =>
    obtain ⟨k, hk, rfl, rfl⟩ := hrel
    by_cases hlt : k < 512
    · obtain ⟨z, hz⟩ : ∃ z, xs[k]? = some z := ⟨_, List.getElem?_eq_getElem (by rw [HX.out]; exact hlt)⟩
      have hzb := HXB.out z (List.mem_of_getElem? hz)
      obtain ⟨hz0, hz1⟩ := hzb
      have hcs := HA.out.cell hz
      have HT := hid (M.tot_take M.hi hz)
      have hbd := M.tot_hi_bd (xs.take k) 0
      have hl : (xs.take k).length ≤ k := List.length_take_le _ _
      obtain ⟨hb0, hb1⟩ := hbd
      have hv1 : M.tot M.hi 0 (xs.take k) ≤ 512 := by omega
      clear hz hb1 hl
      generalize M.tot M.hi 0 (xs.take k) = m at *
      by_cases hz7 : 127 < z
      · have ez : decide (127 < z) = true := by simpa using hz7
        by_cases h1 : k < 148
        · have e1 := lt_yes (k := k) (m := 148) (by omega)
          have HC := hid (M.hi_hi (i := k) (z := z) (.inl h1) hz7)
          go_wp2
          go_round
          case rel => exact ⟨k + 1, by omega, by go_num, by rw [HT.out, HC.out]⟩
          case measure => simp [intOf]; omega
        · have e1 := lt_no (k := k) (m := 148) (by omega)
          by_cases h2 : k < 156
          · have e2 := ge_no (k := k) (m := 156) (by omega)
            have HC := hid (M.hi_in (i := k) (z := z) (by omega) h2)
            go_wp2
            go_round
            case rel => exact ⟨k + 1, by omega, by go_num, by rw [HT.out, HC.out, Int.add_zero]⟩
            case measure => simp [intOf]; omega
          · have e2 := ge_yes (k := k) (m := 156) (by omega)
            have HC := hid (M.hi_hi (i := k) (z := z) (.inr (by omega)) hz7)
            go_wp2
            go_round
            case rel => exact ⟨k + 1, by omega, by go_num, by rw [HT.out, HC.out]⟩
            case measure => simp [intOf]; omega
      · have ez : decide (127 < z) = false := by simpa using hz7
        have HC := hid (M.hi_lo (i := k) (z := z) (by omega))
        go_wp2
        go_round
        case rel => exact ⟨k + 1, by omega, by go_num, by rw [HT.out, HC.out, Int.add_zero]⟩
        case measure => simp [intOf]; omega
    · obtain rfl : k = 512 := by omega
      rw [List.take_of_length_le (by rw [HX.out]; exact Nat.le_refl _)]
      have hbd := M.tot_hi_bd xs 0
      rw [HX.out] at hbd
      obtain ⟨hb0, hb1⟩ := hbd
      have HE := hid (M.sgn_eq xs)
      have hub := M.tot_cu_bd 0 HXB.out
      rw [HX.out] at hub
      have hu0 : 0 ≤ M.uns xs := hub.1
      have hu1 : M.uns xs ≤ 130560 := by have := hub.2; unfold M.uns; omega
      have hs0 : -131072 ≤ M.sgn xs := by rw [HE.out]; omega
      have hs1 : M.sgn xs ≤ 130560 := by rw [HE.out]; omega
      have e1 : (M.uns xs - M.sgn xs == 256 * M.tot M.hi 0 xs) = true := by rw [beq_iff_eq, HE.out]; omega
      clear hub HE
      have HR := fun W (hb : Below w1.heap.size w1 W) => (HA.out.whole HX.out HXB.out).keep (w' := W) fun p hp => hb.cell hp
      have HU := hid (fun W hb => unsigned_any (some ⟨g, 0, none⟩) 512 512 xs W _ (HR W hb) hb.size (by decide))
      have HS := hid (fun W hb => signed_any (some ⟨g, 0, none⟩) 512 512 xs W _ (HR W hb) hb.size (by decide))
      clear HR HA HX HXB
      generalize M.uns xs = u at *
      generalize M.sgn xs = s at *
      generalize M.tot M.hi 0 xs = m at *
      go_wp2_with fail
      refine (known_any _).mono ?_
      rintro e w2 ⟨rfl, b2⟩
      go_wp2_with fail
      (with_reducible refine (HU.out _ b2).mono ?_)
      rintro e w3 ⟨rfl, b3⟩
      have hb3 := b2.trans (b3.mono b2.size)
      clear b2 b3
      go_wp2_with fail
      (with_reducible refine (HS.out _ hb3).mono ?_)
      rintro e w4 ⟨rfl, b4⟩
      have hb4 := hb3.trans (b4.mono hb3.size)
      clear hb3 b4
      go_wp2
      go_ret
      exact ⟨rfl, b1.trans (hb4.mono b1.size)⟩
end Go.Proofs.Ytjaopghpopmmdaa
