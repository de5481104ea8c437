/-
  The walk of StrBack.
-/
import Derived.Test.YtpmhmglckeafgaaDoorStrCuts
import Derived.Lib.ConvBytes
namespace Go.Proofs.YtpmhmglckeafgaaDoor
open Go.RowKit Go.Shelf

theorem conv_below (w : World) (s : ByteArray) : Below w.heap.size w (Lib.bytesWorld w 5 s) :=
  ⟨rfl, rfl, rfl, by rw [Lib.bytesWorld_size]; exact Nat.le_succ _, fun i hi => Lib.bytesWorld_at_old w _ s i hi⟩

theorem conv_rd (w : World) (s : ByteArray) : Rd (Lib.bytesWorld w 5 s) (Lib.bytesWorld w 5 s).heap.size (some ⟨w.heap.size, 0, none⟩) s.size (ints s.data.toList) := by
  refine ⟨by rw [ints_length, len_eq], ints_bd _, fun _ => ⟨w.heap.size, 0, rfl, by rw [Lib.bytesWorld_size]; exact Nat.lt_succ_self _, fun j z hz => ?_⟩⟩
  have hj : j < s.size := by
    have := (List.getElem?_eq_some_iff.1 hz).1
    rwa [ints_length, len_eq] at this
  rw [Nat.zero_add, Lib.bytesWorld_cell w _ s j hj]
  rw [ints_at (by rw [len_eq]; exact hj)] at hz
  injection hz with hz
  subst hz
  rw [List.getD_eq_getElem?_getD, List.getElem?_eq_getElem (by rw [len_eq]; exact hj)]
  rfl

set_option maxRecDepth 100000 in
set_option maxHeartbeats 2000000 in
theorem strBack_any (s : ByteArray) (k : Int) (w : World) (hs : s.size ≤ maxLen) (hk0 : 0 ≤ k) (hk1 : k ≤ 255) :
    Calls Tryd.prog 8 #[.string s, .int .u8 k] w fun e w' => e = .returned (.bool true) ∧ Below w.heap.size w w' := by
  unfold maxLen at hs
  by_cases hsz : s.size ≤ 200
  · obtain ⟨q, hq⟩ : ∃ q, M.put s.data.toList ((s.size : Int) + k % 9) = q := ⟨_, rfl⟩
    have Q1 : ∀ W, Calls Tryd.prog 15 #[.string s, .int .i64 ((s.size : Int) + k % 9)] W (PutIs W q) := fun W => hq ▸ put_any s (by omega) _ (by omega) (by omega) W
    have Q1 := Lib.hid Q1
    have HK := Lib.hid known_any
    have HG := Lib.hid (grownCap_ge)
    by_cases h0 : (0 : UInt8) ∈ s.data.toList
    · have hq' : q = none := by rw [← hq]; unfold M.put; rw [if_neg (fun h => h.2 h0)]
      subst hq'
      have hne : ((M.cut s.data.toList) == s.toList) = false := by
        rw [tl_eq]
        have : M.cut s.data.toList ≠ s.data.toList := fun e => M.cut_eq.1 e h0
        simpa [tl] using this
      have htx : (⟨(M.cut s.data.toList).toArray⟩ : ByteArray).toList = M.cut s.data.toList := tl_bytes _
      obtain ⟨z, hz⟩ : ∃ z : ByteArray, (⟨(M.cut s.data.toList).toArray⟩ : ByteArray) = z := ⟨_, rfl⟩
      rw [hz] at htx
      rw [← htx] at hne
      have HZ := Lib.hid hz
      clear hq h0 htx hz
      go_enter Tryd.func8, Tryd.ntmps8
      go_wp2_with fail
      refine (Q1.out _).mono ?_
      rintro e w1 ⟨A1, n1, c1, rfl, hnc1, hcm1, r1, b1, _⟩
      have hcv := Lib.run_convert_string_bytes (P := Tryd.prog) w1 9 22 5 s Tryd.underlying9 Tryd.underlying22 Tryd.underlying5
      go_wp2_with fail
      refine (cut_any _ _ _ s.data.toList _ (conv_rd w1 s) (HG.out w1 s.size 0 _) (by omega) (fun e => by cases e)).mono ?_
      rintro e w2 ⟨rfl, b2⟩
      rw [HZ.out]
      have hb := conv_below w1 s
      have b12 := b1.trans ((hb.trans (b2.mono hb.size)).mono b1.size)
      clear hcv r1 b1 b2 hb
      go_wp2_with fail
      refine (HK.out _).mono ?_
      rintro e w3 ⟨rfl, b3⟩
      have b13 := b12.trans (b3.mono b12.size)
      go_wp2
      go_ret
      exact ⟨rfl, b13⟩
    · have hq' : q = some (s.data.toList ++ List.replicate ((k % 9).toNat) 0) := by
        rw [← hq]
        unfold M.put
        rw [if_pos ⟨by rw [len_eq]; omega, h0⟩, len_eq, show ((s.size : Int) + k % 9).toNat - s.size = (k % 9).toNat by omega]
      have hcut := M.zcut_none h0
      have hcut2 := M.cut_append h0 (k % 9).toNat
      have hz : (⟨(M.cut s.data.toList).toArray⟩ : ByteArray) = s := WideShapes.bytes_inj (by rw [hcut])
      have hz2 : (⟨(M.cut (s.data.toList ++ List.replicate ((k % 9).toNat) 0)).toArray⟩ : ByteArray) = s := WideShapes.bytes_inj (by rw [hcut2])
      have HZ := Lib.hid hz
      have HZ2 := Lib.hid hz2
      subst hq'
      clear hq h0 hcut hcut2 hz hz2
      go_enter Tryd.func8, Tryd.ntmps8
      go_wp2_with fail
      refine (Q1.out _).mono ?_
      rintro e w1 ⟨A1, n1, c1, rfl, hnc1, hcm1, r1, b1, hno1⟩
      rw [Option.getD_some] at r1
      have hn1 : (n1 : Int) = (s.size : Int) + k % 9 := by
        have := r1.len
        rw [ints_length, List.length_append, len_eq, List.length_replicate] at this
        omega
      have hn1' : ((n1 : Int) == (s.size : Int) + k % 9) = true := by simp [hn1]
      have hn2 : n1 ≤ 1000 := by omega
      have HNO := Lib.hid hno1
      clear hn1 hno1
      have hcv := Lib.run_convert_string_bytes (P := Tryd.prog) w1 9 22 5 s Tryd.underlying9 Tryd.underlying22 Tryd.underlying5
      go_wp2_with fail
      refine (cut_any _ _ _ s.data.toList _ (conv_rd w1 s) (HG.out w1 s.size 0 _) (by omega) (fun e => by cases e)).mono ?_
      rintro e w2 ⟨rfl, b2⟩
      rw [HZ.out]
      have hb := conv_below w1 s
      have hb2 := hb.trans (b2.mono hb.size)
      have b12 := b1.trans (hb2.mono b1.size)
      have r2 := (r1.below hb2).more hb2.size
      clear hcv r1 b1 b2 hb hb2
      go_wp2_with fail
      refine (HK.out _).mono ?_
      rintro e w3 ⟨rfl, b3⟩
      have b13 := b12.trans (b3.mono b12.size)
      have r3 := (r2.below b3).more b3.size
      clear r2 b12 b3
      go_wp2_with fail
      refine (cut_any _ _ _ _ _ r3 hnc1 (by omega) HNO.out).mono ?_
      rintro e w4 ⟨rfl, b4⟩
      rw [HZ2.out]
      have b14 := b13.trans (b4.mono b13.size)
      go_wp2
      go_ret
      exact ⟨ret_bool (by simp), b14⟩
  · have hsz' : 200 < s.size := by omega
    clear hsz
    go_enter Tryd.func8, Tryd.ntmps8
    go_wp2_with (go_at_call 12; refine (known_any _).mono ?_; rintro e w1 ⟨rfl, b1⟩)
    go_ret
    exact ⟨rfl, b1⟩
end Go.Proofs.YtpmhmglckeafgaaDoor
