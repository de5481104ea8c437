/-
  The walks of StrCuts and StrBack.
-/
import Derived.Test.YtpmhmglckeafgaaDoorStrKnown
namespace Go.Proofs.YtpmhmglckeafgaaDoor
open Go.RowKit Go.Shelf

/-- Bytes that came in are bytes. -/
theorem ints_of {zs : List Int} (h : ∀ z ∈ zs, 0 ≤ z ∧ z ≤ 255) : ∃ l, zs = ints l := by
  refine ⟨zs.map fun z => UInt8.ofNat z.toNat, ?_⟩
  unfold ints
  rw [List.map_map]
  conv => lhs; rw [← List.map_id zs]
  refine List.map_congr_left fun z hz => ?_
  have := h z hz
  simp only [id, Function.comp, UInt8.toNat_ofNat']
  omega

/-- A slice of bytes that came in. -/
def BytesIn (w : World) (A : Option Addr) (n c : Nat) (zs : List Int) : Prop := Rd w w.heap.size A n zs ∧ n ≤ c ∧ (A = none → c = 0)

theorem tl_bytes (l : List UInt8) : (⟨l.toArray⟩ : ByteArray).toList = l := by rw [ByteArray.toList_eq]

set_option maxRecDepth 100000 in
set_option maxHeartbeats 2000000 in
theorem strCuts_any (A : Option Addr) (n c : Nat) (zs : List Int) (s : ByteArray) (wide k : Int) (w : World) (h : BytesIn w A n c zs) (hs : s.size ≤ maxLen) (hw0 : -9223372036854775808 ≤ wide) (hw1 : wide ≤ 9223372036854775807) (hk0 : 0 ≤ k) (hk1 : k ≤ 255) :
    Calls Tryd.prog 5 #[.slice A n c, .string s, .int .i64 wide, .int .u8 k] w fun e w' => e = .returned (.bool true) ∧ Below w.heap.size w w' := by
  unfold maxLen at hs
  obtain ⟨hrd, hnc, hnone⟩ := h
  obtain ⟨l, rfl⟩ := ints_of hrd.bd
  have HR := Lib.hid hrd; clear hrd
  have HNO := Lib.hid hnone; clear hnone
  have early : ∀ w1, Below w.heap.size w w1 → Calls Tryd.prog 12 #[] w1 fun e w' => e = .returned (.bool true) ∧ Below w.heap.size w w' := fun w1 hb => (known_any w1).mono fun e w' ⟨he, hb'⟩ => ⟨he, hb.trans (hb'.mono hb.size)⟩
  have HK := Lib.hid early; clear early
  by_cases hn : n ≤ 300
  · by_cases hsz : s.size ≤ 300
    · by_cases hwd : wide ≤ 1000
      · obtain ⟨p, hp⟩ : ∃ p, M.put s.data.toList wide = p := ⟨_, rfl⟩
        obtain ⟨q, hq⟩ : ∃ q, M.put s.data.toList ((s.size : Int) + k % 4 - 1) = q := ⟨_, rfl⟩
        have P1 : ∀ W, Calls Tryd.prog 15 #[.string s, .int .i64 wide] W (PutIs W p) := fun W => hp ▸ put_any s (by omega) wide hw0 (by omega) W
        have P2 : ∀ W, Calls Tryd.prog 16 #[.string s, .int .i64 wide] W (PutIs W p) := fun W => hp ▸ refPut_any s (by omega) wide hw0 (by omega) W
        have Q1 : ∀ W, Calls Tryd.prog 15 #[.string s, .int .i64 ((s.size : Int) + k % 4 - 1)] W (PutIs W q) := fun W => hq ▸ put_any s (by omega) _ (by omega) (by omega) W
        have Q2 : ∀ W, Calls Tryd.prog 16 #[.string s, .int .i64 ((s.size : Int) + k % 4 - 1)] W (PutIs W q) := fun W => hq ▸ refPut_any s (by omega) _ (by omega) (by omega) W
        have P1 := Lib.hid P1
        have P2 := Lib.hid P2
        have Q1 := Lib.hid Q1
        have Q2 := Lib.hid Q2
        clear hp hq
        go_enter Tryd.func5, Tryd.ntmps5
        go_wp2_with fail
        refine (HK.out _ (Below.refl _ _)).mono ?_
        rintro e w1 ⟨rfl, b1⟩
        go_wp2_with fail
        refine (P1.out _).mono ?_
        rintro e w2 ⟨A2, n2, c2, rfl, hnc2, hcm2, r2, b2, _⟩
        have b12 := b1.trans (b2.mono b1.size)
        clear b1
        go_wp2_with fail
        refine (P2.out _).mono ?_
        rintro e w3 ⟨A3, n3, c3, rfl, hnc3, hcm3, r3, b3, _⟩
        have b13 := b12.trans (b3.mono b12.size)
        have r2' := (r2.below b3).more b3.size
        clear b12 r2 b2 b3
        go_wp2_with fail
        refine (Q1.out _).mono ?_
        rintro e w4 ⟨A4, n4, c4, rfl, hnc4, hcm4, r4, b4, _⟩
        have b14 := b13.trans (b4.mono b13.size)
        have r2'' := (r2'.below b4).more b4.size
        have r3' := (r3.below b4).more b4.size
        clear b13 r2' r3 b4
        go_wp2_with fail
        refine (Q2.out _).mono ?_
        rintro e w5 ⟨A5, n5, c5, rfl, hnc5, hcm5, r5, b5, _⟩
        have b15 := b14.trans (b5.mono b14.size)
        have t2 := (r2''.below b5).more b5.size
        have t3 := (r3'.below b5).more b5.size
        have t4 := (r4.below b5).more b5.size
        clear b14 r2'' r3' r4 b5
        go_wp2_with fail
        refine (cut_any A n c l _ ((HR.out.below b15).more b15.size) hnc (by omega) HNO.out).mono ?_
        rintro e w6 ⟨rfl, b6⟩
        have b16 := b15.trans (b6.mono b15.size)
        have u2 := (t2.below b6).more b6.size
        have u3 := (t3.below b6).more b6.size
        have u4 := (t4.below b6).more b6.size
        have u5 := (r5.below b6).more b6.size
        clear t2 t3 t4 r5 b15 b6
        go_wp2_with fail
        refine (refCut_any A n c l _ ((HR.out.below b16).more b16.size) hnc (by omega)).mono ?_
        rintro e w7 ⟨rfl, rfl⟩
        have x2 := run_text u2 c2
        have x3 := run_text u3 c3
        have x4 := run_text u4 c4
        have x5 := run_text u5 c5
        clear u2 u3 u4 u5
        go_wp2
        go_ret
        exact ⟨ret_bool (by simp), b16⟩
      · have hwd' : 1000 < wide := by omega
        clear hwd
        go_enter Tryd.func5, Tryd.ntmps5
        go_wp2_with (go_at_call 12; refine (HK.out _ (Below.refl _ _)).mono ?_; rintro e w1 ⟨rfl, b1⟩)
        go_ret
        exact ⟨rfl, b1⟩
    · have hsz' : 300 < s.size := by omega
      clear hsz
      go_enter Tryd.func5, Tryd.ntmps5
      go_wp2_with (go_at_call 12; refine (HK.out _ (Below.refl _ _)).mono ?_; rintro e w1 ⟨rfl, b1⟩)
      go_ret
      exact ⟨rfl, b1⟩
  · have hn' : 300 < n := by omega
    clear hn
    go_enter Tryd.func5, Tryd.ntmps5
    go_wp2_with (go_at_call 12; refine (HK.out _ (Below.refl _ _)).mono ?_; rintro e w1 ⟨rfl, b1⟩)
    go_ret
    exact ⟨rfl, b1⟩
end Go.Proofs.YtpmhmglckeafgaaDoor
