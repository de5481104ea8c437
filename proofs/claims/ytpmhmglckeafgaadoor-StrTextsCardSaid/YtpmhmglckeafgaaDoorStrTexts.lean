/-
  The walk of StrTexts.
-/
import Derived.Test.YtpmhmglckeafgaaDoorStrBytes
namespace Go.Proofs.YtpmhmglckeafgaaDoor
open Go.RowKit Go.Shelf

set_option maxRecDepth 100000 in
set_option maxHeartbeats 4000000 in
theorem strTexts_any (s : ByteArray) (A : Option Addr) (n c : Nat) (zs : List Int) (w : World) (hs : s.size ≤ maxLen) (h : BytesIn w A n c zs) :
    Calls Tryd.prog 6 #[.string s, .slice A n c] w fun e w' => e = .returned (.bool true) ∧ Below w.heap.size w w' := by
  unfold maxLen at hs
  obtain ⟨hrd, hnc, _⟩ := h
  have HR := Lib.hid hrd; clear hrd
  have K1 : ∀ W, Below w.heap.size w W → Calls Tryd.prog 12 #[] W fun e w' => e = .returned (.bool true) ∧ Below w.heap.size w w' := fun W hb => (known_any W).mono fun e w' ⟨he, hb'⟩ => ⟨he, hb.trans (hb'.mono hb.size)⟩
  have HK := Lib.hid K1; clear K1
  have hw0 := Below.refl w.heap.size w
  by_cases hsz : s.size ≤ 300
  · have UT : ∀ (x : ByteArray) (b : Bool), M.utf x.data.toList = b → ∀ W, Below w.heap.size w W → Calls Tryd.prog 13 #[.string x] W fun e w' => e = .returned (.bool b) ∧ Below w.heap.size w w' := fun x b hx W hb =>
      (utf8_any x W).mono fun e w' ⟨he, hb'⟩ => ⟨by rw [he, hx], hb.trans (hb'.mono hb.size)⟩
    have PL : ∀ (x : ByteArray) (b : Bool), M.plain x.data.toList = b → ∀ W, Below w.heap.size w W → Calls Tryd.prog 14 #[.string x] W fun e w' => e = .returned (.bool b) ∧ Below w.heap.size w w' := fun x b hx W hb =>
      (plain_any x W).mono fun e w' ⟨he, hb'⟩ => ⟨by rw [he, hx], hb.trans (hb'.mono hb.size)⟩
    have RU : ∀ (x : ByteArray) (b : Bool), M.utf x.data.toList = b → ∀ W, Below w.heap.size w W → Calls Tryd.prog 20 #[.string x] W fun e w' => e = .returned (.bool b) ∧ Below w.heap.size w w' := fun x b hx W hb =>
      (refUtf8_any x W).mono fun e w' ⟨he, hb'⟩ => ⟨by rw [he, hx], hb' ▸ hb⟩
    have RP : ∀ (x : ByteArray) (b : Bool), x.size ≤ 1000000 → M.plain x.data.toList = b → ∀ W, Below w.heap.size w W → Calls Tryd.prog 21 #[.string x] W fun e w' => e = .returned (.bool b) ∧ Below w.heap.size w w' := fun x b hl hx W hb =>
      (refPlain_any x hl W).mono fun e w' ⟨he, hb'⟩ => ⟨by rw [he, hx], hb' ▸ hb⟩
    obtain ⟨b1, hb1⟩ : ∃ b, M.utf s.data.toList = b := ⟨_, rfl⟩
    obtain ⟨b2, hb2⟩ : ∃ b, M.plain s.data.toList = b := ⟨_, rfl⟩
    have U1 := Lib.hid (UT s b1 hb1)
    have V1 := Lib.hid (RU s b1 hb1)
    have P1 := Lib.hid (PL s b2 hb2)
    have Q1 := Lib.hid (RP s b2 (by omega) hb2)
    have UT := Lib.hid UT
    have PL := Lib.hid PL
    have RU := Lib.hid RU
    have RP := Lib.hid RP
    clear hb1 hb2
    go_enter Tryd.func6, Tryd.ntmps6
    go_wp2_with fail
    refine (HK.out _ hw0).mono ?_
    rintro e w1 ⟨rfl, k1⟩
    go_wp2_with fail
    refine (bytes_any A n c zs _ ((HR.out.below k1).more k1.size) hnc).mono ?_
    rintro e w2 ⟨t, rfl, ht, k2⟩
    have k12 := k1.trans (k2.mono k1.size)
    clear k1 k2
    obtain ⟨b3, hb3⟩ : ∃ b, M.utf t.data.toList = b := ⟨_, rfl⟩
    obtain ⟨b4, hb4⟩ : ∃ b, M.plain t.data.toList = b := ⟨_, rfl⟩
    have U2 := Lib.hid (UT.out t b3 hb3)
    have V2 := Lib.hid (RU.out t b3 hb3)
    have P2 := Lib.hid (PL.out t b4 hb4)
    have Q2 := Lib.hid (RP.out t b4 (by omega) hb4)
    clear hb3 hb4 UT PL RU RP
    go_wp2_with (first
      | (go_at_call 13; ((with_reducible refine (U1.out _ (by assumption)).mono ?_); rintro e w' ⟨rfl, _⟩))
      | (go_at_call 13; ((with_reducible refine (U2.out _ (by assumption)).mono ?_); rintro e w' ⟨rfl, _⟩))
      | (go_at_call 20; ((with_reducible refine (V1.out _ (by assumption)).mono ?_); rintro e w' ⟨rfl, _⟩))
      | (go_at_call 20; ((with_reducible refine (V2.out _ (by assumption)).mono ?_); rintro e w' ⟨rfl, _⟩))
      | (go_at_call 14; ((with_reducible refine (P1.out _ (by assumption)).mono ?_); rintro e w' ⟨rfl, _⟩))
      | (go_at_call 14; ((with_reducible refine (P2.out _ (by assumption)).mono ?_); rintro e w' ⟨rfl, _⟩))
      | (go_at_call 21; ((with_reducible refine (Q1.out _ (by assumption)).mono ?_); rintro e w' ⟨rfl, _⟩))
      | (go_at_call 21; ((with_reducible refine (Q2.out _ (by assumption)).mono ?_); rintro e w' ⟨rfl, _⟩)))
    all_goals
      go_ret
      exact ⟨ret_bool (by simp), by assumption⟩
  · have hsz' : 300 < s.size := by omega
    clear hsz
    go_enter Tryd.func6, Tryd.ntmps6
    go_wp2_with (go_at_call 12; refine (HK.out _ hw0).mono ?_; rintro e w1 ⟨rfl, b1⟩)
    go_ret
    exact ⟨rfl, b1⟩
end Go.Proofs.YtpmhmglckeafgaaDoor
