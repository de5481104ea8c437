/-
  HeadBack.
-/
import Derived.Test.YtbjejgnfnpednaaDoorHdLaw
import Derived.Test.YtbjejgnfnpednaaDoorHdSame
import Derived.Test.YtbjejgnfnpednaaDoorHdHeader
import Derived.Test.YtbjejgnfnpednaaDoorHdErr
import Derived.Test.YtbjejgnfnpednaaDoorHSumRefS
namespace Go.Proofs.YtbjejgnfnpednaaDoor
open Go.RowKit Go.Lib

theorem HIn.later {w w' : World} {h : M.Hdr} {pv : Value} (hi : HIn w h pv) (hb : Below w.heap.size w w') : HIn w' h pv :=
  ⟨PartsB.mono (PartsB.below hi.parts hb) hb.size, hi.nums, hi.kind, hi.ints, hi.texts⟩
theorem HIn.slice {w : World} {h : M.Hdr} {pv : Value} (hi : HIn w h pv) : ∃ A c, pv = .slice A h.parts.length c := by
  obtain ⟨A, c, e, _⟩ := hi.parts
  exact ⟨A, c, e⟩

set_option maxRecDepth 100000 in
set_option maxHeartbeats 2000000 in
theorem headBack_any (A : Option Addr) (n c : Nat) (zs : List Int) (w : World) (hr : Rd w w.heap.size A n zs) (hc : n ≤ c) (hcm : c ≤ maxLen) (hmg : MG w) :
    Calls Tryd.prog 7 #[.slice A n c] w fun e w' => e = .returned (.bool true) ∧ Below w.heap.size w w' := by
  have hst := store_new
  have HMG := hid (fun (W : World) (hW : Below w.heap.size w W) => hmg.later hW)
  have HH := hid (header_any A n c zs w hr hc hcm)
  clear hr hc hcm hmg
  go_enter Tryd.func7, Tryd.ntmps7
  go_wp2_with fail
  (with_reducible refine HH.out.mono ?_)
  rintro e w1 ⟨h, pv, rfl, hi, hfew, _, b1⟩
  obtain ⟨Ap, cp, rfl⟩ := hi.slice
  have HA1 := hid (hi.later ((Below.refl _ _).alloc (Nat.le_refl _) (.cells (hcells h (.slice Ap h.parts.length cp)) 25)))
  have HB1 := hid (HB.new w1 h (.slice Ap h.parts.length cp))
  have B1 := hid (b1.alloc b1.size (.cells (hcells h (.slice Ap h.parts.length cp)) 25))
  have HFew := hid hfew
  clear hi b1 HH hfew
  go_wp2_with (refine wpList_load_row rfl 25 (.tmp 3) rfl w1.heap.size (by rfl) 25 (hcells h (.slice Ap h.parts.length cp)) (0, 0) _ HB1.out Tryd.underlying25 rfl hdr_size ?_)
  generalize w1.alloc _ = w2 at *
  refine (hprint_any h _ w2 HA1.out (HMG.out _ B1.out)).mono ?_
  rintro e w3 ⟨h3, b3⟩
  have B3 := hid (B1.out.trans (b3.mono B1.out.size))
  by_cases hx : (M.hprint h).1 = 0
  case neg =>
    rw [if_neg hx] at h3
    subst h3
    have hne : ((M.hprint h).1 != 0) = true := by simpa using hx
    clear b3
    go_wp2_with fail
    (with_reducible refine (lawKnown_any _ (HMG.out _ B3.out)).mono ?_)
    rintro e w7 ⟨rfl, b7⟩
    go_wp2
    go_ret
    exact ⟨rfl, B3.out.trans (b7.mono B3.out.size)⟩
  case pos =>
    obtain ⟨ys, hz⟩ : ∃ ys, M.hprint h = (0, ys) := ⟨_, by rw [← hx]⟩
    obtain ⟨S⟩ := M.print_back hz
    rw [hz, if_pos rfl] at h3
    obtain ⟨g, rfl, hg, hA⟩ := h3
    have HBb3 := hid b3
    have HAr := hid hA
    clear hx hz b3 hg
    go_wp2_with fail
    have hR3 := hA.rd S.bd (B := w3.heap.size) hA.lt
    rw [S.lout] at hR3
    (with_reducible refine (hparse_any (some ⟨g, 0, none⟩) 512 512 ys _ hR3 (Nat.le_refl _) (by decide) (by decide) (HMG.out _ B3.out)).mono ?_)
    rintro e w4 ⟨pv4, rfl, hp4, b4⟩
    rw [S.back] at hp4 ⊢
    have HQ := hid (PartsIs.in_ hp4)
    obtain ⟨A4, c4, rfl, _, _⟩ := hp4
    have bA : Below w4.heap.size w4 (w4.alloc (.cells (hcells h (.slice A4 h.parts.length c4)) 25)) := (Below.refl _ _).alloc (Nat.le_refl _) _
    have B5 := hid ((B3.out.trans (b4.mono B3.out.size)).trans (bA.mono (B3.out.trans (b4.mono B3.out.size)).size))
    have B25 := hid ((HBb3.out.trans (b4.mono HBb3.out.size)).trans (bA.mono (HBb3.out.trans (b4.mono HBb3.out.size)).size))
    have HA5 := hid ((HAr.out.below b4 HAr.out.lt).below bA (HAr.out.below b4 HAr.out.lt).lt)
    have HB5 := hid (HB.new w4 h (.slice A4 h.parts.length c4))
    have HB15 := hid (HB.below HB1.out B25.out (HB.lt HB1.out))
    have HQ5 := hid (PartsB.mono (PartsB.below HQ.out bA) bA.size)
    have HA15 := hid (HA1.out.later B25.out)
    clear HQ bA b4 hR3 HAr hA HBb3 HB1 HA1 B25
    go_wp2_with (first | (refine wpList_load_row rfl 25 (.tmp 3) rfl w1.heap.size (by rfl) 25 (hcells h (.slice Ap h.parts.length cp)) (0, 0) _ HB15.out Tryd.underlying25 rfl hdr_size ?_) | (refine wpList_load_row rfl 25 (.tmp 6) rfl w4.heap.size (by rfl) 25 (hcells h (.slice A4 h.parts.length c4)) (0, 0) _ HB5.out Tryd.underlying25 rfl hdr_size ?_))
    generalize w4.alloc _ = w5 at *
    (with_reducible refine (same_yes h _ _ _ HA15.out.parts HQ5.out HFew.out).mono ?_)
    rintro e w6 ⟨rfl, b6⟩
    have B6 := hid (B5.out.trans (b6.mono B5.out.size))
    have HA6 := hid (HA5.out.below b6 HA5.out.lt)
    clear b6 HB15 HB5 HQ5 HA15
    go_wp2_with fail
    (with_reducible refine (lawKnown_any _ (HMG.out _ B6.out)).mono ?_)
    rintro e w7 ⟨rfl, b7⟩
    have B7 := hid (B6.out.trans (b7.mono B6.out.size))
    have HA7 := hid (HA6.out.below b7 HA6.out.lt)
    clear b7
    have hR7 := HA7.out.rd S.bd (B := w7.heap.size) HA7.out.lt
    rw [S.lout] at hR7
    have HR7 := hid hR7
    clear hR7
    go_wp2_with fail
    (with_reducible refine (refRight_any (some ⟨g, 0, none⟩) 512 512 ys _ _ HR7.out (Nat.le_refl _) (by decide) (by decide)).mono ?_)
    rintro e w8 ⟨rfl, rfl⟩
    rw [S.right_]
    go_wp2
    go_ret
    exact ⟨rfl, B7.out⟩
end Go.Proofs.YtbjejgnfnpednaaDoor
