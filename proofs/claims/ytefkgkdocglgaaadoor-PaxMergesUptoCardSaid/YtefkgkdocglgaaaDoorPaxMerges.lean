/-
  The walk of PaxMerges.
-/
import Derived.Test.YtefkgkdocglgaaaDoorPaxRefMerge
import Derived.Test.YtefkgkdocglgaaaDoorPaxOver
import Derived.Test.YtefkgkdocglgaaaDoorPaxPrintsC
namespace Go.Proofs.YtefkgkdocglgaaaDoor
open Go.RowKit Go.Shelf

set_option maxRecDepth 100000 in
set_option maxHeartbeats 8000000 in
theorem merges_any (A1 : Option Addr) (c1 : Nat) (l : List R2) (A2 : Option Addr) (c2 : Nat) (m : List R2) (key : ByteArray) (hl : l.length ≤ 400000) (hm : m.length ≤ 400000) (fl : Fits l) (fm : Fits m) (w : World) (h1 : RdR w w.heap.size A1 l) (h2 : RdR w w.heap.size A2 m) :
    Calls Tryd.prog 21 #[.slice A1 l.length c1, .slice A2 m.length c2, .string key] w (fun e w' => e = .returned (.bool true) ∧ Below w.heap.size w w') := by
  have HR1 := Lib.hid h1
  have HR2 := Lib.hid h2
  have HF1 := Lib.hid fl
  have HF2 := Lib.hid fm
  have hl2 : l.length ≤ 1000000 := by omega
  have hm2 : m.length ≤ 1000000 := by omega
  have HC1 := Lib.hid ((callsIn_wide (n := 5)).1 (find_in A1 c1 l key hl2 w h1))
  clear h1 h2 fl fm
  go_enter Tryd.func21, Tryd.ntmps21
  go_wp2_with fail
  refine HC1.out.mono ?_
  rintro e w1 ⟨v, b, rfl, hv, hb, hb1⟩
  have HV := Lib.hid hv
  have HB := Lib.hid hb
  have s1 := hb1.size
  have b1 := hb1
  have HC2 := Lib.hid (refFind_any A1 c1 l key hl2 w1 ((HR1.out.below hb1).more s1))
  clear hv hb hb1 HC1
  go_wp2_with fail
  refine HC2.out.mono ?_
  rintro e w2 ⟨v', b', rfl, hv', hb', hb2⟩
  obtain rfl : v' = v := tl_inj (hv'.trans HV.out.symm)
  obtain rfl : b' = b := hb'.trans HB.out.symm
  have b2 := b1.trans (hb2.mono s1)
  have s2 := b2.size
  have HC3 := Lib.hid (merge_any A1 c1 l A2 c2 m hl2 hm2 HF1.out HF2.out w2 ((HR1.out.below b2).more s2) ((HR2.out.below b2).more s2))
  clear hv' hb' hb2 HV HB HC2
  go_wp2_with fail
  refine HC3.out.mono ?_
  rintro e w3 ⟨A3, c3, r3, rfl, hr3, _, _, he3, hn3, hb3⟩
  have b3 := b2.trans (hb3.mono s2)
  have s3 := b3.size
  have HR3 := Lib.hid hr3
  have HE3 := Lib.hid he3
  have hn3' : r3.length ≤ 1000000 := by omega
  have HC4 := Lib.hid (refMerge_any A1 c1 l A2 c2 m hl hm w3 ((HR1.out.below b3).more s3) ((HR2.out.below b3).more s3))
  clear hr3 he3 hn3 hb3 HC3
  go_wp2_with fail
  refine HC4.out.mono ?_
  rintro e w4 ⟨A4, c4, r4, rfl, hr4, _, _, he4, hn4, hb4⟩
  have b4 := b3.trans (hb4.mono s3)
  obtain rfl : r4 = r3 := rcs_inj (he4.trans HE3.out.symm)
  have hs4 := same_any A3 c3 r4 A4 c4 r4 hn3' hn3' w4.heap.size w4 ((HR3.out.below hb4).more hb4.size) hr4
  rw [show decide (r4 = r4) = true from decide_eq_true rfl] at hs4
  have HS4 := Lib.hid hs4
  clear hr4 he4 hn4 hb4 hs4 HC4 HR3
  go_wp2_with fail
  refine HS4.out.mono ?_
  rintro e w5 ⟨rfl, hb5⟩
  have b5 := b4.trans (hb5.mono b4.size)
  clear hb5
  go_wp2
  go_ret
  exact ⟨rfl, b5⟩

theorem Short.fits {l : List R2} (h : Short l) : Fits l := fun r hr => by have := h r hr; unfold maxLen; omega

set_option maxRecDepth 100000 in
set_option maxHeartbeats 8000000 in
theorem paxMerges_any (A1 : Option Addr) (c1 : Nat) (l : List R2) (A2 : Option Addr) (c2 : Nat) (m : List R2) (A : Option Addr) (n c : Nat) (zs : List Int) (A' : Option Addr) (n' c' : Nat) (zs' : List Int) (key : ByteArray) (w : World)
    (hal : amount l ≤ 4611686018427387904) (ham : amount m ≤ 4611686018427387904) (h1 : RdR w w.heap.size A1 l) (h2 : RdR w w.heap.size A2 m)
    (h : Rd w w.heap.size A n zs) (hn : n ≤ maxLen) (h' : Rd w w.heap.size A' n' zs') (hn' : n' ≤ maxLen) (tb : TB w.heap.size w) :
    Calls Tryd.prog 7 #[.slice A1 l.length c1, .slice A2 m.length c2, .slice A n c, .slice A' n' c', .string key] w fun e w' => e = .returned (.bool true) ∧ Below w.heap.size w w' := by
  have HT := Lib.hid tb
  have HR := Lib.hid h
  have HR' := Lib.hid h'
  have HR1 := Lib.hid h1
  have HR2 := Lib.hid h2
  have C1 := Lib.hid (much_any A1 c1 l hal w.heap.size w h1)
  clear tb h h' h1 h2
  by_cases hml : 600 < amount l
  · rw [decide_eq_true hml] at C1
    clear hml
    go_enter Tryd.func7, Tryd.ntmps7
    go_wp2_with fail
    refine C1.out.mono ?_
    rintro e w1 ⟨rfl, b1⟩
    go_wp2_with fail
    refine (known_any w.heap.size w1 b1.size (HT.out.on b1)).mono ?_
    rintro e w2 ⟨rfl, hb2⟩
    have b2 := b1.trans (hb2.mono b1.size)
    go_wp2
    go_ret
    exact ⟨rfl, b2⟩
  · rw [decide_eq_false hml] at C1
    have hsl := amount_short (Nat.le_of_not_lt hml)
    have hll : l.length ≤ 400000 := Nat.le_trans hsl.1 (by omega)
    have HF1 := Lib.hid (Short.fits (l := l) (fun r hr => Nat.le_trans (hsl.2 r hr) (by omega)))
    clear hml hsl
    by_cases hmm : 600 < amount m
    · have HM := Lib.hid hmm
      clear hmm
      go_enter Tryd.func7, Tryd.ntmps7
      go_wp2_with fail
      refine C1.out.mono ?_
      rintro e w1 ⟨rfl, b1⟩
      have C2 := much_any A2 c2 m ham w1.heap.size w1 ((HR2.out.below b1).more b1.size)
      rw [decide_eq_true HM.out] at C2
      have HC2 := Lib.hid C2
      clear C2
      go_wp2_with fail
      refine HC2.out.mono ?_
      rintro e w2 ⟨rfl, hb2⟩
      have b2 := b1.trans (hb2.mono b1.size)
      clear hb2
      go_wp2_with fail
      refine (known_any w.heap.size w2 b2.size (HT.out.on b2)).mono ?_
      rintro e w3 ⟨rfl, hb3⟩
      have b3 := b2.trans (hb3.mono b2.size)
      go_wp2
      go_ret
      exact ⟨rfl, b3⟩
    · have HM := Lib.hid hmm
      have hsm := amount_short (Nat.le_of_not_lt hmm)
      have hmm' : m.length ≤ 400000 := Nat.le_trans hsm.1 (by omega)
      have HF2 := Lib.hid (Short.fits (l := m) (fun r hr => Nat.le_trans (hsm.2 r hr) (by omega)))
      clear hmm hsm
      go_enter Tryd.func7, Tryd.ntmps7
      go_wp2_with fail
      refine C1.out.mono ?_
      rintro e w1 ⟨rfl, b1⟩
      have C2 := much_any A2 c2 m ham w1.heap.size w1 ((HR2.out.below b1).more b1.size)
      rw [decide_eq_false HM.out] at C2
      have HC2 := Lib.hid C2
      clear C2
      go_wp2_with fail
      refine HC2.out.mono ?_
      rintro e w2 ⟨rfl, hb2⟩
      have b2 := b1.trans (hb2.mono b1.size)
      clear hb2
      go_wp2_with fail
      refine (known_any w.heap.size w2 b2.size (HT.out.on b2)).mono ?_
      rintro e w3 ⟨rfl, hb3⟩
      have b3 := b2.trans (hb3.mono b2.size)
      have s3 := b3.size
      have HC3 := Lib.hid (merges_any A1 c1 l A2 c2 m key hll hmm' HF1.out HF2.out w3 ((HR1.out.below b3).more s3) ((HR2.out.below b3).more s3))
      clear hb3
      go_wp2_with fail
      refine HC3.out.mono ?_
      rintro e w4 ⟨rfl, hb4⟩
      have b4 := b3.trans (hb4.mono s3)
      clear hb4 HC3
      go_wp2_with fail
      refine (recs_any A n c zs 8 (by omega) hn w4 ((HR.out.below b4).more b4.size)).mono ?_
      rintro e w5 ⟨A5, c5, x, rfl, hr5, hc5, hm5, hl5, hg5, hb5⟩
      have b5 := b4.trans (hb5.mono b4.size)
      have HR5 := Lib.hid hr5
      have HG5 := Lib.hid hg5
      clear hr5 hg5 hb5
      go_wp2_with fail
      refine (recs_any A' n' c' zs' 8 (by omega) hn' w5 ((HR'.out.below b5).more b5.size)).mono ?_
      rintro e w6 ⟨A6, c6, y, rfl, hr6, hc6, hm6, hl6, hg6, hb6⟩
      have b6 := b5.trans (hb6.mono b5.size)
      have HC6 := Lib.hid (merges_any A5 c5 x A6 c6 y ⟨#[112, 97, 116, 104]⟩ (by omega) (by omega) HG5.out.fits hg6.fits w6 ((HR5.out.below hb6).more hb6.size) hr6)
      clear hr6 hg6 hb6
      go_wp2_with fail
      refine HC6.out.mono ?_
      rintro e w7 ⟨rfl, hb7⟩
      have b7 := b6.trans (hb7.mono b6.size)
      go_wp2
      go_ret
      exact ⟨rfl, b7⟩
end Go.Proofs.YtefkgkdocglgaaaDoor
