/-
  The walks of prints and parses, PaxPrints and PaxParses.
-/
import Derived.Test.YtefkgkdocglgaaaDoorPaxRecs
import Derived.Test.YtefkgkdocglgaaaDoorPaxRefP
import Derived.Test.YtefkgkdocglgaaaDoorPaxRefAll
import Derived.Deep.QuietTactic
import Derived.BigQuiet
namespace Go.Proofs.YtefkgkdocglgaaaDoor
open Go.RowKit Go.Shelf

theorem printE_lt (l : List M.Rc) : M.printE l ≤ 34 := by
  unfold M.printE
  split
  · omega
  · split
    · omega
    · omega
theorem parseE_lt (l : List UInt8) : M.parseE l ≤ 34 := by
  unfold M.parseE
  split
  · omega
  · split
    · omega
    · split <;> omega

theorem parseL_len (l : List UInt8) : (M.parseL l).length ≤ 1000000 := by
  unfold M.parseL
  split
  · rename_i h
    unfold M.parseE at h
    split at h
    · cases h
    · split at h
      · cases h
      · rename_i x hx
        rw [hx]
        split at h
        · cases h
        · show x.length ≤ _
          omega
  · exact Nat.zero_le _

set_option maxRecDepth 100000 in
set_option maxHeartbeats 4000000 in
theorem parses_any (A : Option Addr) (c : Nat) (l : List UInt8) (hl : l.length ≤ 100000000) (hc : l.length ≤ c) (B : Nat) (w : World) (hB : B ≤ w.heap.size) (ht : TB B w) (h : Rd w w.heap.size A l.length (ints l)) :
    Calls Tryd.prog 20 #[.slice A l.length c] w fun e w' => e = .returned (.bool true) ∧ Below w.heap.size w w' := by
  have ht' : TB w.heap.size w := fun w' hb => ht w' (hb.mono hB)
  have HT := Lib.hid ht'
  have HR := Lib.hid h
  have C1 := Lib.hid (parse_any A c l hl hc w.heap.size w (Nat.le_refl _) ht' h)
  have hE := parseE_lt l
  obtain ⟨E, hEe⟩ : ∃ E, M.parseE l = E := ⟨_, rfl⟩
  have HE := Lib.hid hEe
  rw [hEe] at hE
  clear ht ht' h hEe
  go_enter Tryd.func20, Tryd.ntmps20
  go_wp2_with fail
  refine C1.out.mono ?_
  rintro e w1 h1
  obtain ⟨A1, c1, rs1, rfl, hrs1, hr1, hc1, hm1, ho1, hb1⟩ := h1.out (z := E) (by rw [HE.out])
  have C2 := Lib.hid (refParse_any A c l hl hc w.heap.size w1 hb1.size (HT.out.on hb1) ((HR.out.below hb1).more hb1.size))
  have HR1 := Lib.hid hr1
  clear h1 hr1 ho1
  go_wp2_with fail
  refine C2.out.mono ?_
  rintro e w2 h2
  obtain ⟨A2, c2, rs2, rfl, hrs2, hr2, hc2, hm2, ho2, hb2⟩ := h2.out (z := E) (by rw [HE.out])
  have b2 := hb1.trans (hb2.mono hb1.size)
  obtain rfl : rs2 = rs1 := rcs_inj (by rw [hrs1.out, hrs2.out])
  have hlr : rs2.length ≤ 1000000 := by
    have e : rs2.length = (M.parseL l).length := by rw [← hrs1.out, rcs_len]
    rw [e]
    exact parseL_len l
  have C3 := Lib.hid (same_any A1 c1 rs2 A2 c2 rs2 hlr hlr w2.heap.size w2 ((HR1.out.below hb2).more hb2.size) hr2)
  rw [show decide (rs2 = rs2) = true from decide_eq_true rfl] at C3
  clear h2 hr2 ho2 hb2 hrs1 hrs2 C1 C2
  go_wp2_with fail
  refine C3.out.mono ?_
  rintro e w3 ⟨rfl, hb3⟩
  have b3 := b2.trans (hb3.mono b2.size)
  clear hb3 C3
  go_wp2
  go_ret
  exact ⟨rfl, b3⟩
end Go.Proofs.YtefkgkdocglgaaaDoor
