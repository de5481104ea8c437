/-
  The walk of PaxOdd.
-/
import Derived.Test.YtefkgkdocglgaaaDoorPaxBack
import Derived.Test.YtefkgkdocglgaaaDoorPaxOddM
namespace Go.Proofs.YtefkgkdocglgaaaDoor
open Go.RowKit Go.Shelf

theorem parse_none {A : Option Addr} {c : Nat} {P : List UInt8} {w0 w : World} (hl : P.length ≤ 1000) (hP : M.recs P = none) (hc : P.length ≤ c) (hb : Below w0.heap.size w0 w) (ht : TB w0.heap.size w0) (hr : Rd w w.heap.size A P.length (ints P)) :
    Calls Tryd.prog 13 #[.slice A P.length c] w (RecsOut .u16 34 [] w) := by
  refine (parse_any A c P (by omega) hc w0.heap.size w hb.size (ht.on hb) hr).mono fun e w' h1 => ?_
  have hE : M.parseE P = 34 := M.parseE_none (by omega) hP
  have h2 := h1.out (z := 34) (by rw [hE]; rfl)
  rwa [M.parseL_no (by rw [hE]; decide)] at h2

set_option maxRecDepth 100000 in
set_option maxHeartbeats 4000000 in
theorem paxOdd_any (A : Option Addr) (n c : Nat) (zs : List Int) (a1 : Int) (w : World) (h : Rd w w.heap.size A n zs) (hn : n ≤ maxLen) (x0 : 0 ≤ a1) (x1 : a1 ≤ 255) (tb : TB w.heap.size w) :
    Calls Tryd.prog 4 #[.slice A n c, .int .u8 a1] w fun e w' => e = .returned (.bool true) ∧ Below w.heap.size w w' := by
  have HT := Lib.hid tb
  have HR := Lib.hid h
  clear tb h
  go_enter Tryd.func4, Tryd.ntmps4
  go_wp2_with fail
  refine (recs_any A n c zs 1 (by omega) hn w HR.out).mono ?_
  rintro e w1 ⟨A1, c1, rs, rfl, hr1, hc1, hm1, hlr, hg, b1⟩
  have hf : Fine rs := hg.fine (by omega)
  have HF := Lib.hid hf
  have HR1 := Lib.hid hr1
  have HG := Lib.hid hg
  clear hg hf hr1
  go_wp2_with fail
  refine (print_fine HF.out b1 HT.out HR1.out).mono ?_
  rintro e w2 ⟨A2, c2, P, rfl, hP, hr2, hc2, hm2, ho2, hb2⟩
  have b2 := b1.trans (hb2.mono b1.size)
  have HR2 := Lib.hid hr2
  have HO2 := Lib.hid ho2
  have hb12 := b1.size
  clear hr2 ho2 hb2
  match rs, hlr with
  | [], _ =>
    obtain rfl : P = [] := hP.out
    simp only [List.length_nil] at *
    go_wp2_with fail
    refine (known_any w.heap.size w2 b2.size (HT.out.on b2)).mono ?_
    rintro e w8 ⟨rfl, hb8⟩
    have b8 := b2.trans (hb8.mono b2.size)
    clear hb8
    go_wp2
    go_ret
    exact ⟨rfl, b8⟩
  | [r], _ =>
    obtain ⟨g1, g2, g3⟩ := HG.out r (by simp)
    have hbl : (M.body (rc r)).length = r.1.size + r.2.size + 3 := by rw [M.body_length]; rfl
    have hPl : P = M.line (rc r) := by rw [hP.out]; exact M.lines_one _
    obtain ⟨f1, f2, f3, f4, f5, f6, f7⟩ := M.line_facts g1 (by omega)
    have hlen : P.length = M.lineLen (rc r) := by rw [hPl, f1]
    have hlo : 5 ≤ P.length := by rw [hlen, f5]; omega
    have hhi : P.length ≤ 50 := by rw [hlen, f5]; have := M.wid_pos (M.body (rc r)).length; omega
    have hcut : M.recs P.dropLast = none := by rw [hPl]; exact M.odd_cut g1 (by omega)
    obtain ⟨hd, E, hdE, hd1, hd2⟩ := M.dec_head (M.lineLen (rc r)) (by omega)
    have hP0 : P[0]? = some hd := by rw [hPl, f3, hdE]; rfl
    obtain ⟨z, hz⟩ : ∃ z : Int, 49 + (((hd.toNat : Int) - 49 + 1 + a1 % 8) % 9) = z := ⟨_, rfl⟩
    have hz0 : 49 ≤ z := by omega
    have hz1 : z ≤ 57 := by omega
    have hzn : z ≠ hd.toNat := by omega
    have hzt : (UInt8.ofNat z.toNat).toNat = z.toNat := by rw [UInt8.toNat_ofNat']; omega
    have hdig : M.recs (P.set 0 (UInt8.ofNat z.toNat)) = none := by
      rw [hPl]
      refine M.odd_digit g1 (by omega) ?_ (by omega) (by omega) ?_
      · intro c hc
        have := List.all_eq_true.1 g3 c hc
        unfold plainByte at this
        simp only [Bool.and_eq_true, Bool.not_eq_true', Bool.and_eq_false_iff, decide_eq_false_iff_not] at this
        omega
      · intro c hc e
        rw [← hPl, hP0] at hc
        injection hc with hc
        subst hc
        apply hzn
        rw [e, hzt]
        omega
    have hsl := fun W' => slice_front W' A2 P.length c2 (P.length - 1) (by omega)
    rw [show ((P.length - 1 : Nat) : Int) = (P.length : Int) - 1 by omega] at hsl
    have hdl : P.dropLast.length = P.length - 1 := List.length_dropLast
    have hfr := HR2.out.front (k := P.length - 1) (by omega)
    rw [ints_take, ← List.dropLast_eq_take] at hfr
    have C3 := parse_none (A := A2) (c := c2) (by omega) hcut (by omega) b2 HT.out (by rw [hdl]; exact hfr)
    rw [hdl] at C3
    have HC3 := Lib.hid C3
    have HDIG := Lib.hid hdig
    have HZ := Lib.hid hz
    have HP0 := Lib.hid hP0
    have hhb : hd.toNat ≤ 57 := hd2
    clear C3 hfr hdl hcut hdig hz hP0 hzn hzt hPl hP f1 f2 f3 f4 f5 f6 f7 hlen hdE hbl g1 g2 g3 HG HF HR1
    go_wp2_with fail
    refine HC3.out.mono ?_
    rintro e w3 ⟨A3, c3, rs3, rfl, _, _, _, _, _, hb3⟩
    have b3 := b2.trans (hb3.mono b2.size)
    obtain ⟨g, hg5, rfl, hcell, hfz, hset⟩ := own_set (HO2.out.below hb3) (j := 0) (by omega) z (by omega) (by omega)
    have hP0' : P[0] = hd := by
      have := HP0.out
      rw [List.getElem?_eq_getElem (by omega)] at this
      injection this
    rw [hP0'] at hcell
    clear hP0'
    have b4 := b3.setCell (p := ⟨g, 0, none⟩) (Nat.le_trans hb12 hg5) (.int .u8 z)
    have C4 := Lib.hid (parse_none (A := some ⟨g, 0, none⟩) (c := c2) (P := P.set 0 (UInt8.ofNat z.toNat)) (by rw [List.length_set]; omega) HDIG.out (by rw [List.length_set]; exact hc2) b4 HT.out (by rw [List.length_set]; exact hset))
    rw [List.length_set] at C4
    clear hset hb3 HC3 hsl
    obtain ⟨d0, hd0⟩ : ∃ d0 : Int, (hd.toNat : Int) = d0 := ⟨_, rfl⟩
    rw [hd0] at hcell HZ
    have hd49 : 49 ≤ d0 := by omega
    have hd57 : d0 ≤ 57 := by omega
    clear hd0
    have hz := HZ.out
    go_wp2_with fail
    refine C4.out.mono ?_
    rintro e w5 ⟨A5, c5, rs5, rfl, _, _, _, _, _, hb5⟩
    have b5 := b4.trans (hb5.mono b4.size)
    clear hb5 C4 hz
    go_wp2_with fail
    refine (known_any w.heap.size w5 b5.size (HT.out.on b5)).mono ?_
    rintro e w8 ⟨rfl, hb8⟩
    have b8 := b5.trans (hb8.mono b5.size)
    clear hb8
    go_wp2
    go_ret
    exact ⟨rfl, b8⟩
end Go.Proofs.YtefkgkdocglgaaaDoor
