/-
  SumParts' walk.
-/
import Derived.Test.YtjaopghpopmmdaaSumLaw
import Derived.Test.YtjaopghpopmmdaaSumMathB
namespace Go.Proofs.Ytjaopghpopmmdaa
open Go.RowKit Go.Lib

set_option maxRecDepth 100000 in
set_option maxHeartbeats 1000000 in
theorem sumParts_any (A : Option Addr) (n c : Nat) (zs : List Int) (v a b : Int) (w : World) (hr : Rd w w.heap.size A n zs) (hn : n ≤ 140737488355328) (hv : 0 ≤ v ∧ v ≤ 255) (ha : 0 ≤ a ∧ a ≤ 65535) (hb : 0 ≤ b ∧ b ≤ 65535) :
    Calls Try.prog 3 #[.slice A n c, .int .u8 v, .int .u16 a, .int .u16 b] w fun e w' => e = .returned (.bool true) ∧ Below w.heap.size w w' := by
  obtain ⟨ha0, ha1⟩ := ha
  obtain ⟨hb0, hb1⟩ := hb
  have HB := hid (block_any A n c zs v w _ hr (Nat.le_refl _) hn hv)
  have HX := hid (M.block_len zs v)
  have hxb := M.block_bd v hr.bd
  have HXB := hid hxb
  clear hr hn hv
  generalize M.block zs v = xs at *
  obtain ⟨i, hi⟩ : ∃ i : Nat, a % 148 = i := ⟨(a % 148).toNat, by omega⟩
  obtain ⟨j, hj⟩ : ∃ j : Nat, 156 + b % 356 = j := ⟨(156 + b % 356).toNat, by omega⟩
  have hi1 : i < 148 := by omega
  have hj0 : 156 ≤ j := by omega
  have hj1 : j < 512 := by omega
  obtain ⟨x, hx⟩ : ∃ x, (M.sld xs)[i]? = some x := ⟨_, List.getElem?_eq_getElem (by rw [M.sld_len]; omega)⟩
  obtain ⟨y, hy⟩ : ∃ y, (M.sld xs)[j]? = some y := ⟨_, List.getElem?_eq_getElem (by rw [M.sld_len]; omega)⟩
  have hsb := M.sld_bd hxb
  have HSB := hid hsb
  have HW := hid (M.right_swap hxb hi1 hj0 hx hy)
  have hxr := hsb x (List.mem_of_getElem? hx)
  have hyr := hsb y (List.mem_of_getElem? hy)
  obtain ⟨hx0, hx1⟩ := hxr
  obtain ⟨hy0, hy1⟩ := hyr
  have HI := hid hi
  have HJ := hid hj
  have HXI := hid hx
  have HYJ := hid hy
  have HSL := hid (M.sld_len xs)
  clear hxb hsb hi hj hx hy
  go_enter Try.func3, Try.ntmps3
  go_wp2_with fail
  (with_reducible refine HB.out.mono ?_)
  rintro e w1 ⟨g1, rfl, hg1, hA1, b1⟩
  have HS := hid (seal_any (some ⟨g1, 0, none⟩) 512 512 xs w1 _ (hA1.whole HX.out HXB.out) (Nat.le_refl _))
  clear hA1 HB hg1
  go_wp2_with fail
  (with_reducible refine HS.out.mono ?_)
  rintro e w2 ⟨g, rfl, hg, hA2, b2⟩
  clear HS HX HXB
  generalize M.sld xs = ys at *
  have hgw : w.heap.size ≤ g := Nat.le_trans b1.size hg
  have hb2 := b1.trans (b2.mono b1.size)
  have hci := hA2.cell HXI.out
  have hcj := hA2.cell HYJ.out
  have hfi := hA2.frozen i
  have hA3 := hA2.set i y
  have hfj := hA3.frozen j
  have hcj3 := hA3.cell (i := j) (z := y) (by rw [List.getElem?_set_ne (by omega)]; exact HYJ.out)
  have hA4 := hA3.set j x
  have hb4 := (hb2.setCell (p := ⟨g, i, none⟩) hgw (.int .u8 y)).setCell (p := ⟨g, j, none⟩) hgw (.int .u8 x)
  have HA4 := hid hA4
  have HB4 := hid hb4
  have hi' := HI.out
  have hj' := HJ.out
  have HL4 : Hid (((ys.set i y).set j x).length = 512) := hid (by rw [List.length_set, List.length_set]; exact HSL.out)
  have HZ4 : Hid (∀ z ∈ (ys.set i y).set j x, 0 ≤ z ∧ z ≤ 255) := hid (fun z hz => by
    rcases List.mem_or_eq_of_mem_set hz with h1 | h1
    · rcases List.mem_or_eq_of_mem_set h1 with h2 | h2
      · exact HSB.out z h2
      · rw [h2]; exact ⟨hy0, hy1⟩
    · rw [h1]; exact ⟨hx0, hx1⟩)
  clear hA2 hA3 hA4 hb4 b1 b2 hg
  go_wp2_with fail
  clear hci hcj hfi hfj hcj3 hi' hj' hb2
  generalize (w2.setCell ⟨g, i, none⟩ (.int .u8 y)).setCell ⟨g, j, none⟩ (.int .u8 x) = w4 at *
  generalize (ys.set i y).set j x = us at *
  have hlt4 := HA4.out.lt
  refine (known_any _).mono ?_
  rintro e w5 ⟨rfl, b5⟩
  have hA5 := HA4.out.below b5 hlt4
  have hb5 := HB4.out.trans (b5.mono HB4.out.size)
  have HR := hid (right_any (some ⟨g, 0, none⟩) 512 512 us w5 _ (hA5.whole HL4.out HZ4.out) (Nat.le_refl _) (by decide))
  rw [HW.out] at HR
  clear hA5 b5
  go_wp2_with fail
  (with_reducible refine HR.out.mono ?_)
  rintro e w6 ⟨rfl, b6⟩
  have hb6 := hb5.trans (b6.mono hb5.size)
  clear b6 hb5
  go_wp2
  go_ret
  exact ⟨rfl, hb6⟩
end Go.Proofs.Ytjaopghpopmmdaa
