/-
  Rows of blocks: the program's answer.
-/
import Derived.Test.YtjpflljmeaihgaaDoorSpMake
import Derived.WalkMore
import Derived.Deep.LoopGhost
namespace Go.Proofs.YtjpflljmeaihgaaDoor
open Go.RowKit Go.Lib
attribute [local go_sem ↓] spSlice_from spSlice_to spSlice_mid

namespace M
theorem rowEnd_none {f t : Nat} (h : t ≤ f) : rowEnd f t = [] := by unfold rowEnd; rw [if_pos h]
theorem rowEnd_some {f t : Nat} (h : f < t) : rowEnd f t = [((f : Int), ((t - f : Nat) : Int))] := by unfold rowEnd; rw [if_neg (by omega)]
theorem rowEnd_len (f t : Nat) : (rowEnd f t).length ≤ 1 := by unfold rowEnd; split <;> simp
theorem rowsAt_end {b : List Int} {f a : Nat} (h : ¬ a < b.length) : rowsAt b f a = rowEnd f b.length := by rw [rowsAt, dif_neg h]
theorem rowsAt_blank {b : List Int} {f a : Nat} (h : a < b.length) (hb : blank ((b.drop a).take 512) = true) : rowsAt b f a = rowEnd f a ++ rowsAt b (a + 512) (a + 512) := by rw [rowsAt, dif_pos h, if_pos hb]
theorem rowsAt_some {b : List Int} {f a : Nat} (h : a < b.length) (hb : blank ((b.drop a).take 512) = false) : rowsAt b f a = rowsAt b f (a + 512) := by rw [rowsAt, dif_pos h, if_neg (by rw [hb]; decide)]
theorem blank_take {x : List Int} {j : Nat} {z : Int} (h : blank (x.take j) = true) (hz : x[j]? = some z) (h0 : z = 0) : blank (x.take (j + 1)) = true := by
  obtain ⟨hk, rfl⟩ := List.getElem?_eq_some_iff.1 hz
  unfold blank at *
  rw [List.take_succ_eq_append_getElem hk, List.all_append, h]
  simp [h0]
theorem blank_no {x : List Int} {j : Nat} {z : Int} (hz : x[j]? = some z) (h0 : z ≠ 0) : blank x = false := by
  unfold blank
  rw [List.all_eq_false]
  exact ⟨z, List.mem_of_getElem? hz, by simpa using h0⟩
end M

set_option maxRecDepth 100000 in
set_option maxHeartbeats 1000000 in
theorem appendRow_any (base : Nat) (v : Value) (l : List M.Pt) (f t : Nat) (w : World) (ho : OwnP w base v l) (hb : base ≤ w.heap.size) (hl : l.length ≤ 1000000) (hf : f ≤ 1000000000) (ht : t ≤ 1000000000) :
    Calls Tryd.prog 35 #[v, .int .i64 f, .int .i64 t] w fun e w' => ∃ v', e = .returned v' ∧ OwnP w' base v' (l ++ M.rowEnd f t) ∧ Below base w w' := by
  obtain ⟨A, c, rfl, _, _⟩ := ho.rd
  have HO := hid ho
  clear ho
  by_cases h : t ≤ f
  · have HE := hid (M.rowEnd_none h)
    have d1 : decide (t ≤ f) = true := by rw [decide_eq_true_eq]; exact h
    clear h
    go_enter Tryd.func35, Tryd.ntmps35
    go_wp2
    go_ret
    exact ⟨_, rfl, by rw [HE.out, List.append_nil]; exact HO.out, Below.refl _ _⟩
  · have HE := hid (M.rowEnd_some (show f < t by omega))
    have d1 : decide (t ≤ f) = false := by rw [decide_eq_false_iff_not]; exact h
    have e1 : (t : Int) - (f : Int) = ((t - f : Nat) : Int) := by omega
    have HE1 := hid e1
    clear e1
    go_enter Tryd.func35, Tryd.ntmps35
    go_wp2_with (refine wpList_appP rfl (.tmp 11) (.tmp 17) rfl base _ l (f : Int) ((t : Int) - (f : Int)) (by simp [Act.eval]) HO.out hb (by simp [Act.eval]) hl ?_; intro v' w' ho' hb' _)
    go_ret
    exact ⟨_, rfl, by rw [HE.out, ← HE1.out]; exact ho'.out, hb'.out⟩

set_option maxRecDepth 100000 in
set_option maxHeartbeats 2000000 in
theorem rows_any (A : Option Addr) (n c : Nat) (zs : List Int) (w : World) (hr : Rd w w.heap.size A n zs) (hn : n ≤ 900000) (hc : n ≤ c) :
    Calls Tryd.prog 26 #[.slice A n c] w fun e w' => ∃ v, e = .returned v ∧ OwnP w' w.heap.size v (M.rows zs) ∧ Below w.heap.size w w' := by
  have HL := hid hr.len
  have HR := hid (fun (W : World) (hW : Below w.heap.size w W) => hr.below hW)
  clear hr
  go_enter Tryd.func26, Tryd.ntmps26
  go_wp2
  go_step3
  go_wp2
  go_step3
  go_wp2
  go_loopg [3, 4, 5] (n + 512) (fun g lv fv av wr => ∃ (a f : Nat) (acc : List M.Pt) (v : Value), a + g = n + 512 ∧ 0 < g ∧ av = .int .i64 a ∧ fv = .int .i64 f ∧ lv = v ∧ f ≤ n + 511 ∧ Hid (OwnP wr w.heap.size v acc) ∧ Hid (M.rows zs = acc ++ M.rowsAt zs f a) ∧ acc.length ≤ a ∧ Hid (Below w.heap.size w wr))
  case atStart => exact ⟨0, 0, [], _, by omega, by omega, rfl, rfl, rfl, Nat.zero_le _, hid (OwnP.nil _ _), hid (by simp [M.rows]), Nat.le_refl _, hid (Below.refl _ _)⟩
  case round =>
    obtain ⟨a, f, acc, v, hag, hg0, rfl, rfl, rfl, hf, HO, HM, hal, HB⟩ := hrel
    obtain ⟨A1, c1, hv1, _, _⟩ := HO.out.rd
    subst hv1
    have hbs := HB.out.size
    by_cases hlt : a < n
    · have HLT := hid (show a < zs.length by rw [HL.out]; exact hlt)
      obtain ⟨m, hm⟩ : ∃ m, m = min 512 (n - a) := ⟨_, rfl⟩
      have hmin : min ((a : Int) + 512) (n : Int) = ((a + m : Nat) : Int) := by omega
      have d1 : decide (a < n) = true := by rw [decide_eq_true_eq]; exact hlt
      have hx : ((zs.drop a).take 512).length = m := by rw [List.length_take, List.length_drop, HL.out]; omega
      have HX := hid hx
      have HRx := hid (show Rd wr w.heap.size (cutA A c a) m ((zs.drop a).take 512) by
        have h1 := ((HR.out wr HB.out).cut (k := a) (by omega) hc).front (k := m) (by omega)
        rw [show (zs.drop a).take m = (zs.drop a).take 512 by
          rw [hm, ← List.take_take, List.take_of_length_le (show (zs.drop a).length ≤ n - a by rw [List.length_drop, HL.out]; exact Nat.le_refl _)]] at h1
        exact h1)
      have HBL := hid (fun (hb : M.blank ((zs.drop a).take 512) = true) => show M.rows zs = (acc ++ M.rowEnd f a) ++ M.rowsAt zs (a + 512) (a + 512) by rw [HM.out, M.rowsAt_blank HLT.out hb, List.append_assoc])
      have HSM := hid (fun (hb : M.blank ((zs.drop a).take 512) = false) => show M.rows zs = acc ++ M.rowsAt zs f (a + 512) by rw [HM.out, M.rowsAt_some HLT.out hb])
      have HC := hid (appendRow_any w.heap.size _ acc f a wr HO.out hbs (by omega) (by omega) (by omega))
      generalize (zs.drop a).take 512 = x at *
      have i0 : (0 : Int) ≤ (a : Int) := by omega
      have HC1 := hid hc
      by_cases h5 : n < a + 512
      case' pos =>
        have i1 : (a : Int) ≤ (n : Int) := by omega
        have i2 : (n : Int) ≤ (c : Int) := by omega
        have i3 : n - a = m := by omega
        have i4 : (n : Int) < (a : Int) + 512 := by omega
      case' neg =>
        have i1 : (a : Int) ≤ (a : Int) + 512 := by omega
        have i2 : (a : Int) + 512 ≤ (c : Int) := by omega
        have i5 : ((a : Int) + 512).toNat = a + 512 := by omega
        have i3 : a + 512 - a = m := by omega
        have i4 : ¬ (n : Int) < (a : Int) + 512 := by omega
      all_goals
        have HHM := hid (show m ≤ 512 by omega)
        clear hx hm HM h5 hmin
        go_wp2
        clear i0 i1 i2 i4
        try rw [i3]
        generalize cutA A c a = Ac at *
        clear i3 HC1
        go_loopg [23] m (fun g2 iv wy => wr = wy ∧ ∃ j : Nat, j + g2 = m ∧ iv = .int .i64 j ∧ Hid (M.blank (x.take j) = true))
        case atStart => exact ⟨rfl, 0, by omega, rfl, hid rfl⟩
        case round =>
          obtain ⟨rfl, j, hjg, rfl, HJ⟩ := hrel
          by_cases hjm : j < m
          · obtain ⟨b, off, z, hA, hb, hz0, hz1, hz, hcz⟩ := HRx.out.at_ hjm
            subst hA
            have HZ := hid hz
            have d2 : decide (j < m) = true := by rw [decide_eq_true_eq]; exact hjm
            have hjb : j ≤ 511 := by have := HHM.out; omega
            clear hz
            by_cases hzz : z = 0
            · obtain ⟨k1, hk1⟩ : ∃ k1, k1 = j + 1 := ⟨_, rfl⟩
              have HN := hid (show M.blank (x.take k1) = true by rw [hk1]; exact M.blank_take HJ.out HZ.out hzz)
              subst hzz
              by_cases hj0 : j = 0
              case' pos =>
                subst hj0
                simp only [Nat.add_zero] at hcz
              case' neg => have hj1 : 0 < j := by omega
              all_goals
                go_wp2
                go_roundg (m - k1)
                case measure => omega
                case rel => exact ⟨rfl, k1, by omega, (by subst hk1; first | rfl | go_num), HN⟩
            · have HN := hid (HSM.out (M.blank_no HZ.out hzz))
              have d3 : (z != 0) = true := by simpa using hzz
              clear hzz
              by_cases hj0 : j = 0
              case' pos =>
                subst hj0
                simp only [Nat.add_zero] at hcz
              case' neg => have hj1 : 0 < j := by omega
              all_goals
                go_wp2
                go_roundg (n - a)
                case measure => omega
                case rel => exact ⟨a + 512, f, acc, _, by omega, by omega, by go_num, rfl, rfl, hf, HO, HN, by omega, HB⟩
          · obtain rfl : j = m := by omega
            have HJ2 := HJ.out
            rw [List.take_of_length_le (Nat.le_of_eq HX.out)] at HJ2
            have HN := hid (HBL.out HJ2)
            have d2 : decide (j < j) = false := by simp
            clear HJ2 hjm
            go_wp2_with (go_at_call 35; (with_reducible refine HC.out.mono ?_); rintro e w2 ⟨v', rfl, ho2, hb2⟩)
            go_roundg (n - a)
            case measure => omega
            case rel => exact ⟨a + 512, a + 512, _, _, by omega, by omega, by go_num, by go_num, rfl, by omega, hid ho2, HN, by have := M.rowEnd_len f a; rw [List.length_append]; omega, hid (HB.out.trans hb2)⟩
    · have HE := hid (show M.rows zs = acc ++ M.rowEnd f n by rw [HM.out, M.rowsAt_end (by rw [HL.out]; exact hlt), HL.out])
      have HC := hid (appendRow_any w.heap.size _ acc f n wr HO.out hbs (by omega) (by omega) (by omega))
      have d1 : decide (a < n) = false := by rw [decide_eq_false_iff_not]; exact hlt
      clear hlt
      go_wp2_with (go_at_call 35; (with_reducible refine HC.out.mono ?_); rintro e w2 ⟨v', rfl, ho2, hb2⟩)
      try rw [Exit.noGoto_ret]
      go_ret
      exact ⟨_, rfl, by rw [HE.out]; exact ho2, HB.out.trans hb2⟩
end Go.Proofs.YtjpflljmeaihgaaDoor
