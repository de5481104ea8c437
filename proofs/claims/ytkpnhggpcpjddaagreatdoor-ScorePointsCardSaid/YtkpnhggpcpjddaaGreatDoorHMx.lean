/-
  Texts of one chapter, merged.
-/
import Derived.Test.YtkpnhggpcpjddaaGreatDoorHMp
import Derived.Test.YtkpnhggpcpjddaaGreatDoorHMq
import Derived.Test.YtkpnhggpcpjddaaGreatDoorHSumRefB
import Derived.Test.YtkpnhggpcpjddaaGreatDoorHdRef
import Derived.Test.YtkpnhggpcpjddaaGreatDoorMtQuiet
import Derived.Deep.CutRange
import Derived.Test.YtkpnhggpcpjddaaGreatDoorHMv
import Derived.Test.YtkpnhggpcpjddaaGreatDoorHdBent
import Derived.Test.YtkpnhggpcpjddaaGreatDoorHSumLaw
set_option linter.unusedVariables false
set_option linter.unusedSimpArgs false
/-! The document's Points. -/
namespace Go.Proofs.YtkpnhggpcpjddaaGreatDoor
open Go.RowKit Go.Lib

theorem one_any (b : Bool) (w : World) : Calls Tryz.prog 24 #[.bool b] w fun e w' => e = .returned (.int .i64 (M.one b 1)) ∧ w = w' := by
  go_enter Tryz.func24, Tryz.ntmps24
  cases b
  · go_wp2
    go_ret
    exact ⟨rfl, rfl⟩
  · go_wp2
    go_ret
    exact ⟨rfl, rfl⟩
namespace M
def some_ (zs : List Int) : Bool := zs.any fun z => !(z == 0 || z == 32)
theorem some_take {zs : List Int} {k : Nat} {z : Int} (h : zs[k]? = some z) (h0 : some_ (zs.take k) = false) (hz : z = 0 ∨ z = 32) : some_ (zs.take (k + 1)) = false := by
  unfold some_ at *
  rw [List.take_add_one, h, List.any_append, h0]
  rcases hz with rfl | rfl <;> rfl
theorem some_yes {zs : List Int} {z : Int} (h : z ∈ zs) (h0 : z ≠ 0) (h1 : z ≠ 32) : some_ zs = true := by
  unfold some_
  rw [List.any_eq_true]
  exact ⟨z, h, by simp [h0, h1]⟩
end M

set_option maxRecDepth 100000 in
set_option maxHeartbeats 1000000 in
theorem field_any (A : Option Addr) (n c : Nat) (zs : List Int) (w : World) (B : Nat) (hr : Rd w B A n zs) (hc : n ≤ c) (hcm : c ≤ maxLen) :
    Calls Tryz.prog 28 #[.slice A n c] w fun e w' => e = .returned (.bool (parOk zs && M.some_ zs)) ∧ w = w' := by
  have HP := hid (parseRef_any A n c zs w B hr hc hcm)
  have HR := hid hr
  have HL := hid hr.len
  unfold maxLen at hcm
  have hcm' := Nat.le_trans hc hcm
  clear hr
  generalize hpo : parOk zs = po at *
  clear hpo
  generalize parN zs = pn at *
  go_enter Tryz.func28, Tryz.ntmps28
  go_wp2_with fail
  (with_reducible refine HP.out.mono ?_)
  rintro e w1 ⟨rfl, rfl⟩
  clear HP
  go_wp2_with fail
  go_loop [5] (fun i => ∃ k : Nat, i = .int .i64 k ∧ k ≤ n ∧ Hid (M.some_ (zs.take k) = false)) (fun i => n - (RowKit.intOf i).toNat)
  case atStart => exact ⟨0, rfl, Nat.zero_le _, hid rfl⟩
  case round =>
    obtain ⟨k, rfl, hk, HK⟩ := hrel
    by_cases hlt : k < n
    · obtain ⟨b, off, z, rfl, _, hz0, hz1, hz, hcell⟩ := HR.out.at_ hlt
      have HM := hid (List.mem_of_getElem? hz)
      have HZ := hid hz
      clear hz
      by_cases h0 : z = 0
      · subst h0
        have HS := hid (M.some_take HZ.out HK.out (.inl rfl))
        clear HZ HK
        go_wp2_with fail
        go_round
        case rel => exact ⟨k + 1, (by go_num), hlt, HS⟩
        case measure => simp [RowKit.intOf]; omega
      · by_cases h1 : z = 32
        · subst h1
          have HS := hid (M.some_take HZ.out HK.out (.inr rfl))
          clear HZ HK
          go_wp2_with fail
          go_round
          case rel => exact ⟨k + 1, (by go_num), hlt, HS⟩
          case measure => simp [RowKit.intOf]; omega
        · have HS := hid (M.some_yes HM.out h0 h1)
          have e0 : (z == 0) = false := by rw [beq_eq_false_iff_ne]; exact h0
          have e1 : (z == 32) = false := by rw [beq_eq_false_iff_ne]; exact h1
          have e2 : (z != 0) = true := by rw [bne_iff_ne]; exact h0
          have e3 : (z != 32) = true := by rw [bne_iff_ne]; exact h1
          clear HZ HK h0 h1
          go_wp2_with fail
          go_ret
          exact ⟨by rw [HS.out, Bool.and_true]; rfl, rfl⟩
    · obtain rfl : k = n := by omega
      have HS := hid (show M.some_ zs = false by
        have := HK.out
        rwa [List.take_of_length_le (by rw [HL.out]; exact Nat.le_refl _)] at this)
      clear HK
      go_wp2_with fail
      go_ret
      exact ⟨by rw [HS.out, Bool.and_false]; rfl, rfl⟩
namespace M
theorem way_lt3 (zs : List Int) : (way zs).getD 0 < 3 := by
  unfold way
  split
  · split
    · decide
    · split
      · decide
      · split <;> decide
  · decide
theorem wayIs_pos (zs : List Int) : ((way zs).isSome && decide ((0 : Int) < wayN zs)) = wayIs zs := by
  unfold wayIs wayN
  congr 1
  have := way_lt3 zs
  generalize (way zs).getD 0 = k at *
  rw [Bool.eq_iff_iff, decide_eq_true_eq, bne_iff_ne]
  omega
theorem tailp_eq (zs : List Int) : tailp zs = 3 * one (wayIs zs) 1 + one (known (byt zs 156)) 1 + 2 * one (nameIs zs) 1 + one (numIs zs 100 8) 1 + one (numIs zs 108 8) 1 + one (numIs zs 116 8) 1 + one (numIs zs 124 12) 1 + one (numIs zs 136 12) 1 := by
  have e3 : one (wayIs zs) 3 = 3 * one (wayIs zs) 1 := by cases wayIs zs <;> rfl
  have e2 : one (nameIs zs) 2 = 2 * one (nameIs zs) 1 := by cases nameIs zs <;> rfl
  unfold tailp
  rw [show sig zs 2 = wayIs zs from rfl, show sig zs 3 = known (byt zs 156) from rfl, show sig zs 4 = nameIs zs from rfl, show sig zs 5 = numIs zs 100 8 from rfl, show sig zs 6 = numIs zs 108 8 from rfl, show sig zs 7 = numIs zs 116 8 from rfl, show sig zs 8 = numIs zs 124 12 from rfl, show sig zs 9 = numIs zs 136 12 from rfl, e3, e2]
theorem numIs_eq (zs : List Int) (a m : Nat) : (parOk (sub zs a m) && some_ (sub zs a m)) = numIs zs a m := rfl
end M
theorem cut_le : ∀ l : List UInt8, (S.M.cut l).length ≤ l.length
  | [] => Nat.le_refl _
  | c :: l => by
    rw [S.M.cut]
    split
    · exact Nat.zero_le _
    · exact Nat.succ_le_succ (cut_le l)
theorem below_drewQ {B : Nat} {a w : World} (h : Below B a w) : Below B a w.drew := ⟨h.os, h.tape, h.output, h.size, h.block⟩

set_option maxRecDepth 100000 in
set_option maxHeartbeats 8000000 in
theorem refPoints_go (b off c : Nat) (zs : List Int) (w : World) (hr : Rd w w.heap.size (some ⟨b, off, none⟩) 512 zs) (hc : 512 ≤ c) (hcm : c ≤ maxLen) (hz : M.zero zs = false) :
    Calls Tryz.prog 11 #[.slice (some ⟨b, off, none⟩) 512 c] w fun e w' => e = .returned (.int .i64 (M.points zs)) ∧ Below w.heap.size w w' := by
  have HPT := hid ((M.points_yes hr.len hz).trans (M.upto_ten zs))
  have HTE := hid (M.tailp_eq zs)
  have HWE := hid (M.wayIs_pos zs)
  have HZ := hid (refZero_any (some ⟨b, off, none⟩) 512 c zs w w.heap.size hr (by decide))
  rw [hz] at HZ
  have HTo := hid (refTold_any (some ⟨b, off, none⟩) 512 c zs w w.heap.size hr hc hcm)
  have HWy := hid (refWay_any (some ⟨b, off, none⟩) 512 c zs w hr hc hcm)
  have HRd := hid (fun (W : World) (hW : Below w.heap.size w W) => (hr.below hW).more hW.size)
  have HCu := hid (fun (W : World) (hW : Below w.heap.size w W) => S.refCut_any (some ⟨b, off, none⟩) 100 c (M.toB (M.sub zs 0 100)) W (by rw [M.ints_toB (M.sub_bd hr.bd)]; exact (((hr.below hW).more hW.size).sub (a := 0) (m := 100) (by decide))) (by omega) (by decide))
  have HRi := hid (fun (W : World) (hW : Below w.heap.size w W) => refRight_any (some ⟨b, off, none⟩) 512 c zs W w.heap.size (hr.below hW) hc hcm (by decide))
  have HKb := hid (show ∃ z, (∀ W, Below w.heap.size w W → W.cell? ⟨b, off + 156, none⟩ = some (.int .u8 z)) ∧ M.byt zs 156 = z by
    obtain ⟨b', off', z, e, hb', _, _, hq, hcell⟩ := hr.at_ (k := 156) (by decide)
    injection e with e
    injection e with e1 e2
    subst e1 e2
    exact ⟨z, fun W hW => (hW.cell (p := ⟨b, off + 156, none⟩) hb').trans hcell, by unfold M.byt; rw [List.getD_eq_getElem?_getD, hq]; rfl⟩)
  have HNE := hid (show M.nameIs zs = (!((⟨(S.M.cut (M.toB (M.sub zs 0 100))).toArray⟩ : ByteArray).toList == []) && S.M.plain (S.M.cut (M.toB (M.sub zs 0 100)))) from rfl)
  have HLe := hid (show (S.M.cut (M.toB (M.sub zs 0 100))).length ≤ 1000000 by
    have h1 := cut_le (M.toB (M.sub zs 0 100))
    rw [M.toB_len, M.sub_len (by rw [hr.len]; decide)] at h1
    omega)
  have HF1 := hid (fun (W : World) (hW : Below w.heap.size w W) => show Calls Tryz.prog 28 #[.slice (some ⟨b, off + 100, none⟩) 8 (c - 100)] W (fun e w' => e = .returned (.bool (M.numIs zs 100 8)) ∧ W = w') from
    field_any (some ⟨b, off + 100, none⟩) 8 (c - 100) (M.sub zs 100 8) W W.heap.size (((hr.below hW).more hW.size).sub (a := 100) (m := 8) (by decide)) (by omega) (by unfold maxLen at *; omega))
  have HF2 := hid (fun (W : World) (hW : Below w.heap.size w W) => show Calls Tryz.prog 28 #[.slice (some ⟨b, off + 108, none⟩) 8 (c - 108)] W (fun e w' => e = .returned (.bool (M.numIs zs 108 8)) ∧ W = w') from
    field_any (some ⟨b, off + 108, none⟩) 8 (c - 108) (M.sub zs 108 8) W W.heap.size (((hr.below hW).more hW.size).sub (a := 108) (m := 8) (by decide)) (by omega) (by unfold maxLen at *; omega))
  have HF3 := hid (fun (W : World) (hW : Below w.heap.size w W) => show Calls Tryz.prog 28 #[.slice (some ⟨b, off + 116, none⟩) 8 (c - 116)] W (fun e w' => e = .returned (.bool (M.numIs zs 116 8)) ∧ W = w') from
    field_any (some ⟨b, off + 116, none⟩) 8 (c - 116) (M.sub zs 116 8) W W.heap.size (((hr.below hW).more hW.size).sub (a := 116) (m := 8) (by decide)) (by omega) (by unfold maxLen at *; omega))
  have HF4 := hid (fun (W : World) (hW : Below w.heap.size w W) => show Calls Tryz.prog 28 #[.slice (some ⟨b, off + 124, none⟩) 12 (c - 124)] W (fun e w' => e = .returned (.bool (M.numIs zs 124 12)) ∧ W = w') from
    field_any (some ⟨b, off + 124, none⟩) 12 (c - 124) (M.sub zs 124 12) W W.heap.size (((hr.below hW).more hW.size).sub (a := 124) (m := 12) (by decide)) (by omega) (by unfold maxLen at *; omega))
  have HF5 := hid (fun (W : World) (hW : Below w.heap.size w W) => show Calls Tryz.prog 28 #[.slice (some ⟨b, off + 136, none⟩) 12 (c - 136)] W (fun e w' => e = .returned (.bool (M.numIs zs 136 12)) ∧ W = w') from
    field_any (some ⟨b, off + 136, none⟩) 12 (c - 136) (M.sub zs 136 12) W W.heap.size (((hr.below hW).more hW.size).sub (a := 136) (m := 12) (by decide)) (by omega) (by unfold maxLen at *; omega))
  have HCC := hid (⟨hc, hcm⟩ : _ ∧ _)
  unfold maxLen at hcm
  have ha100 : ¬ c - 100 = 0 := by omega
  have hb100 : ¬ c = 100 := by omega
  have hq100 : (108 : Int) ≤ (c : Int) := by omega
  have ha108 : ¬ c - 108 = 0 := by omega
  have hb108 : ¬ c = 108 := by omega
  have hq108 : (116 : Int) ≤ (c : Int) := by omega
  have ha116 : ¬ c - 116 = 0 := by omega
  have hb116 : ¬ c = 116 := by omega
  have hq116 : (124 : Int) ≤ (c : Int) := by omega
  have ha124 : ¬ c - 124 = 0 := by omega
  have hb124 : ¬ c = 124 := by omega
  have hq124 : (136 : Int) ≤ (c : Int) := by omega
  have ha136 : ¬ c - 136 = 0 := by omega
  have hb136 : ¬ c = 136 := by omega
  have hq136 : (148 : Int) ≤ (c : Int) := by omega
  clear hr hz
  obtain ⟨zk, HK1, hzk⟩ := HKb.out
  rw [hzk] at HTE
  have HKK := hid HK1
  clear HK1 hzk HKb
  have hpl := fun W => S.refPlain_any (⟨(S.M.cut (M.toB (M.sub zs 0 100))).toArray⟩ : ByteArray) (show (S.M.cut (M.toB (M.sub zs 0 100))).length ≤ 1000000 from HLe.out) W
  rw [show (⟨(S.M.cut (M.toB (M.sub zs 0 100))).toArray⟩ : ByteArray).data.toList = S.M.cut (M.toB (M.sub zs 0 100)) from rfl] at hpl
  have HPl := hid hpl
  clear hpl HLe
  generalize M.points zs = P at *
  generalize S.M.plain (S.M.cut (M.toB (M.sub zs 0 100))) = pl at *
  generalize (⟨(S.M.cut (M.toB (M.sub zs 0 100))).toArray⟩ : ByteArray) = s at *
  generalize M.toldOk zs = tk at *
  generalize M.toldN zs = tn at *
  generalize (M.way zs).isSome = ok at *
  generalize wayN zs = wn at *
  have HK2 := hid (fun W => refKnown_any zk W)
  generalize M.known zk = c2 at *
  generalize M.numIs zs 100 8 = f1 at *
  generalize M.numIs zs 108 8 = f2 at *
  generalize M.numIs zs 116 8 = f3 at *
  generalize M.numIs zs 124 12 = f4 at *
  generalize M.numIs zs 136 12 = f5 at *
  obtain ⟨c1, hc1⟩ : ∃ g, g = (ok && decide ((0 : Int) < wn)) := ⟨_, rfl⟩
  rw [← hc1] at HWE
  rw [← HWE.out] at HTE
  have Hc1 := hid hc1
  obtain ⟨ns, hns⟩ : ∃ g, g = (!s.toList.isEmpty) := ⟨_, rfl⟩
  obtain ⟨c3, hc3⟩ : ∃ g, g = (ns && pl) := ⟨_, rfl⟩
  have Hns := hid hns
  have Hc3 := hid hc3
  have HN3 := hid (show M.nameIs zs = c3 by
    rw [HNE.out, hc3, hns]
    congr 1
    cases s.toList <;> rfl)
  rw [HN3.out] at HTE
  clear hc1 hns hc3 HWE HNE HN3
  have Ox1 := hid (fun W => one_any c1 W)
  have bx1 := M.one_bd c1 (n := 1) (by decide)
  generalize M.one c1 1 = x1 at *
  have Ox2 := hid (fun W => one_any c2 W)
  have bx2 := M.one_bd c2 (n := 1) (by decide)
  generalize M.one c2 1 = x2 at *
  have Ox3 := hid (fun W => one_any c3 W)
  have bx3 := M.one_bd c3 (n := 1) (by decide)
  generalize M.one c3 1 = x3 at *
  have Oy1 := hid (fun W => one_any f1 W)
  have by1 := M.one_bd f1 (n := 1) (by decide)
  generalize M.one f1 1 = y1 at *
  have Oy2 := hid (fun W => one_any f2 W)
  have by2 := M.one_bd f2 (n := 1) (by decide)
  generalize M.one f2 1 = y2 at *
  have Oy3 := hid (fun W => one_any f3 W)
  have by3 := M.one_bd f3 (n := 1) (by decide)
  generalize M.one f3 1 = y3 at *
  have Oy4 := hid (fun W => one_any f4 W)
  have by4 := M.one_bd f4 (n := 1) (by decide)
  generalize M.one f4 1 = y4 at *
  have Oy5 := hid (fun W => one_any f5 W)
  have by5 := M.one_bd f5 (n := 1) (by decide)
  generalize M.one f5 1 = y5 at *
  have Otk := hid (fun W => one_any tk W)
  have btk := M.one_bd tk (n := 1) (by decide)
  go_enter Tryz.func11, Tryz.ntmps11
  go_wp2_with fail
  (with_reducible refine HZ.out.mono ?_)
  rintro e w1 ⟨rfl, rfl⟩
  go_wp2_with fail
  (with_reducible refine HTo.out.mono ?_)
  rintro e w1 ⟨rfl, rfl⟩
  go_wp2_with fail
  (with_reducible refine HWy.out.mono ?_)
  rintro e w1 ⟨rfl, h1⟩
  have B1 := hid h1
  clear h1 HZ HTo HWy
  go_wp2_with fail
  (with_reducible refine (HCu.out w1 B1.out).mono ?_)
  rintro e w2 ⟨rfl, rfl⟩
  go_wp2_with fail
  (with_reducible refine (Otk.out _).mono ?_)
  rintro e w2 ⟨rfl, rfl⟩
  clear HCu Otk
  go_wp2_with fail
  (with_reducible refine (HRi.out w1 B1.out).mono ?_)
  rintro e w2 ⟨rfl, rfl⟩
  clear HRi
  generalize M.right zs = rb at *
  cases rb
  · go_wp2_with fail
    refine wp_region_class (fun V => Below w1.heap.size w1 V) (by kernel_rfl) (by kernel_rfl) (below_drewQ (Below.refl _ _)) ?_
    refine quiet_yes 33 (v := ?_) rfl (by kernel_rfl) ?hy33b ?rest33b
    case hy33b => (intro W hW; clear hW; go_simp; first | done | with_reducible rfl)
    try simp only [Act.put, List.setIfInBounds_toArray, List.set_cons_zero, List.set_cons_succ]
    refine quiet_yes 34 (v := ?_) rfl (by kernel_rfl) ?hy34b ?rest34b
    case hy34b => (intro W hW; clear hW; go_simp; first | done | with_reducible rfl)
    try simp only [Act.put, List.setIfInBounds_toArray, List.set_cons_zero, List.set_cons_succ]
    refine quiet_yes 35 (v := ?_) rfl (by kernel_rfl) ?hy35b ?rest35b
    case hy35b => (intro W hW; clear hW; go_simp; first | done | with_reducible rfl)
    try simp only [Act.put, List.setIfInBounds_toArray, List.set_cons_zero, List.set_cons_succ]
    refine quiet_if 36 (ok) (v := ?_) rfl (by cases ok <;> kernel_rfl) ?hy36b ?rest36b
    case hy36b => (intro hg W hW; subst hg; clear hW; go_simp; first | done | with_reducible rfl)
    try simp only [Act.put, List.setIfInBounds_toArray, List.set_cons_zero, List.set_cons_succ]
    refine quiet_if 37 (ok) (v := .bool (decide ((0 : Int) < wn))) rfl (by cases ok <;> kernel_rfl) ?hy37b ?rest37b
    case hy37b => (intro hg W hW; subst hg; clear hW; simp only [cond_true]; go_simp; first | done | with_reducible rfl)
    try simp only [Act.put, List.setIfInBounds_toArray, List.set_cons_zero, List.set_cons_succ]
    refine quiet_yes 38 (v := .bool c1) rfl (by kernel_rfl) ?hy38b ?rest38b
    case hy38b => (intro W hW; clear hW; rw [Hc1.out]; cases ok <;> (go_simp; first | done | with_reducible rfl))
    try simp only [Act.put, List.setIfInBounds_toArray, List.set_cons_zero, List.set_cons_succ]
    refine quiet_yes 39 (v := .int .i64 x1) rfl (by kernel_rfl) ?hy39b ?rest39b
    case hy39b => (intro W hW; (go_simp; go_at_call 24; (with_reducible refine (Ox1.out W).mono ?_); rintro e w' ⟨rfl, rfl⟩; exact ⟨rfl, hW⟩))
    try simp only [Act.put, List.setIfInBounds_toArray, List.set_cons_zero, List.set_cons_succ]
    refine quiet_yes 40 (v := ?_) rfl (by kernel_rfl) ?hy40b ?rest40b
    case hy40b => (intro W hW; clear hW; go_simp; first | done | with_reducible rfl)
    try simp only [Act.put, List.setIfInBounds_toArray, List.set_cons_zero, List.set_cons_succ]
    refine quiet_yes 41 (v := ?_) rfl (by kernel_rfl) ?hy41b ?rest41b
    case hy41b => (intro W hW; clear hW; go_simp; first | done | with_reducible rfl)
    try simp only [Act.put, List.setIfInBounds_toArray, List.set_cons_zero, List.set_cons_succ]
    refine quiet_yes 42 (v := ?_) rfl (by kernel_rfl) ?hy42b ?rest42b
    case hy42b => (intro W hW; clear hW; go_simp; first | done | with_reducible rfl)
    try simp only [Act.put, List.setIfInBounds_toArray, List.set_cons_zero, List.set_cons_succ]
    refine quiet_yes 43 (v := ?_) rfl (by kernel_rfl) ?hy43b ?rest43b
    case hy43b => (intro W hW; have f0 := HKK.out W (B1.out.trans (hW.mono B1.out.size)); clear hW; go_simp; first | done | with_reducible rfl)
    try simp only [Act.put, List.setIfInBounds_toArray, List.set_cons_zero, List.set_cons_succ]
    refine quiet_yes 44 (v := .bool c2) rfl (by kernel_rfl) ?hy44b ?rest44b
    case hy44b => (intro W hW; (go_simp; go_at_call 26; (with_reducible refine (HK2.out W).mono ?_); rintro e w' ⟨rfl, rfl⟩; exact ⟨rfl, hW⟩))
    try simp only [Act.put, List.setIfInBounds_toArray, List.set_cons_zero, List.set_cons_succ]
    refine quiet_yes 45 (v := .int .i64 x2) rfl (by kernel_rfl) ?hy45b ?rest45b
    case hy45b => (intro W hW; (go_simp; go_at_call 24; (with_reducible refine (Ox2.out W).mono ?_); rintro e w' ⟨rfl, rfl⟩; exact ⟨rfl, hW⟩))
    try simp only [Act.put, List.setIfInBounds_toArray, List.set_cons_zero, List.set_cons_succ]
    refine quiet_yes 46 (v := ?_) rfl (by kernel_rfl) ?hy46b ?rest46b
    case hy46b => (intro W hW; clear hW; go_simp; first | done | with_reducible rfl)
    try simp only [Act.put, List.setIfInBounds_toArray, List.set_cons_zero, List.set_cons_succ]
    refine quiet_yes 47 (v := ?_) rfl (by kernel_rfl) ?hy47b ?rest47b
    case hy47b => (intro W hW; clear hW; go_simp; first | done | with_reducible rfl)
    try simp only [Act.put, List.setIfInBounds_toArray, List.set_cons_zero, List.set_cons_succ]
    refine quiet_yes 48 (v := .bool ns) rfl (by kernel_rfl) ?hy48b ?rest48b
    case hy48b => (intro W hW; clear hW; rw [Hns.out]; go_simp; first | done | with_reducible rfl)
    try simp only [Act.put, List.setIfInBounds_toArray, List.set_cons_zero, List.set_cons_succ]
    refine quiet_yes 49 (v := ?_) rfl (by kernel_rfl) ?hy49b ?rest49b
    case hy49b => (intro W hW; clear hW; go_simp; first | done | with_reducible rfl)
    try simp only [Act.put, List.setIfInBounds_toArray, List.set_cons_zero, List.set_cons_succ]
    refine quiet_if 50 (ns) (v := ?_) rfl (by cases ns <;> kernel_rfl) ?hy50b ?rest50b
    case hy50b => (intro hg W hW; subst hg; clear hW; go_simp; first | done | with_reducible rfl)
    try simp only [Act.put, List.setIfInBounds_toArray, List.set_cons_zero, List.set_cons_succ]
    refine quiet_if 51 (ns) (v := .bool pl) rfl (by cases ns <;> kernel_rfl) ?hy51b ?rest51b
    case hy51b => (intro hg W hW; subst hg; simp only [cond_true]; (go_simp; go_at_call 27; (with_reducible refine (HPl.out W).mono ?_); rintro e w' ⟨rfl, rfl⟩; exact ⟨rfl, hW⟩))
    try simp only [Act.put, List.setIfInBounds_toArray, List.set_cons_zero, List.set_cons_succ]
    refine quiet_yes 52 (v := .bool c3) rfl (by kernel_rfl) ?hy52b ?rest52b
    case hy52b => (intro W hW; clear hW; rw [Hc3.out]; cases ns <;> (go_simp; first | done | with_reducible rfl))
    try simp only [Act.put, List.setIfInBounds_toArray, List.set_cons_zero, List.set_cons_succ]
    refine quiet_yes 53 (v := .int .i64 x3) rfl (by kernel_rfl) ?hy53b ?rest53b
    case hy53b => (intro W hW; (go_simp; go_at_call 24; (with_reducible refine (Ox3.out W).mono ?_); rintro e w' ⟨rfl, rfl⟩; exact ⟨rfl, hW⟩))
    try simp only [Act.put, List.setIfInBounds_toArray, List.set_cons_zero, List.set_cons_succ]
    refine quiet_yes 54 (v := ?_) rfl (by kernel_rfl) ?hy54b ?rest54b
    case hy54b => (intro W hW; clear hW; go_simp; first | done | with_reducible rfl)
    try simp only [Act.put, List.setIfInBounds_toArray, List.set_cons_zero, List.set_cons_succ]
    refine quiet_yes 55 (v := ?_) rfl (by kernel_rfl) ?hy55b ?rest55b
    case hy55b => (intro W hW; clear hW; go_simp; first | done | with_reducible rfl)
    try simp only [Act.put, List.setIfInBounds_toArray, List.set_cons_zero, List.set_cons_succ]
    refine quiet_yes 56 (v := ?_) rfl (by kernel_rfl) ?hy56b ?rest56b
    case hy56b => (intro W hW; clear hW; go_simp; first | done | with_reducible rfl)
    try simp only [Act.put, List.setIfInBounds_toArray, List.set_cons_zero, List.set_cons_succ]
    refine quiet_yes 8 (v := ?_) rfl (by kernel_rfl) ?hy8b ?rest8b
    case hy8b => (intro W hW; clear hW; go_simp; first | done | with_reducible rfl)
    try simp only [Act.put, List.setIfInBounds_toArray, List.set_cons_zero, List.set_cons_succ]
    refine wpQuiet_nil ?_
    intro w9 hw9
    have B9 := hid (B1.out.trans (hw9.mono B1.out.size))
    clear hw9
    go_wp2_with fail
    refine wp_region_class (fun V => Below w9.heap.size w9 V) (by kernel_rfl) (by kernel_rfl) (below_drewQ (Below.refl _ _)) ?_
    refine quiet_yes 57 (v := ?_) rfl (by kernel_rfl) ?hy57b ?rest57b
    case hy57b => (intro W hW; clear hW; go_simp; first | done | with_reducible rfl)
    try simp only [Act.put, List.setIfInBounds_toArray, List.set_cons_zero, List.set_cons_succ]
    refine quiet_yes 58 (v := ?_) rfl (by kernel_rfl) ?hy58b ?rest58b
    case hy58b => (intro W hW; clear hW; go_simp; first | done | with_reducible rfl)
    try simp only [Act.put, List.setIfInBounds_toArray, List.set_cons_zero, List.set_cons_succ]
    refine quiet_yes 59 (v := ?_) rfl (by kernel_rfl) ?hy59b ?rest59b
    case hy59b => (intro W hW; clear hW; go_simp; first | done | with_reducible rfl)
    try simp only [Act.put, List.setIfInBounds_toArray, List.set_cons_zero, List.set_cons_succ]
    refine quiet_yes 60 (v := .bool f1) rfl (by kernel_rfl) ?hy60b ?rest60b
    case hy60b => (intro W hW; (go_simp; go_at_call 28; (with_reducible refine (HF1.out W (B9.out.trans (hW.mono B9.out.size))).mono ?_); rintro e w' ⟨rfl, rfl⟩; exact ⟨rfl, hW⟩))
    try simp only [Act.put, List.setIfInBounds_toArray, List.set_cons_zero, List.set_cons_succ]
    refine quiet_yes 61 (v := .int .i64 y1) rfl (by kernel_rfl) ?hy61b ?rest61b
    case hy61b => (intro W hW; (go_simp; go_at_call 24; (with_reducible refine (Oy1.out W).mono ?_); rintro e w' ⟨rfl, rfl⟩; exact ⟨rfl, hW⟩))
    try simp only [Act.put, List.setIfInBounds_toArray, List.set_cons_zero, List.set_cons_succ]
    refine quiet_yes 62 (v := ?_) rfl (by kernel_rfl) ?hy62b ?rest62b
    case hy62b => (intro W hW; clear hW; go_simp; first | done | with_reducible rfl)
    try simp only [Act.put, List.setIfInBounds_toArray, List.set_cons_zero, List.set_cons_succ]
    refine quiet_yes 63 (v := ?_) rfl (by kernel_rfl) ?hy63b ?rest63b
    case hy63b => (intro W hW; clear hW; go_simp; first | done | with_reducible rfl)
    try simp only [Act.put, List.setIfInBounds_toArray, List.set_cons_zero, List.set_cons_succ]
    refine quiet_yes 64 (v := ?_) rfl (by kernel_rfl) ?hy64b ?rest64b
    case hy64b => (intro W hW; clear hW; go_simp; first | done | with_reducible rfl)
    try simp only [Act.put, List.setIfInBounds_toArray, List.set_cons_zero, List.set_cons_succ]
    refine quiet_yes 65 (v := .bool f2) rfl (by kernel_rfl) ?hy65b ?rest65b
    case hy65b => (intro W hW; (go_simp; go_at_call 28; (with_reducible refine (HF2.out W (B9.out.trans (hW.mono B9.out.size))).mono ?_); rintro e w' ⟨rfl, rfl⟩; exact ⟨rfl, hW⟩))
    try simp only [Act.put, List.setIfInBounds_toArray, List.set_cons_zero, List.set_cons_succ]
    refine quiet_yes 66 (v := .int .i64 y2) rfl (by kernel_rfl) ?hy66b ?rest66b
    case hy66b => (intro W hW; (go_simp; go_at_call 24; (with_reducible refine (Oy2.out W).mono ?_); rintro e w' ⟨rfl, rfl⟩; exact ⟨rfl, hW⟩))
    try simp only [Act.put, List.setIfInBounds_toArray, List.set_cons_zero, List.set_cons_succ]
    refine quiet_yes 67 (v := ?_) rfl (by kernel_rfl) ?hy67b ?rest67b
    case hy67b => (intro W hW; clear hW; go_simp; first | done | with_reducible rfl)
    try simp only [Act.put, List.setIfInBounds_toArray, List.set_cons_zero, List.set_cons_succ]
    refine quiet_yes 68 (v := ?_) rfl (by kernel_rfl) ?hy68b ?rest68b
    case hy68b => (intro W hW; clear hW; go_simp; first | done | with_reducible rfl)
    try simp only [Act.put, List.setIfInBounds_toArray, List.set_cons_zero, List.set_cons_succ]
    refine quiet_yes 69 (v := ?_) rfl (by kernel_rfl) ?hy69b ?rest69b
    case hy69b => (intro W hW; clear hW; go_simp; first | done | with_reducible rfl)
    try simp only [Act.put, List.setIfInBounds_toArray, List.set_cons_zero, List.set_cons_succ]
    refine quiet_yes 70 (v := .bool f3) rfl (by kernel_rfl) ?hy70b ?rest70b
    case hy70b => (intro W hW; (go_simp; go_at_call 28; (with_reducible refine (HF3.out W (B9.out.trans (hW.mono B9.out.size))).mono ?_); rintro e w' ⟨rfl, rfl⟩; exact ⟨rfl, hW⟩))
    try simp only [Act.put, List.setIfInBounds_toArray, List.set_cons_zero, List.set_cons_succ]
    refine quiet_yes 71 (v := .int .i64 y3) rfl (by kernel_rfl) ?hy71b ?rest71b
    case hy71b => (intro W hW; (go_simp; go_at_call 24; (with_reducible refine (Oy3.out W).mono ?_); rintro e w' ⟨rfl, rfl⟩; exact ⟨rfl, hW⟩))
    try simp only [Act.put, List.setIfInBounds_toArray, List.set_cons_zero, List.set_cons_succ]
    refine quiet_yes 72 (v := ?_) rfl (by kernel_rfl) ?hy72b ?rest72b
    case hy72b => (intro W hW; clear hW; go_simp; first | done | with_reducible rfl)
    try simp only [Act.put, List.setIfInBounds_toArray, List.set_cons_zero, List.set_cons_succ]
    refine quiet_yes 73 (v := ?_) rfl (by kernel_rfl) ?hy73b ?rest73b
    case hy73b => (intro W hW; clear hW; go_simp; first | done | with_reducible rfl)
    try simp only [Act.put, List.setIfInBounds_toArray, List.set_cons_zero, List.set_cons_succ]
    refine quiet_yes 74 (v := ?_) rfl (by kernel_rfl) ?hy74b ?rest74b
    case hy74b => (intro W hW; clear hW; go_simp; first | done | with_reducible rfl)
    try simp only [Act.put, List.setIfInBounds_toArray, List.set_cons_zero, List.set_cons_succ]
    refine quiet_yes 75 (v := .bool f4) rfl (by kernel_rfl) ?hy75b ?rest75b
    case hy75b => (intro W hW; (go_simp; go_at_call 28; (with_reducible refine (HF4.out W (B9.out.trans (hW.mono B9.out.size))).mono ?_); rintro e w' ⟨rfl, rfl⟩; exact ⟨rfl, hW⟩))
    try simp only [Act.put, List.setIfInBounds_toArray, List.set_cons_zero, List.set_cons_succ]
    refine quiet_yes 76 (v := .int .i64 y4) rfl (by kernel_rfl) ?hy76b ?rest76b
    case hy76b => (intro W hW; (go_simp; go_at_call 24; (with_reducible refine (Oy4.out W).mono ?_); rintro e w' ⟨rfl, rfl⟩; exact ⟨rfl, hW⟩))
    try simp only [Act.put, List.setIfInBounds_toArray, List.set_cons_zero, List.set_cons_succ]
    refine quiet_yes 77 (v := ?_) rfl (by kernel_rfl) ?hy77b ?rest77b
    case hy77b => (intro W hW; clear hW; go_simp; first | done | with_reducible rfl)
    try simp only [Act.put, List.setIfInBounds_toArray, List.set_cons_zero, List.set_cons_succ]
    refine quiet_yes 78 (v := ?_) rfl (by kernel_rfl) ?hy78b ?rest78b
    case hy78b => (intro W hW; clear hW; go_simp; first | done | with_reducible rfl)
    try simp only [Act.put, List.setIfInBounds_toArray, List.set_cons_zero, List.set_cons_succ]
    refine quiet_yes 79 (v := ?_) rfl (by kernel_rfl) ?hy79b ?rest79b
    case hy79b => (intro W hW; clear hW; go_simp; first | done | with_reducible rfl)
    try simp only [Act.put, List.setIfInBounds_toArray, List.set_cons_zero, List.set_cons_succ]
    refine quiet_yes 80 (v := .bool f5) rfl (by kernel_rfl) ?hy80b ?rest80b
    case hy80b => (intro W hW; (go_simp; go_at_call 28; (with_reducible refine (HF5.out W (B9.out.trans (hW.mono B9.out.size))).mono ?_); rintro e w' ⟨rfl, rfl⟩; exact ⟨rfl, hW⟩))
    try simp only [Act.put, List.setIfInBounds_toArray, List.set_cons_zero, List.set_cons_succ]
    refine quiet_yes 81 (v := .int .i64 y5) rfl (by kernel_rfl) ?hy81b ?rest81b
    case hy81b => (intro W hW; (go_simp; go_at_call 24; (with_reducible refine (Oy5.out W).mono ?_); rintro e w' ⟨rfl, rfl⟩; exact ⟨rfl, hW⟩))
    try simp only [Act.put, List.setIfInBounds_toArray, List.set_cons_zero, List.set_cons_succ]
    refine quiet_yes 82 (v := ?_) rfl (by kernel_rfl) ?hy82b ?rest82b
    case hy82b => (intro W hW; clear hW; go_simp; first | done | with_reducible rfl)
    try simp only [Act.put, List.setIfInBounds_toArray, List.set_cons_zero, List.set_cons_succ]
    refine quiet_yes 2 (v := ?_) rfl (by kernel_rfl) ?hy2b ?rest2b
    case hy2b => (intro W hW; clear hW; go_simp; first | done | with_reducible rfl)
    try simp only [Act.put, List.setIfInBounds_toArray, List.set_cons_zero, List.set_cons_succ]
    refine wpQuiet_nil ?_
    intro wa hwa
    have Ba := hid (B9.out.trans (hwa.mono B9.out.size))
    clear hwa
    go_wp2_with fail
    go_ret
    refine ⟨?_, Ba.out⟩
    have h1 := HPT.out
    have h2 := HTE.out
    refine congrArg (fun n => Ending.returned (Value.int .i64 n)) (?_ : _ = P)
    have e4 : M.one false 4 = 0 := rfl
    have e5 : M.one (tk && !false) 1 = M.one tk 1 := by cases tk <;> rfl
    rw [e4, e5] at h1
    rw [IntWalk.i64_in (3 * x1) (by omega)]
    rw [IntWalk.i64_in (3 * x1 + x2) (by omega)]
    rw [IntWalk.i64_in (2 * x3) (by omega)]
    rw [IntWalk.i64_in (3 * x1 + x2 + 2 * x3) (by omega)]
    rw [IntWalk.i64_in (M.one tk 1 + (3 * x1 + x2 + 2 * x3)) (by omega)]
    rw [IntWalk.i64_in (M.one tk 1 + (3 * x1 + x2 + 2 * x3) + y1) (by omega)]
    rw [IntWalk.i64_in (M.one tk 1 + (3 * x1 + x2 + 2 * x3) + y1 + y2) (by omega)]
    rw [IntWalk.i64_in (M.one tk 1 + (3 * x1 + x2 + 2 * x3) + y1 + y2 + y3) (by omega)]
    rw [IntWalk.i64_in (M.one tk 1 + (3 * x1 + x2 + 2 * x3) + y1 + y2 + y3 + y4) (by omega)]
    rw [IntWalk.i64_in (M.one tk 1 + (3 * x1 + x2 + 2 * x3) + y1 + y2 + y3 + y4 + y5) (by omega)]
    omega
  · go_wp2_with fail
    refine wp_region_class (fun V => Below w1.heap.size w1 V) (by kernel_rfl) (by kernel_rfl) (below_drewQ (Below.refl _ _)) ?_
    refine quiet_yes 33 (v := ?_) rfl (by kernel_rfl) ?hy33a ?rest33a
    case hy33a => (intro W hW; clear hW; go_simp; first | done | with_reducible rfl)
    try simp only [Act.put, List.setIfInBounds_toArray, List.set_cons_zero, List.set_cons_succ]
    refine quiet_yes 34 (v := ?_) rfl (by kernel_rfl) ?hy34a ?rest34a
    case hy34a => (intro W hW; clear hW; go_simp; first | done | with_reducible rfl)
    try simp only [Act.put, List.setIfInBounds_toArray, List.set_cons_zero, List.set_cons_succ]
    refine quiet_yes 35 (v := ?_) rfl (by kernel_rfl) ?hy35a ?rest35a
    case hy35a => (intro W hW; clear hW; go_simp; first | done | with_reducible rfl)
    try simp only [Act.put, List.setIfInBounds_toArray, List.set_cons_zero, List.set_cons_succ]
    refine quiet_if 36 (ok) (v := ?_) rfl (by cases ok <;> kernel_rfl) ?hy36a ?rest36a
    case hy36a => (intro hg W hW; subst hg; clear hW; go_simp; first | done | with_reducible rfl)
    try simp only [Act.put, List.setIfInBounds_toArray, List.set_cons_zero, List.set_cons_succ]
    refine quiet_if 37 (ok) (v := .bool (decide ((0 : Int) < wn))) rfl (by cases ok <;> kernel_rfl) ?hy37a ?rest37a
    case hy37a => (intro hg W hW; subst hg; clear hW; simp only [cond_true]; go_simp; first | done | with_reducible rfl)
    try simp only [Act.put, List.setIfInBounds_toArray, List.set_cons_zero, List.set_cons_succ]
    refine quiet_yes 38 (v := .bool c1) rfl (by kernel_rfl) ?hy38a ?rest38a
    case hy38a => (intro W hW; clear hW; rw [Hc1.out]; cases ok <;> (go_simp; first | done | with_reducible rfl))
    try simp only [Act.put, List.setIfInBounds_toArray, List.set_cons_zero, List.set_cons_succ]
    refine quiet_yes 39 (v := .int .i64 x1) rfl (by kernel_rfl) ?hy39a ?rest39a
    case hy39a => (intro W hW; (go_simp; go_at_call 24; (with_reducible refine (Ox1.out W).mono ?_); rintro e w' ⟨rfl, rfl⟩; exact ⟨rfl, hW⟩))
    try simp only [Act.put, List.setIfInBounds_toArray, List.set_cons_zero, List.set_cons_succ]
    refine quiet_yes 40 (v := ?_) rfl (by kernel_rfl) ?hy40a ?rest40a
    case hy40a => (intro W hW; clear hW; go_simp; first | done | with_reducible rfl)
    try simp only [Act.put, List.setIfInBounds_toArray, List.set_cons_zero, List.set_cons_succ]
    refine quiet_yes 41 (v := ?_) rfl (by kernel_rfl) ?hy41a ?rest41a
    case hy41a => (intro W hW; clear hW; go_simp; first | done | with_reducible rfl)
    try simp only [Act.put, List.setIfInBounds_toArray, List.set_cons_zero, List.set_cons_succ]
    refine quiet_yes 42 (v := ?_) rfl (by kernel_rfl) ?hy42a ?rest42a
    case hy42a => (intro W hW; clear hW; go_simp; first | done | with_reducible rfl)
    try simp only [Act.put, List.setIfInBounds_toArray, List.set_cons_zero, List.set_cons_succ]
    refine quiet_yes 43 (v := ?_) rfl (by kernel_rfl) ?hy43a ?rest43a
    case hy43a => (intro W hW; have f0 := HKK.out W (B1.out.trans (hW.mono B1.out.size)); clear hW; go_simp; first | done | with_reducible rfl)
    try simp only [Act.put, List.setIfInBounds_toArray, List.set_cons_zero, List.set_cons_succ]
    refine quiet_yes 44 (v := .bool c2) rfl (by kernel_rfl) ?hy44a ?rest44a
    case hy44a => (intro W hW; (go_simp; go_at_call 26; (with_reducible refine (HK2.out W).mono ?_); rintro e w' ⟨rfl, rfl⟩; exact ⟨rfl, hW⟩))
    try simp only [Act.put, List.setIfInBounds_toArray, List.set_cons_zero, List.set_cons_succ]
    refine quiet_yes 45 (v := .int .i64 x2) rfl (by kernel_rfl) ?hy45a ?rest45a
    case hy45a => (intro W hW; (go_simp; go_at_call 24; (with_reducible refine (Ox2.out W).mono ?_); rintro e w' ⟨rfl, rfl⟩; exact ⟨rfl, hW⟩))
    try simp only [Act.put, List.setIfInBounds_toArray, List.set_cons_zero, List.set_cons_succ]
    refine quiet_yes 46 (v := ?_) rfl (by kernel_rfl) ?hy46a ?rest46a
    case hy46a => (intro W hW; clear hW; go_simp; first | done | with_reducible rfl)
    try simp only [Act.put, List.setIfInBounds_toArray, List.set_cons_zero, List.set_cons_succ]
    refine quiet_yes 47 (v := ?_) rfl (by kernel_rfl) ?hy47a ?rest47a
    case hy47a => (intro W hW; clear hW; go_simp; first | done | with_reducible rfl)
    try simp only [Act.put, List.setIfInBounds_toArray, List.set_cons_zero, List.set_cons_succ]
    refine quiet_yes 48 (v := .bool ns) rfl (by kernel_rfl) ?hy48a ?rest48a
    case hy48a => (intro W hW; clear hW; rw [Hns.out]; go_simp; first | done | with_reducible rfl)
    try simp only [Act.put, List.setIfInBounds_toArray, List.set_cons_zero, List.set_cons_succ]
    refine quiet_yes 49 (v := ?_) rfl (by kernel_rfl) ?hy49a ?rest49a
    case hy49a => (intro W hW; clear hW; go_simp; first | done | with_reducible rfl)
    try simp only [Act.put, List.setIfInBounds_toArray, List.set_cons_zero, List.set_cons_succ]
    refine quiet_if 50 (ns) (v := ?_) rfl (by cases ns <;> kernel_rfl) ?hy50a ?rest50a
    case hy50a => (intro hg W hW; subst hg; clear hW; go_simp; first | done | with_reducible rfl)
    try simp only [Act.put, List.setIfInBounds_toArray, List.set_cons_zero, List.set_cons_succ]
    refine quiet_if 51 (ns) (v := .bool pl) rfl (by cases ns <;> kernel_rfl) ?hy51a ?rest51a
    case hy51a => (intro hg W hW; subst hg; simp only [cond_true]; (go_simp; go_at_call 27; (with_reducible refine (HPl.out W).mono ?_); rintro e w' ⟨rfl, rfl⟩; exact ⟨rfl, hW⟩))
    try simp only [Act.put, List.setIfInBounds_toArray, List.set_cons_zero, List.set_cons_succ]
    refine quiet_yes 52 (v := .bool c3) rfl (by kernel_rfl) ?hy52a ?rest52a
    case hy52a => (intro W hW; clear hW; rw [Hc3.out]; cases ns <;> (go_simp; first | done | with_reducible rfl))
    try simp only [Act.put, List.setIfInBounds_toArray, List.set_cons_zero, List.set_cons_succ]
    refine quiet_yes 53 (v := .int .i64 x3) rfl (by kernel_rfl) ?hy53a ?rest53a
    case hy53a => (intro W hW; (go_simp; go_at_call 24; (with_reducible refine (Ox3.out W).mono ?_); rintro e w' ⟨rfl, rfl⟩; exact ⟨rfl, hW⟩))
    try simp only [Act.put, List.setIfInBounds_toArray, List.set_cons_zero, List.set_cons_succ]
    refine quiet_yes 54 (v := ?_) rfl (by kernel_rfl) ?hy54a ?rest54a
    case hy54a => (intro W hW; clear hW; go_simp; first | done | with_reducible rfl)
    try simp only [Act.put, List.setIfInBounds_toArray, List.set_cons_zero, List.set_cons_succ]
    refine quiet_yes 55 (v := ?_) rfl (by kernel_rfl) ?hy55a ?rest55a
    case hy55a => (intro W hW; clear hW; go_simp; first | done | with_reducible rfl)
    try simp only [Act.put, List.setIfInBounds_toArray, List.set_cons_zero, List.set_cons_succ]
    refine quiet_yes 56 (v := ?_) rfl (by kernel_rfl) ?hy56a ?rest56a
    case hy56a => (intro W hW; clear hW; go_simp; first | done | with_reducible rfl)
    try simp only [Act.put, List.setIfInBounds_toArray, List.set_cons_zero, List.set_cons_succ]
    refine quiet_yes 8 (v := ?_) rfl (by kernel_rfl) ?hy8a ?rest8a
    case hy8a => (intro W hW; clear hW; go_simp; first | done | with_reducible rfl)
    try simp only [Act.put, List.setIfInBounds_toArray, List.set_cons_zero, List.set_cons_succ]
    refine wpQuiet_nil ?_
    intro w9 hw9
    have B9 := hid (B1.out.trans (hw9.mono B1.out.size))
    clear hw9
    go_wp2_with fail
    refine wp_region_class (fun V => Below w9.heap.size w9 V) (by kernel_rfl) (by kernel_rfl) (below_drewQ (Below.refl _ _)) ?_
    refine quiet_yes 57 (v := ?_) rfl (by kernel_rfl) ?hy57a ?rest57a
    case hy57a => (intro W hW; clear hW; go_simp; first | done | with_reducible rfl)
    try simp only [Act.put, List.setIfInBounds_toArray, List.set_cons_zero, List.set_cons_succ]
    refine quiet_yes 58 (v := ?_) rfl (by kernel_rfl) ?hy58a ?rest58a
    case hy58a => (intro W hW; clear hW; go_simp; first | done | with_reducible rfl)
    try simp only [Act.put, List.setIfInBounds_toArray, List.set_cons_zero, List.set_cons_succ]
    refine quiet_yes 59 (v := ?_) rfl (by kernel_rfl) ?hy59a ?rest59a
    case hy59a => (intro W hW; clear hW; go_simp; first | done | with_reducible rfl)
    try simp only [Act.put, List.setIfInBounds_toArray, List.set_cons_zero, List.set_cons_succ]
    refine quiet_yes 60 (v := .bool f1) rfl (by kernel_rfl) ?hy60a ?rest60a
    case hy60a => (intro W hW; (go_simp; go_at_call 28; (with_reducible refine (HF1.out W (B9.out.trans (hW.mono B9.out.size))).mono ?_); rintro e w' ⟨rfl, rfl⟩; exact ⟨rfl, hW⟩))
    try simp only [Act.put, List.setIfInBounds_toArray, List.set_cons_zero, List.set_cons_succ]
    refine quiet_yes 61 (v := .int .i64 y1) rfl (by kernel_rfl) ?hy61a ?rest61a
    case hy61a => (intro W hW; (go_simp; go_at_call 24; (with_reducible refine (Oy1.out W).mono ?_); rintro e w' ⟨rfl, rfl⟩; exact ⟨rfl, hW⟩))
    try simp only [Act.put, List.setIfInBounds_toArray, List.set_cons_zero, List.set_cons_succ]
    refine quiet_yes 62 (v := ?_) rfl (by kernel_rfl) ?hy62a ?rest62a
    case hy62a => (intro W hW; clear hW; go_simp; first | done | with_reducible rfl)
    try simp only [Act.put, List.setIfInBounds_toArray, List.set_cons_zero, List.set_cons_succ]
    refine quiet_yes 63 (v := ?_) rfl (by kernel_rfl) ?hy63a ?rest63a
    case hy63a => (intro W hW; clear hW; go_simp; first | done | with_reducible rfl)
    try simp only [Act.put, List.setIfInBounds_toArray, List.set_cons_zero, List.set_cons_succ]
    refine quiet_yes 64 (v := ?_) rfl (by kernel_rfl) ?hy64a ?rest64a
    case hy64a => (intro W hW; clear hW; go_simp; first | done | with_reducible rfl)
    try simp only [Act.put, List.setIfInBounds_toArray, List.set_cons_zero, List.set_cons_succ]
    refine quiet_yes 65 (v := .bool f2) rfl (by kernel_rfl) ?hy65a ?rest65a
    case hy65a => (intro W hW; (go_simp; go_at_call 28; (with_reducible refine (HF2.out W (B9.out.trans (hW.mono B9.out.size))).mono ?_); rintro e w' ⟨rfl, rfl⟩; exact ⟨rfl, hW⟩))
    try simp only [Act.put, List.setIfInBounds_toArray, List.set_cons_zero, List.set_cons_succ]
    refine quiet_yes 66 (v := .int .i64 y2) rfl (by kernel_rfl) ?hy66a ?rest66a
    case hy66a => (intro W hW; (go_simp; go_at_call 24; (with_reducible refine (Oy2.out W).mono ?_); rintro e w' ⟨rfl, rfl⟩; exact ⟨rfl, hW⟩))
    try simp only [Act.put, List.setIfInBounds_toArray, List.set_cons_zero, List.set_cons_succ]
    refine quiet_yes 67 (v := ?_) rfl (by kernel_rfl) ?hy67a ?rest67a
    case hy67a => (intro W hW; clear hW; go_simp; first | done | with_reducible rfl)
    try simp only [Act.put, List.setIfInBounds_toArray, List.set_cons_zero, List.set_cons_succ]
    refine quiet_yes 68 (v := ?_) rfl (by kernel_rfl) ?hy68a ?rest68a
    case hy68a => (intro W hW; clear hW; go_simp; first | done | with_reducible rfl)
    try simp only [Act.put, List.setIfInBounds_toArray, List.set_cons_zero, List.set_cons_succ]
    refine quiet_yes 69 (v := ?_) rfl (by kernel_rfl) ?hy69a ?rest69a
    case hy69a => (intro W hW; clear hW; go_simp; first | done | with_reducible rfl)
    try simp only [Act.put, List.setIfInBounds_toArray, List.set_cons_zero, List.set_cons_succ]
    refine quiet_yes 70 (v := .bool f3) rfl (by kernel_rfl) ?hy70a ?rest70a
    case hy70a => (intro W hW; (go_simp; go_at_call 28; (with_reducible refine (HF3.out W (B9.out.trans (hW.mono B9.out.size))).mono ?_); rintro e w' ⟨rfl, rfl⟩; exact ⟨rfl, hW⟩))
    try simp only [Act.put, List.setIfInBounds_toArray, List.set_cons_zero, List.set_cons_succ]
    refine quiet_yes 71 (v := .int .i64 y3) rfl (by kernel_rfl) ?hy71a ?rest71a
    case hy71a => (intro W hW; (go_simp; go_at_call 24; (with_reducible refine (Oy3.out W).mono ?_); rintro e w' ⟨rfl, rfl⟩; exact ⟨rfl, hW⟩))
    try simp only [Act.put, List.setIfInBounds_toArray, List.set_cons_zero, List.set_cons_succ]
    refine quiet_yes 72 (v := ?_) rfl (by kernel_rfl) ?hy72a ?rest72a
    case hy72a => (intro W hW; clear hW; go_simp; first | done | with_reducible rfl)
    try simp only [Act.put, List.setIfInBounds_toArray, List.set_cons_zero, List.set_cons_succ]
    refine quiet_yes 73 (v := ?_) rfl (by kernel_rfl) ?hy73a ?rest73a
    case hy73a => (intro W hW; clear hW; go_simp; first | done | with_reducible rfl)
    try simp only [Act.put, List.setIfInBounds_toArray, List.set_cons_zero, List.set_cons_succ]
    refine quiet_yes 74 (v := ?_) rfl (by kernel_rfl) ?hy74a ?rest74a
    case hy74a => (intro W hW; clear hW; go_simp; first | done | with_reducible rfl)
    try simp only [Act.put, List.setIfInBounds_toArray, List.set_cons_zero, List.set_cons_succ]
    refine quiet_yes 75 (v := .bool f4) rfl (by kernel_rfl) ?hy75a ?rest75a
    case hy75a => (intro W hW; (go_simp; go_at_call 28; (with_reducible refine (HF4.out W (B9.out.trans (hW.mono B9.out.size))).mono ?_); rintro e w' ⟨rfl, rfl⟩; exact ⟨rfl, hW⟩))
    try simp only [Act.put, List.setIfInBounds_toArray, List.set_cons_zero, List.set_cons_succ]
    refine quiet_yes 76 (v := .int .i64 y4) rfl (by kernel_rfl) ?hy76a ?rest76a
    case hy76a => (intro W hW; (go_simp; go_at_call 24; (with_reducible refine (Oy4.out W).mono ?_); rintro e w' ⟨rfl, rfl⟩; exact ⟨rfl, hW⟩))
    try simp only [Act.put, List.setIfInBounds_toArray, List.set_cons_zero, List.set_cons_succ]
    refine quiet_yes 77 (v := ?_) rfl (by kernel_rfl) ?hy77a ?rest77a
    case hy77a => (intro W hW; clear hW; go_simp; first | done | with_reducible rfl)
    try simp only [Act.put, List.setIfInBounds_toArray, List.set_cons_zero, List.set_cons_succ]
    refine quiet_yes 78 (v := ?_) rfl (by kernel_rfl) ?hy78a ?rest78a
    case hy78a => (intro W hW; clear hW; go_simp; first | done | with_reducible rfl)
    try simp only [Act.put, List.setIfInBounds_toArray, List.set_cons_zero, List.set_cons_succ]
    refine quiet_yes 79 (v := ?_) rfl (by kernel_rfl) ?hy79a ?rest79a
    case hy79a => (intro W hW; clear hW; go_simp; first | done | with_reducible rfl)
    try simp only [Act.put, List.setIfInBounds_toArray, List.set_cons_zero, List.set_cons_succ]
    refine quiet_yes 80 (v := .bool f5) rfl (by kernel_rfl) ?hy80a ?rest80a
    case hy80a => (intro W hW; (go_simp; go_at_call 28; (with_reducible refine (HF5.out W (B9.out.trans (hW.mono B9.out.size))).mono ?_); rintro e w' ⟨rfl, rfl⟩; exact ⟨rfl, hW⟩))
    try simp only [Act.put, List.setIfInBounds_toArray, List.set_cons_zero, List.set_cons_succ]
    refine quiet_yes 81 (v := .int .i64 y5) rfl (by kernel_rfl) ?hy81a ?rest81a
    case hy81a => (intro W hW; (go_simp; go_at_call 24; (with_reducible refine (Oy5.out W).mono ?_); rintro e w' ⟨rfl, rfl⟩; exact ⟨rfl, hW⟩))
    try simp only [Act.put, List.setIfInBounds_toArray, List.set_cons_zero, List.set_cons_succ]
    refine quiet_yes 82 (v := ?_) rfl (by kernel_rfl) ?hy82a ?rest82a
    case hy82a => (intro W hW; clear hW; go_simp; first | done | with_reducible rfl)
    try simp only [Act.put, List.setIfInBounds_toArray, List.set_cons_zero, List.set_cons_succ]
    refine quiet_yes 2 (v := ?_) rfl (by kernel_rfl) ?hy2a ?rest2a
    case hy2a => (intro W hW; clear hW; go_simp; first | done | with_reducible rfl)
    try simp only [Act.put, List.setIfInBounds_toArray, List.set_cons_zero, List.set_cons_succ]
    refine wpQuiet_nil ?_
    intro wa hwa
    have Ba := hid (B9.out.trans (hwa.mono B9.out.size))
    clear hwa
    go_wp2_with fail
    go_ret
    refine ⟨?_, Ba.out⟩
    have h1 := HPT.out
    have h2 := HTE.out
    refine congrArg (fun n => Ending.returned (Value.int .i64 n)) (?_ : _ = P)
    have e4 : M.one true 4 = 4 := rfl
    have e5 : M.one (tk && !true) 1 = 0 := by cases tk <;> rfl
    rw [e4, e5] at h1
    rw [IntWalk.i64_in (3 * x1) (by omega)]
    rw [IntWalk.i64_in (3 * x1 + x2) (by omega)]
    rw [IntWalk.i64_in (2 * x3) (by omega)]
    rw [IntWalk.i64_in (3 * x1 + x2 + 2 * x3) (by omega)]
    rw [IntWalk.i64_in (4 + (3 * x1 + x2 + 2 * x3)) (by omega)]
    rw [IntWalk.i64_in (4 + (3 * x1 + x2 + 2 * x3) + y1) (by omega)]
    rw [IntWalk.i64_in (4 + (3 * x1 + x2 + 2 * x3) + y1 + y2) (by omega)]
    rw [IntWalk.i64_in (4 + (3 * x1 + x2 + 2 * x3) + y1 + y2 + y3) (by omega)]
    rw [IntWalk.i64_in (4 + (3 * x1 + x2 + 2 * x3) + y1 + y2 + y3 + y4) (by omega)]
    rw [IntWalk.i64_in (4 + (3 * x1 + x2 + 2 * x3) + y1 + y2 + y3 + y4 + y5) (by omega)]
    omega
end Go.Proofs.YtkpnhggpcpjddaaGreatDoor

/-! The statement ScorePoints: its walk. -/
namespace Go.Proofs.YtkpnhggpcpjddaaGreatDoor
open Go.RowKit Go.Lib

set_option maxRecDepth 100000 in
set_option maxHeartbeats 1000000 in
theorem refPoints_any (A : Option Addr) (n c : Nat) (zs : List Int) (w : World) (hr : Rd w w.heap.size A n zs) (hc : n ≤ c) (hcm : c ≤ maxLen) (hs : n ≤ 65536) :
    Calls Tryz.prog 11 #[.slice A n c] w fun e w' => e = .returned (.int .i64 (M.points zs)) ∧ Below w.heap.size w w' := by
  by_cases hn : n = 512
  · subst hn
    obtain ⟨b, off, rfl, _, _⟩ := hr.2.2 (by decide)
    cases hz : M.zero zs with
    | false => exact refPoints_go b off c zs w hr hc hcm hz
    | true =>
      have HP := hid (M.points_zero hz)
      have HZ := hid (refZero_any (some ⟨b, off, none⟩) 512 c zs w w.heap.size hr (by decide))
      rw [hz] at HZ
      clear hr hc hcm hz
      go_enter Tryz.func11, Tryz.ntmps11
      go_wp2_with fail
      (with_reducible refine HZ.out.mono ?_)
      rintro e w1 ⟨rfl, rfl⟩
      go_wp2_with fail
      go_ret
      exact ⟨by rw [HP.out]; rfl, Below.refl _ _⟩
  · have HP := hid (M.points_no (zs := zs) (by rw [hr.len]; exact hn))
    have hn1 : ((n : Int) == 512) = false := by rw [beq_eq_false_iff_ne]; omega
    have hn2 : ((n : Int) != 512) = true := by rw [bne_iff_ne]; omega
    clear hr hc hcm hn
    go_enter Tryz.func11, Tryz.ntmps11
    go_wp2_with fail
    go_ret
    exact ⟨by rw [HP.out]; rfl, Below.refl _ _⟩

set_option maxRecDepth 100000 in
set_option maxHeartbeats 1000000 in
theorem refHead_any (A : Option Addr) (n c : Nat) (zs : List Int) (w : World) (hr : Rd w w.heap.size A n zs) (hc : n ≤ c) (hcm : c ≤ maxLen) (hs : n ≤ 65536) :
    Calls Tryz.prog 12 #[.slice A n c] w fun e w' => e = .returned (.bool (M.isHead zs)) ∧ Below w.heap.size w w' := by
  have HP := hid (refParse_any A n c zs w hr hc hcm hs)
  have HE := hid (show M.isHead zs = ((M.hparse zs).1 == 0) from rfl)
  unfold RefParseIs at HP
  clear hr hc hcm hs
  generalize (M.hparse zs).1 = k at *
  generalize (M.hparse zs).2 = h at *
  go_enter Tryz.func12, Tryz.ntmps12
  go_wp2_with fail
  (with_reducible refine HP.out.mono ?_)
  rintro e w1 ⟨A1, c1, rfl, hp, h1⟩
  have H1 := hid h1
  clear h1 hp HP
  have hst := store_new w1 h A1 h.parts.length c1
  go_wp2_with fail
  go_ret
  exact ⟨by rw [HE.out]; rfl, H1.out.alloc H1.out.size _⟩

set_option maxRecDepth 100000 in
set_option maxHeartbeats 1000000 in
theorem refSus_any (A : Option Addr) (n c : Nat) (zs : List Int) (w : World) (hr : Rd w w.heap.size A n zs) (hc : n ≤ c) (hcm : c ≤ maxLen) (hs : n ≤ 65536) :
    Calls Tryz.prog 13 #[.slice A n c] w fun e w' => e = .returned (.bool (M.isSus zs)) ∧ Below w.heap.size w w' := by
  have HH := hid (refHead_any A n c zs w hr hc hcm hs)
  have HP := hid (fun (W : World) (hW : Below w.heap.size w W) => refPoints_any A n c zs W ((hr.below hW).more hW.size) hc hcm hs)
  have HE := hid (show M.isSus zs = (!M.isHead zs && decide (6 ≤ M.points zs)) from rfl)
  clear hr hc hcm hs
  generalize M.isHead zs = b at *
  generalize M.points zs = p at *
  go_enter Tryz.func13, Tryz.ntmps13
  go_wp2_with fail
  (with_reducible refine HH.out.mono ?_)
  rintro e w1 ⟨rfl, h1⟩
  have H1 := hid h1
  clear h1 HH
  cases b
  · go_wp2_with fail
    (with_reducible refine (HP.out _ H1.out).mono ?_)
    rintro e w2 ⟨rfl, h2⟩
    have H2 := hid (H1.out.trans (h2.mono H1.out.size))
    clear h2
    go_wp2_with fail
    go_ret
    exact ⟨by rw [HE.out]; rfl, H2.out⟩
  · go_wp2_with fail
    go_ret
    exact ⟨by rw [HE.out]; rfl, H1.out⟩

set_option maxRecDepth 100000 in
set_option maxHeartbeats 1000000 in
theorem scTells_any (A : Option Addr) (n c : Nat) (zs : List Int) (w : World) (hr : Rd w w.heap.size A n zs) (hc : n ≤ c) (hcm : c ≤ maxLen) (hs : n ≤ 65536) (hmg : MG w) :
    Calls Tryz.prog 5 #[.slice A n c] w fun e w' => e = .returned (.bool true) ∧ Below w.heap.size w w' := by
  have HR := hid (fun (W : World) (hW : Below w.heap.size w W) => (hr.below hW).more hW.size)
  have HMG := hid (fun (W : World) (hW : Below w.heap.size w W) => hmg.later hW)
  clear hr hmg
  go_enter Tryz.func5, Tryz.ntmps5
  go_wp2_with fail
  (with_reducible refine (points_any A n c zs w (HR.out _ (Below.refl _ _)) hc hcm (HMG.out _ (Below.refl _ _))).mono ?_)
  rintro e w1 ⟨rfl, h1⟩
  have B1 := hid h1
  clear h1
  go_wp2_with fail
  (with_reducible refine (refPoints_any A n c zs w1 (HR.out _ B1.out) hc hcm hs).mono ?_)
  rintro e w2 ⟨rfl, h2⟩
  have B2 := hid (B1.out.trans (h2.mono B1.out.size))
  clear h2 B1
  generalize M.points zs = pz
  go_wp2_with fail
  (with_reducible refine (isHead_any A n c zs w2 (HR.out _ B2.out) hc hcm hs (HMG.out _ B2.out)).mono ?_)
  rintro e w3 ⟨rfl, h3⟩
  have B3 := hid (B2.out.trans (h3.mono B2.out.size))
  clear h3 B2
  go_wp2_with fail
  (with_reducible refine (refHead_any A n c zs w3 (HR.out _ B3.out) hc hcm hs).mono ?_)
  rintro e w4 ⟨rfl, h4⟩
  have B4 := hid (B3.out.trans (h4.mono B3.out.size))
  clear h4 B3
  generalize M.isHead zs = bz
  go_wp2_with fail
  (with_reducible refine (isSus_any A n c zs w4 (HR.out _ B4.out) hc hcm hs (HMG.out _ B4.out)).mono ?_)
  rintro e w5 ⟨rfl, h5⟩
  have B5 := hid (B4.out.trans (h5.mono B4.out.size))
  clear h5 B4
  go_wp2_with fail
  (with_reducible refine (refSus_any A n c zs w5 (HR.out _ B5.out) hc hcm hs).mono ?_)
  rintro e w6 ⟨rfl, h6⟩
  have B6 := hid (B5.out.trans (h6.mono B5.out.size))
  clear h6 B5
  generalize M.isSus zs = sz
  go_wp2_with fail
  go_ret
  exact ⟨by simp, B6.out⟩

set_option maxRecDepth 100000 in
set_option maxHeartbeats 1000000 in
theorem scorePoints_any (A : Option Addr) (n c : Nat) (zs : List Int) (A1 : Option Addr) (n1 c1 : Nat) (cs : List Int) (A2 : Option Addr) (n2 c2 : Nat) (ds : List Int) (seal_ : Bool) (k : Int) (hk : 0 ≤ k ∧ k ≤ 255) (w : World)
    (hr : Rd w w.heap.size A n zs) (hc : n ≤ c) (hcm : c ≤ maxLen) (hr1 : Rd w w.heap.size A1 n1 cs) (hc1 : n1 ≤ c1) (hcm1 : c1 ≤ maxLen) (hrc1 : n1 ≤ 140737488355328) (hr2 : Rd w w.heap.size A2 n2 ds) (hc2 : n2 ≤ c2) (hcm2 : c2 ≤ maxLen) (hmg : MG w) :
    Calls Tryz.prog 3 #[.slice A n c, .slice A1 n1 c1, .slice A2 n2 c2, .bool seal_, .int .u8 k] w fun e w' => e = .returned (.bool true) ∧ Below w.heap.size w w' := by
  have HMG := hid (fun (W : World) (hW : Below w.heap.size w W) => hmg.later hW)
  have HKn := hid (fun (W : World) (hW : Below w.heap.size w W) => scKnown_any W (hmg.later hW))
  have HBt := hid (fun (W : World) (hW : Below w.heap.size w W) => bent_any A1 n1 c1 cs A2 n2 c2 ds seal_ W ((hr1.below hW).more hW.size) hc1 hcm1 ((hr2.below hW).more hW.size) hc2 hcm2)
  have HTl := hid (fun (hn : n ≤ 600) (W : World) (hW : Below w.heap.size w W) => scTells_any A n c zs W ((hr.below hW).more hW.size) hc hcm (by omega) (HMG.out W hW))
  have HBx := hid (fun (g : Nat) (W : World) (hb : B512 W g) (hm : MG W) => show Calls Tryz.prog 5 #[.slice (some ⟨g, 0, none⟩) 512 512] W (fun e w' => e = .returned (.bool true) ∧ Below W.heap.size W w') by
    obtain ⟨zs, hl, hz, ha⟩ := hb
    have hr := ha.rd hz (B := W.heap.size) ha.lt
    rw [hl] at hr
    exact scTells_any _ 512 512 zs W hr (Nat.le_refl _) (by decide) (by decide) hm)
  have HCb := hid hr1.bd
  have HBk := hid (fun (W : World) (hW : Below w.heap.size w W) => block_any A1 n1 c1 cs k W w.heap.size (hr1.below hW) hW.size hrc1 hk)
  clear hr hc hcm hr1 hc1 hcm1 hr2 hc2 hcm2 hmg hk
  by_cases h600 : n ≤ 600
  case neg =>
    have e1 : decide (600 < (n : Int)) = true := by rw [decide_eq_true_eq]; omega
    go_enter Tryz.func3, Tryz.ntmps3
    go_wp2_with fail
    (with_reducible refine (HKn.out _ (Below.refl _ _)).mono ?_)
    rintro e w1 ⟨rfl, h1⟩
    go_wp2_with fail
    go_ret
    exact ⟨rfl, h1⟩
  case pos =>
    have e1 : decide (600 < (n : Int)) = false := by rw [decide_eq_false_iff_not]; omega
    have H6 := hid h600
    clear h600
    go_enter Tryz.func3, Tryz.ntmps3
    go_wp2_with fail
    (with_reducible refine (HKn.out _ (Below.refl _ _)).mono ?_)
    rintro e w1 ⟨rfl, h1⟩
    have B1 := hid h1
    clear h1
    go_wp2_with fail
    (with_reducible refine (HTl.out H6.out w1 B1.out).mono ?_)
    rintro e w2 ⟨rfl, h2⟩
    have B2 := hid (B1.out.trans (h2.mono B1.out.size))
    clear h2 B1
    go_wp2_with fail
    (with_reducible refine (HBt.out w2 B2.out).mono ?_)
    rintro e w3 ⟨g, rfl, hg, hb, h3⟩
    have B3 := hid (B2.out.trans (h3.mono B2.out.size))
    have X3 := hid hb
    clear h3 B2 hg hb
    go_wp2_with fail
    (with_reducible refine (HBx.out g w3 X3.out (HMG.out _ B3.out)).mono ?_)
    rintro e w4 ⟨rfl, h4⟩
    have B4 := hid (B3.out.trans (h4.mono B3.out.size))
    clear h4 B3 X3
    go_wp2_with fail
    (with_reducible refine (HBk.out w4 B4.out).mono ?_)
    rintro e w5 ⟨g5, rfl, hg, ha, h5⟩
    have B5 := hid (B4.out.trans (h5.mono B4.out.size))
    have X5 := hid (B512.of_arr ha (M.block_len _ _) (M.block_bd _ HCb.out))
    clear h5 B4 hg ha
    go_wp2_with fail
    (with_reducible refine (HBx.out g5 w5 X5.out (HMG.out _ B5.out)).mono ?_)
    rintro e w6 ⟨rfl, h6⟩
    have B6 := hid (B5.out.trans (h6.mono B5.out.size))
    clear h6 B5 X5
    go_wp2_with fail
    go_ret
    exact ⟨rfl, B6.out⟩
end Go.Proofs.YtkpnhggpcpjddaaGreatDoor
