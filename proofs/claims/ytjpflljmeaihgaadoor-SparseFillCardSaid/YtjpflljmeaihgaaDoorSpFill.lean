/-
  SparseFill's walk.
-/
import Derived.Test.YtjpflljmeaihgaaDoorSpKnown
import Derived.Test.YtjpflljmeaihgaaDoorSpApp
import Derived.Test.YtjpflljmeaihgaaDoorSpLawParts
import Derived.Test.YtjpflljmeaihgaaDoorSpRefCheck
namespace Go.Proofs.YtjpflljmeaihgaaDoor
open Go.RowKit Go.Lib

namespace M
theorem walk_more {R R' : Int} (h : R ≤ R') : ∀ {l : List Pt} {e s : Int} {r : Int × Int}, walk R e s l = some r → walk R' e s l = some r
  | [], e, s, r, hw => hw
  | p :: l, e, s, r, hw => by
    unfold walk at hw ⊢
    split at hw
    · cases hw
    · rw [if_neg (by omega)]
      exact walk_more h hw
theorem check_more {l : List Pt} {m R R' : Int} (h : check l m R = 0) (h1 : R ≤ R') (h2 : R' ≤ 1099511627776) : check l m R' = 0 := by
  obtain ⟨a, b, c, e, hw⟩ := check_ok h
  rw [check_walk _ (by omega) (by omega), walk_more h1 hw]
  show (if m = m then (0 : Int) else 11) = 0
  rw [if_pos rfl]
theorem fileAt_filter {R : Nat} : ∀ {l : List Pt} {e s : Nat} {ef m : Int} {d : List Int}, walk R e s l = some (ef, m) → e ≤ R → (d.length : Int) = m - s → (∀ z ∈ d, z ≠ 0) → (fileAt R e l d).filter (· != 0) = d
  | [], e, s, ef, m, d, h, he, hd, hz => by
    injection h with h
    injection h with h1 h2
    have : d = [] := List.eq_nil_of_length_eq_zero (by omega)
    subst this
    unfold fileAt zeros
    rw [List.filter_eq_nil_iff]
    intro a ha
    rw [List.eq_of_mem_replicate ha]; decide
  | p :: l, e, s, ef, m, d, h, he, hd, hz => by
    unfold walk at h
    split at h
    · cases h
    · obtain ⟨a, ha⟩ : ∃ a : Nat, p.1 = a := ⟨p.1.toNat, by omega⟩
      obtain ⟨q, hq⟩ : ∃ q : Nat, p.2 = q := ⟨p.2.toNat, by omega⟩
      have hb := walk_bd (by omega) (by omega) h
      have ih := fileAt_filter (l := l) (e := a + q) (s := s + q) (ef := ef) (m := m) (d := d.drop q) (by rw [← h, ha, hq]; congr 1) (by omega) (by rw [List.length_drop]; omega) (fun z hz' => hz z (List.mem_of_mem_drop hz'))
      have h1 : (zeros (a - e)).filter (· != 0) = [] := by
        rw [List.filter_eq_nil_iff]
        intro x hx
        unfold zeros at hx
        rw [List.eq_of_mem_replicate hx]; decide
      have h2 : (d.take q).filter (· != 0) = d.take q := List.filter_eq_self.2 fun z hz' => by simpa using hz z (List.mem_of_mem_take hz')
      unfold fileAt
      rw [ha, hq]
      simp only [Int.toNat_natCast]
      rw [List.filter_append, List.filter_append, h1, h2, ih, List.nil_append, List.take_append_drop]
/-- The statement's bytes. -/
def dby (i : Nat) : Int := 1 + ((i % 200 : Nat) : Int)
def dbs (n : Nat) : List Int := (List.range n).map dby
theorem dbs_len (n : Nat) : (dbs n).length = n := by simp [dbs]
theorem dbs_succ (n : Nat) : dbs (n + 1) = dbs n ++ [dby n] := by simp [dbs, List.range_succ]
theorem dby_bd (i : Nat) : 1 ≤ dby i ∧ dby i ≤ 200 := by unfold dby; omega
theorem dbs_bd (n : Nat) : ∀ z ∈ dbs n, 1 ≤ z ∧ z ≤ 200 := by
  intro z hz
  obtain ⟨i, _, rfl⟩ := List.mem_map.1 hz
  exact dby_bd i
end M

set_option maxRecDepth 100000 in
set_option maxHeartbeats 4000000 in
theorem sparseFill_any (A : Option Addr) (n c : Nat) (zs : List Int) (kz : Int) (w : World) (hr : Rd w w.heap.size A n zs) (hn : n ≤ maxLen) (hk : 0 ≤ kz ∧ kz ≤ 255) (ht : EV w.heap.size w) :
    Calls Tryd.prog 4 #[.slice A n c, .int .u8 kz] w fun e w' => e = .returned (.bool true) ∧ Below w.heap.size w w' := by
  have HT := hid ht
  obtain ⟨j, hj⟩ : ∃ j : Int, kz % 9 = j := ⟨_, rfl⟩
  have hjb : 0 ≤ j ∧ j < 9 := by omega
  obtain ⟨j0, j1⟩ := hjb
  have HJ := hid hj
  have HC := hid (lawParts_any A n c zs w hr hn)
  obtain ⟨k0, k1⟩ := hk
  clear ht hr hj
  go_enter Tryd.func4, Tryd.ntmps4
  go_wp2_with fail
  (with_reducible refine HC.out.mono ?_)
  rintro e w1 ⟨v, l, m, en, rfl, ho1, hfew, hb1⟩
  obtain ⟨Al, cl, rfl, hrl, _⟩ := ho1.rd
  have HF := hid hfew
  have HRL := hid hrl
  have HB1 := hid hb1
  have HCK := hid (refCheck_any Al l.length cl l m en w1 hrl hfew.i64 (by have := hfew.len; omega))
  obtain ⟨m0, m1⟩ := hfew.n0
  obtain ⟨e0, e1⟩ := hfew.e0
  clear HC ho1 hrl hb1 hfew
  go_wp2_with fail
  (with_reducible refine HCK.out.mono ?_)
  rintro e w2 ⟨rfl, hb2⟩
  have HB2 := hid (HB1.out.trans (hb2.mono HB1.out.size))
  have HRL2 := hid ((HRL.out.below hb2).more hb2.size)
  clear HCK hb2 HRL
  by_cases hck : M.check l m en = 0
  case' neg =>
    have d1 : (M.check l m en != 0) = true := by simpa using hck
    have HKN := hid (known_any w.heap.size w2 HB2.out.size (HT.out.on HB2.out))
    clear hck
    go_wp2_with (go_at_call 10; (with_reducible refine HKN.out.mono ?_); rintro e w3 ⟨rfl, hb3⟩)
    go_ret
    exact ⟨rfl, HB2.out.trans (hb3.mono HB2.out.size)⟩
  case' pos =>
    have d1 : (M.check l m en != 0) = false := by simpa using hck
    obtain ⟨N, rfl⟩ : ∃ N : Nat, m = N := ⟨m.toNat, by omega⟩
    have HCK := hid hck
    have en0 := (M.check_ok hck).2.1
    clear hck m0
    go_wp2_with fail
    go_loopw [8, 9] (fun dv iv wr => ∃ i : Nat, iv = .int .i64 i ∧ i ≤ N ∧ Hid (OwnY wr w2.heap.size dv (M.dbs i)) ∧ Hid (Below w2.heap.size w2 wr)) (fun _ iv _ => N - (RowKit.intOf iv).toNat)
    case atStart => exact ⟨0, rfl, Nat.zero_le _, hid (OwnY.nil _ _), hid (Below.refl _ _)⟩
    case round =>
      obtain ⟨i, rfl, hi, HD, HB⟩ := hrel
      obtain ⟨Ad, cd, rfl, _, _⟩ := own_room HD.out
      have hbs := HB.out.size
      by_cases hlt : i < N
      · obtain ⟨u, hu⟩ : ∃ u : Nat, u = i % 200 := ⟨_, rfl⟩
        have hub : u ≤ 199 := by omega
        have hmod : Int.tmod (i : Int) 200 = (u : Int) := by rw [Int.tmod_eq_emod_of_nonneg (by omega)]; omega
        have HU := hid (show M.dby i = 1 + (u : Int) by unfold M.dby; rw [← hu])
        have hdl : (M.dbs i).length ≤ 1000000 := by rw [M.dbs_len]; omega
        obtain ⟨i1, hi1⟩ : ∃ i1, i1 = i + 1 := ⟨_, rfl⟩
        have HS := hid (show M.dbs i1 = M.dbs i ++ [1 + (u : Int)] by rw [hi1, M.dbs_succ, HU.out])
        have d2 : decide (i < N) = true := by rw [decide_eq_true_eq]; exact hlt
        have hz : 0 ≤ (1 + (u : Int)) ∧ (1 + (u : Int)) ≤ 255 := by omega
        have HZ := hid hz
        clear hu hz
        go_wp2_with (refine wpList_appY1 rfl (.tmp 31) (.tmp 36) rfl w2.heap.size _ (M.dbs i) (1 + (u : Int)) (by simp [Act.eval]) HD.out hbs HZ.out (by simp [Act.eval]) hdl ?_; intro v' w9 ho9 hb9 _)
        go_roundw
        case rel => exact ⟨i1, (by subst hi1; first | rfl | go_num), by omega, hid (by rw [HS.out]; exact ho9.out), hid (HB.out.trans hb9.out)⟩
        case measure => simp [RowKit.intOf] <;> omega
      · obtain rfl : i = N := by omega
        have d2 : decide (i < i) = false := by simp
        have hu8 : u8s (M.dbs i) := fun z hz => by have := M.dbs_bd i z hz; omega
        have HCM := hid (M.check_more HCK.out (R' := en + j) (by omega) (by omega))
        obtain ⟨R, hR⟩ : ∃ R : Nat, en + j = R := ⟨(en + j).toNat, by omega⟩
        have hRb : R ≤ 20000 := by omega
        rw [hR] at HCM
        obtain ⟨Ad', cd', hv', hrd, hcd⟩ := HD.out.rd hu8
        injection hv' with q1 q2 q3
        subst q1 q3
        rw [M.dbs_len] at hrd hcd q2 ⊢
        have HBW := hid (HB2.out.trans (HB.out.mono HB2.out.size))
        have HE := hid (expand_any Al l.length cl l R Ad i cd (M.dbs i) wr ((HRL2.out.below HB.out).more HB.out.size) HF.out.i64 (by have := HF.out.len; omega) hrd (by omega) hcd.1)
        have HD2 := hid hrd
        have HER := hid (show M.expandE l ((M.dbs i).length : Int) R = 0 by rw [M.dbs_len]; exact M.expandE_ok HCM.out (by omega))
        obtain ⟨_, _, _, ef, hw0⟩ := M.check_ok HCM.out
        have hw : M.walk (R : Int) ((0 : Nat) : Int) ((0 : Nat) : Int) l = some (ef, (i : Int)) := hw0
        have hli : ((M.dbs i).length : Int) = (i : Int) - ((0 : Nat) : Int) := by rw [M.dbs_len]; omega
        have HFB := hid (show M.expandB l (M.dbs i) R = M.file R l (M.dbs i) by rw [M.expandB_ok HER.out, Int.toNat_natCast])
        have HFL := hid (show (M.file R l (M.dbs i)).length = R from (M.fileAt_len hw (Nat.zero_le _) hli).trans (Nat.sub_zero R))
        have HFF := hid (show (M.file R l (M.dbs i)).filter (· != 0) = M.dbs i from M.fileAt_filter hw (Nat.zero_le _) hli (fun z hz => by have := M.dbs_bd i z hz; omega))
        have HFU := hid (show u8s (M.file R l (M.dbs i)) from M.fileAt_u8 hu8)
        have hds : (M.dbs i).length = i := M.dbs_len i
        unfold ExpandTo at HE
        rw [HFB.out, HER.out] at HE
        generalize M.file R l (M.dbs i) = F at *
        generalize M.dbs i = D at *
        clear hrd hu8 hw hw0 hli hlt hcd HD HER HFB HCM
        rw [q2]
        have hjj := HJ.out
        go_wp2_with fail
        (with_reducible refine HE.out.mono ?_)
        rintro e w5 ⟨v5, rfl, ho5, hb5⟩
        obtain ⟨A5, c5, rfl, hr5, _⟩ := ho5.rd HFU.out
        rw [HFL.out] at hr5 ⊢
        have HR5 := hid hr5
        have HB5 := hid (HBW.out.trans (hb5.mono HBW.out.size))
        have HD5 := hid ((HD2.out.below hb5).more hb5.size)
        clear ho5 hr5 hb5 HE HRL2 HD2
        go_wp2_with fail
        go_loopw [12, 13] (fun bv iv wr => ∃ (k : Nat), iv = .int .i64 k ∧ k ≤ R ∧ Hid (OwnY wr w5.heap.size bv ((F.take k).filter (· != 0))) ∧ Hid (Below w5.heap.size w5 wr)) (fun _ iv _ => R - (RowKit.intOf iv).toNat)
        case atStart => exact ⟨0, rfl, Nat.zero_le _, hid (OwnY.nil _ _), hid (Below.refl _ _)⟩
        case round =>
          obtain ⟨k, rfl, hk, HK, HBK⟩ := hrel
          obtain ⟨Ak, ck, rfl, _, _⟩ := own_room HK.out
          have hbk := HBK.out.size
          by_cases hlt : k < R
          · obtain ⟨b, off, z, rfl, hb, hz0, hz1, hz, hcz⟩ := (HR5.out.below HBK.out).at_ hlt
            have hfl : ((F.take k).filter (· != 0)).length ≤ 1000000 := by
              have h1 := List.length_filter_le (· != 0) (F.take k)
              rw [List.length_take] at h1
              omega
            have htk : F.take (k + 1) = F.take k ++ [z] := by
              obtain ⟨hkl, he⟩ := List.getElem?_eq_some_iff.1 hz
              rw [List.take_succ_eq_append_getElem hkl, he]
            obtain ⟨k1, hk1⟩ : ∃ k1, k1 = k + 1 := ⟨_, rfl⟩
            rw [← hk1] at htk
            have HTK := hid htk
            have d3 : decide (k < R) = true := by rw [decide_eq_true_eq]; exact hlt
            have HZ := hid (show 0 ≤ z ∧ z ≤ 255 from ⟨hz0, hz1⟩)
            clear hz htk hjj
            by_cases hzz : z = 0
            · have HN := hid (show (F.take k1).filter (· != 0) = (F.take k).filter (· != 0) by rw [HTK.out, List.filter_append, hzz]; simp)
              have d4 : (z != 0) = false := by rw [hzz]; rfl
              clear hzz
              by_cases hk0 : k = 0
              case' pos =>
                subst hk0
                simp only [Nat.add_zero] at hcz
              case' neg => have hkp : 0 < k := by omega
              all_goals
                go_wp2
                go_roundw
                case rel => exact ⟨k1, (by subst hk1; first | rfl | go_num), by omega, hid (by rw [HN.out]; exact HK.out), HBK⟩
                case measure => simp [RowKit.intOf] <;> omega
            · have HN := hid (show (F.take k1).filter (· != 0) = (F.take k).filter (· != 0) ++ [z] by rw [HTK.out, List.filter_append]; simp [hzz])
              have d4 : (z != 0) = true := by simpa using hzz
              clear hzz
              generalize (F.take k).filter (· != 0) = acc at *
              by_cases hk0 : k = 0
              case' pos =>
                subst hk0
                simp only [Nat.add_zero] at hcz
              case' neg => have hkp : 0 < k := by omega
              all_goals
                go_wp2_with (refine wpList_appY1 rfl (.tmp 60) (.tmp 65) rfl w5.heap.size _ acc z (by simp [Act.eval]) HK.out hbk HZ.out (by simp [Act.eval]) hfl ?_; intro v' w9 ho9 hb9 _)
                go_roundw
                case rel => exact ⟨k1, (by subst hk1; first | rfl | go_num), by omega, hid (by rw [HN.out]; exact ho9.out), hid (HBK.out.trans hb9.out)⟩
                case measure => simp [RowKit.intOf] <;> omega
          · obtain rfl : k = R := by omega
            have d3 : decide (k < k) = false := by simp
            have hK2 := HK.out
            have hft : (F.take k).filter (· != 0) = D := by rw [List.take_of_length_le (Nat.le_of_eq HFL.out)]; exact HFF.out
            rw [hft] at hK2 ⊢
            have hDu : u8s D := fun z hz => by
              rw [← hft] at hz
              exact HFU.out z (List.mem_of_mem_take (List.mem_filter.1 hz).1)
            obtain ⟨Aq, cq, hvq, hrq, _⟩ := hK2.rd hDu
            injection hvq with r1 r2 r3
            subst r1 r3
            have HRQ := hid hrq
            have HB6 := hid (HB5.out.trans (HBK.out.mono HB5.out.size))
            have HD6 := hid ((HD5.out.below HBK.out).more hbk)
            have HKN := hid (known_any w.heap.size wr HB6.out.size (HT.out.on HB6.out))
            clear hft hK2 hrq hlt
            rw [hds] at HRQ ⊢
            have q2' := q2
            go_wp2_with fail
            (with_reducible refine HKN.out.mono ?_)
            rintro e w7 ⟨rfl, hb7⟩
            have cv1 := run_str (n := i) ((HRQ.out.below hb7).more hb7.size) ck
            have cv2 := run_str (n := i) ((HD6.out.below hb7).more hb7.size) cd
            have HB7 := hid (HB6.out.trans (hb7.mono HB6.out.size))
            clear hb7 HRQ HD6 HKN
            generalize strOf D = S at *
            go_wp2
            go_ret
            exact ⟨rfl, HB7.out⟩
end Go.Proofs.YtjpflljmeaihgaaDoor
