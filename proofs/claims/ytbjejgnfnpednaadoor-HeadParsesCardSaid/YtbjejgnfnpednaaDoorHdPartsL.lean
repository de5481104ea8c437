/-
  HeadParts.
-/
import Derived.Test.YtbjejgnfnpednaaDoorHdBent
import Derived.Test.YtbjejgnfnpednaaDoorHdRefParts
import Derived.Test.YtbjejgnfnpednaaDoorHdLaw
namespace Go.Proofs.YtbjejgnfnpednaaDoor
open Go.RowKit Go.Lib

theorem PartsTo.one {o : Option (List (Int × Int))} {w w' : World} {e : Ending} (h : PartsTo o w e w') : ∃ A c, e = .returned (.tuple #[.slice A (o.getD []).length c, .bool o.isSome]) ∧ PartsB w' w'.heap.size (.slice A (o.getD []).length c) (o.getD []) ∧ Below w.heap.size w w' := by
  obtain ⟨h, hb⟩ := h
  cases o with
  | none => exact ⟨none, 0, h, PartsIs.in_ (PartsIs.nil w' w.heap.size), hb⟩
  | some l =>
    obtain ⟨pv, rfl, hp⟩ := h
    obtain ⟨A, c, rfl, h1, h2⟩ := hp
    exact ⟨A, c, rfl, PartsIs.in_ ⟨A, c, rfl, h1, h2⟩, hb⟩

theorem parts_le (zs : List Int) : ∀ (n a : Nat), ((M.parts zs a n).getD []).length ≤ n
  | 0, a => by simp [M.parts]
  | n + 1, a => by
    unfold M.parts
    split
    · exact Nat.zero_le _
    · split
      · split
        · exact Nat.zero_le _
        · have := parts_le zs n (a + 24)
          cases h : M.parts zs (a + 24) n with
          | none => exact Nat.zero_le _
          | some l => rw [h] at this; simpa using this
      · exact Nat.zero_le _

set_option maxRecDepth 100000 in
set_option maxHeartbeats 2000000 in
theorem lawParts_any (A : Option Addr) (n c : Nat) (zs : List Int) (a m : Int) (w : World) (hr : Rd w w.heap.size A n zs) (hc : n ≤ c) (hcm : c ≤ maxLen) (hn : n ≤ 1000000) :
    Calls Tryd.prog 19 #[.slice A n c, .int .i64 a, .int .i64 m] w fun e w' => e = .returned (.bool true) ∧ Below w.heap.size w w' := by
  have H1 := hid (parts_any A n c zs a m w w.heap.size hr (Nat.le_refl _) hc hcm hn)
  have H2 := hid (fun (W : World) (hW : Below w.heap.size w W) => refParts_any A n c zs a m W ((hr.below hW).more hW.size) hc hcm hn)
  clear hr hc hcm hn
  have H21 : ((M.parts zs (M.clip a 512) (M.clip m 21)).getD []).length ≤ 21 := Nat.le_trans (parts_le zs _ _) (by unfold M.clip; omega)
  generalize M.parts zs (M.clip a 512) (M.clip m 21) = o at *
  go_enter Tryd.func19, Tryd.ntmps19
  go_wp2_with fail
  (with_reducible refine H1.out.mono ?_)
  intro e w1 ht
  obtain ⟨A1, c1, rfl, hp1, b1⟩ := ht.one
  have B1 := hid b1
  have P1 := hid hp1
  clear ht b1 hp1 H1
  go_wp2_with fail
  (with_reducible refine (H2.out w1 B1.out).mono ?_)
  intro e w2 ht
  obtain ⟨A2, c2, rfl, hp2, b2⟩ := ht.one
  have P2 := hid hp2
  have P1' := hid (PartsB.mono (PartsB.below P1.out b2) b2.size)
  have B2 := hid (B1.out.trans (b2.mono B1.out.size))
  clear ht hp2 b2 P1 B1 H2
  generalize o.isSome = ok at *
  generalize o.getD [] = L at *
  generalize hL : L.length = k0 at *
  have HL := hid hL
  clear hL
  go_wp2_with fail
  go_loopw [11] (fun i wr => ∃ k : Nat, i = .int .i64 k ∧ k ≤ k0 ∧ Hid (Below w2.heap.size w2 wr)) (fun i _ => k0 - (RowKit.intOf i).toNat)
  case atStart => exact ⟨0, rfl, Nat.zero_le _, hid (Below.refl _ _)⟩
  case round =>
    obtain ⟨k, rfl, hk, HW⟩ := hrel
    by_cases hkn : k < k0
    · obtain ⟨A', c', he, _, hcells⟩ := PartsB.below P1'.out HW.out
      injection he with he1 he2 he3
      clear he2
      subst he1 he3
      obtain ⟨ba, oa, rfl, hga, hca⟩ := hcells (by rw [HL.out]; omega)
      clear hcells
      obtain ⟨A', c', he, _, hcells⟩ := PartsB.below P2.out HW.out
      injection he with he1 he2 he3
      clear he2
      subst he1 he3
      obtain ⟨bb, ob, rfl, hgb, hcb⟩ := hcells (by rw [HL.out]; omega)
      clear hcells
      obtain ⟨⟨p, q⟩, hpk⟩ : ∃ p, L[k]? = some p := ⟨_, List.getElem?_eq_getElem (by rw [HL.out]; exact hkn)⟩
      obtain ⟨a0, a1⟩ := hca k _ hpk
      obtain ⟨b0, b1⟩ := hcb k _ hpk
      dsimp only at a0 a1 b0 b1
      rw [show 2 * k = k * 2 by omega] at a0 a1 b0 b1
      clear hca hcb hpk P1' P2
      go_wp2_with fail
      go_quiet (fail)
      go_wp2_with fail
      go_roundw
      case rel => exact ⟨k + 1, (show Value.int .i64 _ = Value.int .i64 ((k + 1 : Nat) : Int) by go_num), hkn, hid (below_drewN' HW.out _)⟩
      case measure => simp [RowKit.intOf]; omega
    · go_wp2_with fail
      go_ret
      exact ⟨rfl, B2.out.trans (HW.out.mono B2.out.size)⟩

set_option maxRecDepth 100000 in
set_option maxHeartbeats 2000000 in
theorem headParts_any (A : Option Addr) (n c : Nat) (zs : List Int) (A1 : Option Addr) (n1 c1 : Nat) (cs : List Int) (A2 : Option Addr) (n2 c2 : Nat) (ds : List Int) (a m k : Int) (hk : 0 ≤ k ∧ k ≤ 255) (w : World)
    (hr : Rd w w.heap.size A n zs) (hc : n ≤ c) (hcm : c ≤ maxLen) (hr1 : Rd w w.heap.size A1 n1 cs) (hc1 : n1 ≤ c1) (hcm1 : c1 ≤ maxLen) (hr2 : Rd w w.heap.size A2 n2 ds) (hc2 : n2 ≤ c2) (hcm2 : c2 ≤ maxLen) (hmg : MG w) :
    Calls Tryd.prog 6 #[.slice A n c, .slice A1 n1 c1, .slice A2 n2 c2, .int .i64 a, .int .i64 m, .int .u8 k] w fun e w' => e = .returned (.bool true) ∧ Below w.heap.size w w' := by
  have HMG := hid (fun (W : World) (hW : Below w.heap.size w W) => hmg.later hW)
  have HBt := hid (fun (W : World) (hW : Below w.heap.size w W) => bent_any A1 n1 c1 cs A2 n2 c2 ds false W ((hr1.below hW).more hW.size) hc1 hcm1 ((hr2.below hW).more hW.size) hc2 hcm2)
  have HPa := hid (fun (hn : n ≤ 600) (W : World) (hW : Below w.heap.size w W) => lawParts_any A n c zs a m W ((hr.below hW).more hW.size) hc hcm (by omega))
  clear hr hc hcm hr1 hc1 hcm1 hr2 hc2 hcm2 hmg
  by_cases h600 : n ≤ 600
  case neg =>
    go_enter Tryd.func6, Tryd.ntmps6
    go_wp2_with fail
    (with_reducible refine (lawKnown_any _ (HMG.out _ (Below.refl _ _))).mono ?_)
    rintro e w1 ⟨rfl, b1⟩
    go_wp2
    go_ret
    exact ⟨rfl, b1⟩
  case pos =>
    obtain ⟨j, hj⟩ : ∃ j : Int, j = k % 6 := ⟨_, rfl⟩
    have HJ := hid hj
    have HPx := hid (fun (g : Nat) (a m : Int) (W : World) (hb : B512 W g) => show Calls Tryd.prog 19 #[.slice (some ⟨g, 0, none⟩) 512 512, .int .i64 a, .int .i64 m] W (fun e w' => e = .returned (.bool true) ∧ Below W.heap.size W w') by
      obtain ⟨zs, hl, hz, ha⟩ := hb
      have hr := ha.rd hz (B := W.heap.size) ha.lt
      rw [hl] at hr
      exact lawParts_any _ 512 512 zs a m W hr (Nat.le_refl _) (by decide) (by decide))
    have e6 := h600
    go_enter Tryd.func6, Tryd.ntmps6
    go_wp2_with fail
    (with_reducible refine (lawKnown_any _ (HMG.out _ (Below.refl _ _))).mono ?_)
    rintro e w1 ⟨rfl, b1⟩
    have B1 := hid b1
    clear b1
    go_wp2_with fail
    (with_reducible refine (HBt.out _ B1.out).mono ?_)
    rintro e w2 ⟨g, rfl, hg, hx2, b2⟩
    have X2 := hid hx2
    have B2 := hid (B1.out.trans (b2.mono B1.out.size))
    clear hx2 b2 B1 HBt
    go_wp2_with fail
    (with_reducible refine (HPa.out h600 _ B2.out).mono ?_)
    rintro e w3 ⟨rfl, b3⟩
    have X3 := hid (X2.out.below b3 X2.out.lt)
    have B3 := hid (B2.out.trans (b3.mono B2.out.size))
    clear b3 X2 B2 HPa
    go_wp2_with fail
    (with_reducible refine (HPx.out g _ _ _ X3.out).mono ?_)
    rintro e w4 ⟨rfl, b4⟩
    have X4 := hid (X3.out.below b4 X3.out.lt)
    have B4 := hid (B3.out.trans (b4.mono B3.out.size))
    clear b4 X3 B3
    go_wp2_with fail
    (with_reducible refine (HPx.out g _ _ _ X4.out).mono ?_)
    rintro e w5 ⟨rfl, b5⟩
    have X5 := hid (X4.out.below b5 X4.out.lt)
    have B5 := hid (B4.out.trans (b5.mono B4.out.size))
    clear b5 X4 B4
    go_wp2_with fail
    (with_reducible refine (HPx.out g _ _ _ X5.out).mono ?_)
    rintro e w6 ⟨rfl, b6⟩
    have B6 := hid (B5.out.trans (b6.mono B5.out.size))
    clear b6 X5 B5
    go_wp2
    go_ret
    exact ⟨rfl, B6.out⟩
end Go.Proofs.YtbjejgnfnpednaaDoor
