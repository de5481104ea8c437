/-
  Bent: a block of 512 bytes, whatever choices say.
-/
import Derived.Test.YtkpnhggpcpjddaaGreatDoorHMo
import Derived.Test.YtkpnhggpcpjddaaGreatDoorHdHeader
import Derived.Deep.QuietTactic
import Derived.BigQuiet
set_option linter.unusedVariables false
set_option linter.unusedSimpArgs false
namespace Go.Proofs.YtkpnhggpcpjddaaGreatDoor
open Go.RowKit Go.Lib
attribute [local go_sem ↓] run_make512

/-- A block of 512 bytes of the call's own. -/
def BlkTo (w : World) (e : Ending) (w' : World) : Prop := ∃ g, e = .returned (.slice (some ⟨g, 0, none⟩) 512 512) ∧ w.heap.size ≤ g ∧ B512 w' g ∧ Below w.heap.size w w'
/-- Block g of one's own. -/
def OwnB (w W : World) (g : Nat) : Prop := w.heap.size ≤ g ∧ B512 W g ∧ Below w.heap.size w W
def OwnV (w W : World) (v : Value) : Prop := ∃ g, v = .slice (some ⟨g, 0, none⟩) 512 512 ∧ OwnB w W g
theorem PrintTo.one {w w' : World} {e : Ending} (h : PrintTo w e w') : ∃ v n, e = .returned (.tuple #[v, .int .i64 n]) ∧ (n = 0 → OwnV w w' v) ∧ Below w.heap.size w w' := by
  obtain ⟨⟨n, hn, rfl⟩ | ⟨g, rfl, hg, hb⟩, hw⟩ := h
  · exact ⟨_, n, rfl, (fun h => absurd h hn), hw⟩
  · exact ⟨_, 0, rfl, (fun _ => ⟨g, rfl, hg, hb, hw⟩), hw⟩
theorem OwnB.later {w W W' : World} {g : Nat} (h : OwnB w W g) (hb : Below W.heap.size W W') : OwnB w W' g := ⟨h.1, h.2.1.below hb h.2.1.lt, h.2.2.trans (hb.mono h.2.2.size)⟩
theorem OwnB.set {w W : World} {g : Nat} (h : OwnB w W g) (i : Nat) {v : Int} (hv : 0 ≤ v ∧ v ≤ 255) : OwnB w (W.setCell ⟨g, i, none⟩ (.int .u8 v)) g :=
  ⟨h.1, h.2.1.set i hv, h.2.2.setCell (p := ⟨g, i, none⟩) h.1 _⟩
theorem HIn.slc {w : World} {h : M.Hdr} {pv : Value} (hi : HIn w h pv) : ∃ A c, pv = .slice A h.parts.length c := by
  obtain ⟨A, c, e, _⟩ := hi.parts
  exact ⟨A, c, e⟩
def SpotIs (w : World) (g : Nat) (x : Value) (wx : World) : Prop := ∃ a : Nat, x = .int .i64 (a : Int) ∧ a < 512 ∧ OwnB w wx g
theorem spots_at (j : Nat) (hj : j < 12) : ∃ a : Nat, a < 512 ∧ ∀ hh, ([.int .i64 100, .int .i64 108, .int .i64 124, .int .i64 136, .int .i64 156, .int .i64 257, .int .i64 263, .int .i64 329, .int .i64 386, .int .i64 398, .int .i64 482, .int .i64 483] : List Value)[j]'hh = .int .i64 (a : Int) := by
  have : j = 0 ∨ j = 1 ∨ j = 2 ∨ j = 3 ∨ j = 4 ∨ j = 5 ∨ j = 6 ∨ j = 7 ∨ j = 8 ∨ j = 9 ∨ j = 10 ∨ j = 11 := by omega
  rcases this with rfl | rfl | rfl | rfl | rfl | rfl | rfl | rfl | rfl | rfl | rfl | rfl
  · exact ⟨100, by decide, fun _ => rfl⟩
  · exact ⟨108, by decide, fun _ => rfl⟩
  · exact ⟨124, by decide, fun _ => rfl⟩
  · exact ⟨136, by decide, fun _ => rfl⟩
  · exact ⟨156, by decide, fun _ => rfl⟩
  · exact ⟨257, by decide, fun _ => rfl⟩
  · exact ⟨263, by decide, fun _ => rfl⟩
  · exact ⟨329, by decide, fun _ => rfl⟩
  · exact ⟨386, by decide, fun _ => rfl⟩
  · exact ⟨398, by decide, fun _ => rfl⟩
  · exact ⟨482, by decide, fun _ => rfl⟩
  · exact ⟨483, by decide, fun _ => rfl⟩

set_option maxRecDepth 100000 in
set_option maxHeartbeats 4000000 in
theorem bent_any (A : Option Addr) (n c : Nat) (zs : List Int) (A2 : Option Addr) (n2 c2 : Nat) (ds : List Int) (seal_ : Bool) (w : World) (hr : Rd w w.heap.size A n zs) (hc : n ≤ c) (hcm : c ≤ maxLen)
    (hd : Rd w w.heap.size A2 n2 ds) (hc2 : n2 ≤ c2) (hcm2 : c2 ≤ maxLen) :
    Calls Tryz.prog 6 #[.slice A n c, .slice A2 n2 c2, .bool seal_] w (BlkTo w) := by
  have HH := hid (header_any A n c zs w hr hc hcm)
  have HD := hid (fun (W : World) (hW : Below w.heap.size w W) => hd.below hW)
  have HL := hid hd.len
  unfold maxLen at hcm2
  have HM := hid (⟨hc2, hcm2⟩ : _ ∧ _)
  clear hr hc hcm hd hc2 hcm2
  go_enter Tryz.func6, Tryz.ntmps6
  go_wp2_with fail
  (with_reducible refine HH.out.mono ?_)
  rintro e w1 ⟨h, pv, rfl, hi, hfew, hway, b1⟩
  obtain ⟨Ap, cp, rfl⟩ := hi.slc
  have HP := hid (refPrint_any h Ap cp w1 hi hfew hway)
  have B1 := hid b1
  clear hi hfew hway b1 HH
  go_wp2_with fail
  refine HP.out.mono ?_
  intro e w2 ht
  obtain ⟨v, m, rfl, hv, b2⟩ := ht.one
  have B2 := hid (B1.out.trans (b2.mono B1.out.size))
  have HV := hid (fun h0 => (let ⟨g, e, h1, h2, h3⟩ := hv h0; ⟨g, e, Nat.le_trans B1.out.size h1, h2, B1.out.trans (h3.mono B1.out.size)⟩ : OwnV w w2 v))
  clear ht hv b2 HP
  go_upto_if 18 with fail
  obtain ⟨bz, hbz⟩ : ∃ b, b = (m != 0) := ⟨_, rfl⟩
  rw [← hbz]
  have HZ := hid (fun (e : bz = false) => show m = 0 by rw [e] at hbz; simpa using hbz.symm)
  clear hbz
  go_cut [7] from 19 to 19 (fun x wx => OwnV w wx x)
  case first =>
    cases bz with
    | false =>
      have hm0 := HZ.out rfl
      have HV0 := hid (HV.out hm0)
      clear hm0 HZ
      go_wp2_with fail
      go_meet
      case rel => exact HV0.out
    | true =>
      go_wp2_with fail
      go_meet
      case rel => exact ⟨_, rfl, B2.out.size, b512_new w2, B2.out.alloc B2.out.size _⟩
  case rest =>
    obtain ⟨g, rfl, ho⟩ := hcut
    have HO := hid ho
    clear ho HV HZ B1 B2
    go_wp2_with fail
    go_loopw [9] (fun i wr => ∃ k : Nat, i = .int .i64 k ∧ k ≤ 15 ∧ Hid (OwnB w wr g)) (fun i _ => 15 - (RowKit.intOf i).toNat)
    case atStart => exact ⟨0, rfl, by decide, HO⟩
    case round =>
      clear HO
      obtain ⟨k, rfl, hk, HO⟩ := hrel
      by_cases hlt : k + 2 < n2 ∧ k < 12
      · obtain ⟨h2, h12⟩ := hlt
        obtain ⟨b, off, x0, rfl, hbw, hx0a, hx0b, hq0, hc0⟩ := (HD.out wr HO.out.2.2).at_ (k := k) (by omega)
        obtain ⟨b', off', x1, he, _, hx1a, hx1b, hq1, hc1⟩ := (HD.out wr HO.out.2.2).at_ (k := k + 1) (by omega)
        injection he with he; injection he with e1 e2; subst e1 e2
        obtain ⟨b', off', x2, he, _, hx2a, hx2b, hq2, hc2⟩ := (HD.out wr HO.out.2.2).at_ (k := k + 2) (by omega)
        injection he with he; injection he with e1 e2; subst e1 e2
        have e2' : decide ((k : Int) + 2 < (n2 : Int)) = true := by rw [decide_eq_true_eq]; omega
        go_wp2_with fail
        go_quiet (fail)
        go_upto_if 51 with fail
        generalize decide (128 < x1) = bb
        have HO1 := hid (⟨HO.out.1, HO.out.2.1, below_drewN' HO.out.2.2 nq⟩ : OwnB w (wr.drewN nq) g)
        generalize wr.drewN nq = V at *
        have HDV := hid (HD.out V HO1.out.2.2)
        have hc0V : V.cell? ⟨b, off + k, none⟩ = some (.int .u8 x0) := by
          obtain ⟨b', off', he, _, hcc⟩ := HDV.out.2.2 (by omega)
          injection he with he; injection he with e1 e2; subst e1 e2
          exact hcc k _ hq0
        have hbV : b < V.heap.size := Nat.lt_of_lt_of_le hbw HO1.out.2.2.size
        obtain ⟨a0, ha0⟩ : ∃ a : Nat, (a : Int) = (x0 + 256 * (x1 % 2)) % 512 := ⟨((x0 + 256 * (x1 % 2)) % 512).toNat, by omega⟩
        have HA0 := hid ha0
        have HA5 := hid (show a0 < 512 by omega)
        obtain ⟨j, hj⟩ : ∃ j : Nat, (j : Int) = x0 % 12 := ⟨(x0 % 12).toNat, by omega⟩
        have hj12 : j < 12 := by omega
        obtain ⟨a1, ha1, hat⟩ := spots_at j hj12
        have HAT := hid hat
        clear hat
        have HK := hid (⟨h2, h12⟩ : _ ∧ _)
        have HX2 := hid (⟨hx2a, hx2b⟩ : 0 ≤ x2 ∧ x2 ≤ 255)
        clear ha0 hc0 hc1 hc2 hq1 hq0 hx1a hx1b
        go_cut [10] from 20 to 67 (fun x wx => SpotIs w g x wx)
        case first =>
          cases bb with
          | false =>
            go_wp2_with fail
            go_meet
            case rel => exact ⟨a0, congrArg (Value.int .i64) HA0.out.symm, HA5.out, HO1.out⟩
          | true =>
            have ej : x0 % 12 = (j : Int) := hj.symm
            have ej2 : x0.tmod 12 = (j : Int) := by rw [Int.tmod_eq_emod_of_nonneg hx0a]; exact hj.symm
            clear hj
            go_wp2_with fail
            go_meet
            case rel => exact ⟨a1, HAT.out _, ha1, OwnB.later HO1.out ((Below.refl _ _).alloc (Nat.le_refl _) _)⟩
        case rest =>
          obtain ⟨a, rfl, ha5, ho⟩ := hcut
          have HO2 := hid ho
          clear ho hc0V hbV hj ha1 HAT
          have hbV : b < wc.heap.size := Nat.lt_of_lt_of_le hbw HO2.out.2.2.size
          have hc2V : wc.cell? ⟨b, off + (k + 2), none⟩ = some (.int .u8 x2) := by
            obtain ⟨b', off', he, _, hcc⟩ := (HD.out wc HO2.out.2.2).2.2 (by omega)
            injection he with he; injection he with e1 e2; subst e1 e2
            exact hcc (k + 2) _ hq2
          obtain ⟨z, ca, fa⟩ := HO2.out.2.1.at_ ha5
          have HO3 := hid (HO2.out.set a HX2.out)
          clear hq2 hx2a hx2b HDV
          go_wp2_with fail
          go_roundw
          case rel => exact ⟨k + 3, (by go_num), by omega, HO3⟩
          case measure => simp [RowKit.intOf]; omega
      · have hnl : ¬ ((k : Int) + 2 < (n2 : Int) ∧ (k : Int) < 12) := by omega
        by_cases h2 : k + 2 < n2
        case' pos =>
          have h12 : ¬ (k < 12) := fun h => hlt ⟨h2, h⟩
        all_goals
          clear hlt hnl
          cases seal_ with
          | false =>
            go_wp2_with fail
            go_ret
            exact ⟨g, rfl, HO.out.1, HO.out.2.1, HO.out.2.2⟩
          | true =>
            have HSl := hid (seal_b512 HO.out.2.1)
            go_wp2_with fail
            (with_reducible refine HSl.out.mono ?_)
            rintro e w9 ⟨g9, rfl, hg9, hb9, b9⟩
            go_wp2_with fail
            go_ret
            exact ⟨g9, rfl, Nat.le_trans HO.out.2.2.size hg9, hb9, HO.out.2.2.trans (b9.mono HO.out.2.2.size)⟩
end Go.Proofs.YtkpnhggpcpjddaaGreatDoor
