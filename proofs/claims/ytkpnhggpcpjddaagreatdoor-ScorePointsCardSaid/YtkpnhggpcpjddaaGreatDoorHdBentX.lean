/-
  Bent, where nothing is bent: a header that is right, whatever choices say.
-/
import Derived.Test.YtkpnhggpcpjddaaGreatDoorHMo
import Derived.Test.YtkpnhggpcpjddaaGreatDoorHdHeader
set_option linter.unusedVariables false
set_option linter.unusedSimpArgs false
namespace Go.Proofs.YtkpnhggpcpjddaaGreatDoor
open Go.RowKit Go.Lib
attribute [local go_sem ↓] run_make512

namespace M
theorem hparse_bare : (hparse (sld (nils 512))).1 = 0 := by decide +kernel
theorem hparse_sealed {h : Hdr} {zs : List Int} (hp : hprint h = (0, zs)) : (hparse (sld zs)).1 = 0 ∧ right (sld zs) = true := by
  obtain ⟨s⟩ := print_back hp
  have e : sld zs = zs := by rw [s.out, sld_self]
  rw [e, s.back]
  exact ⟨rfl, s.right_⟩
end M
/-- A block that is printed, or has noughts alone. -/
def MadeX (w wx : World) (x : Value) : Prop := ∃ g zs, x = .slice (some ⟨g, 0, none⟩) 512 512 ∧ w.heap.size ≤ g ∧ BX wx g zs ∧ Below w.heap.size w wx ∧ ((M.hparse (M.sld zs)).1 = 0 ∧ M.right (M.sld zs) = true)
def BentX (w : World) (e : Ending) (w' : World) : Prop := ∃ g zs, e = .returned (.slice (some ⟨g, 0, none⟩) 512 512) ∧ w.heap.size ≤ g ∧ BX w' g zs ∧ Below w.heap.size w w' ∧ ((M.hparse zs).1 = 0 ∧ M.right zs = true)

set_option maxRecDepth 100000 in
set_option maxHeartbeats 4000000 in
theorem bentX_any (A : Option Addr) (n c : Nat) (zs : List Int) (w : World) (hr : Rd w w.heap.size A n zs) (hc : n ≤ c) (hcm : c ≤ maxLen) :
    Calls Tryz.prog 6 #[.slice A n c, .slice none 0 0, .bool true] w (BentX w) := by
  have HH := hid (header_any A n c zs w hr hc hcm)
  clear hr hc hcm
  go_enter Tryz.func6, Tryz.ntmps6
  go_wp2_with fail
  (with_reducible refine HH.out.mono ?_)
  rintro e w1 ⟨h, pv, rfl, hi, hfew, hway, b1⟩
  obtain ⟨Ap, cp, e0, _⟩ := hi.parts
  subst e0
  have HP := hid (refPrintX_any h Ap cp w1 hi hfew hway)
  have B1 := hid b1
  clear hi hfew hway b1 HH
  go_wp2_with fail
  refine HP.out.mono ?_
  intro e w2 ht
  obtain ⟨v, m, rfl, hv, _, b2⟩ := ht.one
  have B2 := hid (B1.out.trans (b2.mono B1.out.size))
  have HV := hid (fun h0 => (let ⟨g, zs, e, h1, h2, h3⟩ := hv h0; ⟨g, zs, e, Nat.le_trans B1.out.size h1, h2, B2.out, M.hparse_sealed h3⟩ : MadeX w w2 v))
  clear ht hv b2 HP
  go_upto_if 18 with fail
  obtain ⟨bz, hbz⟩ : ∃ b, b = (m != 0) := ⟨_, rfl⟩
  rw [← hbz]
  have HZ := hid (fun (e : bz = false) => show m = 0 by rw [e] at hbz; simpa using hbz.symm)
  clear hbz
  go_cut [7] from 19 to 19 (fun x wx => MadeX w wx x)
  case first =>
    cases bz with
    | false =>
      have hm0 := HZ.out rfl
      have HV0 := hid (HV.out hm0)
      clear hm0 HZ
      go_wp2_with fail
      go_meet
      case rel => exact HV0.out
    | true =>
      go_wp2_with fail
      go_meet
      case rel => exact ⟨_, _, rfl, B2.out.size, BX.new w2, B2.out.alloc B2.out.size _, M.hparse_bare, by decide +kernel⟩
  case rest =>
    obtain ⟨g, ys, rfl, hg, hx, hb, hp⟩ := hcut
    have HG := hid hg
    have HX := hid hx
    have HBe := hid hb
    have HPa := hid hp
    clear hg hx hb hp HV HZ B1 B2
    go_wp2_with fail
    go_loopw [9] (fun i wr => i = .int .i64 0 ∧ wc = wr) (fun i _ => 0)
    case atStart => exact ⟨rfl, rfl⟩
    case round =>
      obtain ⟨rfl, rfl⟩ := hrel
      have HSl := hid (seal_bx HX.out)
      go_wp2_with fail
      (with_reducible refine HSl.out.mono ?_)
      rintro e w9 ⟨g9, rfl, hg9, hb9, b9⟩
      go_wp2_with fail
      go_ret
      exact ⟨g9, _, rfl, Nat.le_trans HBe.out.size hg9, hb9, HBe.out.trans (b9.mono HBe.out.size), HPa.out⟩
end Go.Proofs.YtkpnhggpcpjddaaGreatDoor
