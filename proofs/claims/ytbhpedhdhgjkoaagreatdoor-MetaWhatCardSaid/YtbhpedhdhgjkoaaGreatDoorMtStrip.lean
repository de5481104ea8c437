/-
  The kind is found, and what is not told of such a one is taken away.
-/
import Derived.Test.YtbhpedhdhgjkoaaGreatDoorMtTake
import Derived.Test.YtbhpedhdhgjkoaaGreatDoorMtTexts
import Derived.Deep.CutRange
set_option linter.unusedVariables false
set_option linter.unusedSimpArgs false
namespace Go.Proofs.YtbhpedhdhgjkoaaGreatDoor
open Go.RowKit Go.Lib
open Px (R2 tl)

def st1 (m : M.Met) : M.Met := { m with kind := if (m.kind == 55 || m.kind == 83) = true then 48 else m.kind }
def st2 (m : M.Met) : M.Met := { m with kind := if (m.kind == 48 && M.slash (tl m.name)) = true then 53 else m.kind }
def st3 (m : M.Met) : M.Met := { m with link := if M.isLink m.kind = true then m.link else ⟨#[]⟩ }
def st4 (m : M.Met) : M.Met := { m with major := if M.isDev m.kind = true then m.major else 0, minor := if M.isDev m.kind = true then m.minor else 0 }
def st5 (m : M.Met) : M.Met := { m with size := if (m.kind == 48) = true then m.size else 0 }
def st6 (m : M.Met) : M.Met := { m with real := m.size }
theorem strip_eq (m : M.Met) : st6 (st5 (st4 (st3 (st2 (st1 m))))) = M.strip m := by
  have hk : (st2 (st1 m)).kind = M.kindOf m := by
    unfold st2 st1 M.kindOf
    simp only [Bool.and_eq_true, Bool.or_eq_true, beq_iff_eq]
  unfold M.strip
  rw [← hk]
  unfold st6 st5 st4 st3
  simp only [beq_iff_eq]
  unfold st2 st1
  rfl
/-- What is known lies in block g, all else as it was. -/
structure SI (w wx : World) (g : Nat) (m : M.Met) (pv ev : Value) : Prop where
  met : MB wx g m pv ev
  fg : Fg g w wx
theorem SI.set {w wx : World} {g : Nat} {m m' : M.Met} {pv ev pv' ev' : Value} (I : SI w wx g m pv ev) (i : Nat) (v : Value) (e : (mcells m pv ev).set! i v = mcells m' pv' ev') : SI w (wx.setCell ⟨g, i, none⟩ v) g m' pv' ev' :=
  ⟨I.met.set i v e, I.fg.trans (Fg.set wx g i v)⟩
set_option maxRecDepth 100000 in
set_option maxHeartbeats 4000000 in
theorem strip_any (g : Nat) (m : M.Met) (pv ev : Value) (w : World) (hm : MB w g m pv ev) (hs : m.name.size ≤ 1000000) :
    Calls Tryz.prog 15 #[.pointer (some ⟨g, 0, none⟩)] w fun e w' => e = .returned (.tuple #[]) ∧ MB w' g (M.strip m) pv ev ∧ Fg g w w' := by
  have HE := hid (strip_eq m)
  have I0 := hid (show SI w w g m pv ev from ⟨hm, Fg.refl _ _⟩)
  have k2 := hm.cell (i := 2) (v := .int .u8 m.kind) rfl
  have f2 := hm.frozen 2
  clear hm
  go_enter Tryz.func15, Tryz.ntmps15
  go_upto_region 0 with fail
  go_cut [13] from 2 to 13 (fun v wx => v = .bool (m.kind == 55 || m.kind == 83) ∧ w = wx)
  case first =>
    cases h1 : m.kind == 55 with
    | _ =>
      go_wp2_with fail
      go_meet
      case rel => exact ⟨by first | rfl | (rw [h1]; rfl), rfl⟩
  obtain ⟨rfl, rfl⟩ := hcut
  have I1 := hid (show (m.kind == 55 || m.kind == 83) = true → SI w (w.setCell ⟨g, 2, none⟩ (.int .u8 48)) g (st1 m) pv ev from fun h => I0.out.set 2 _ (by unfold st1; rw [if_pos h]; rfl))
  have I1' := hid (show (m.kind == 55 || m.kind == 83) = false → st1 m = m from fun h => by unfold st1; rw [if_neg (by rw [h]; decide)])
  generalize (m.kind == 55 || m.kind == 83) = b1 at *
  go_upto_if 13 with fail
  go_cut [13] from 13 to 16 (fun v wx => Hid (SI w wx g (st1 m) pv ev))
  case first =>
    cases b1 with
    | true =>
      go_wp2_with fail
      go_meet
      case rel => exact hid (I1.out (by first | rfl | trivial))
    | false =>
      go_wp2_with fail
      go_meet
      case rel => exact hid (by rw [I1'.out (by first | rfl | trivial)]; exact I0.out)
  clear I0 I1 I1' k2 f2
  have hs1 : (st1 m).name.size ≤ 1000000 := hs
  generalize st1 m = m1 at *
  clear hs
  have I0 := hid hcut.out
  clear hcut
  have k2 := I0.out.met.cell (i := 2) (v := .int .u8 m1.kind) rfl
  have k0 := I0.out.met.cell (i := 0) (v := .string m1.name) rfl
  have f2 := I0.out.met.frozen 2
  have HS := hid (fun W => suffix_any m1.name hs1 W)
  go_upto_region 2 with fail
  go_cut [28] from 17 to 28 (fun v wx => v = .bool (m1.kind == 48 && M.slash (tl m1.name)) ∧ wc = wx)
  case first =>
    cases h1 : m1.kind == 48 with
    | _ =>
      go_wp2_with (go_at_call 41; (with_reducible refine (HS.out _).mono ?_); rintro e w2 ⟨rfl, rfl⟩)
      go_meet
      case rel => exact ⟨by first | rfl | (rw [h1]; rfl), rfl⟩
  obtain ⟨rfl, rfl⟩ := hcut
  have I1 := hid (show (m1.kind == 48 && M.slash (tl m1.name)) = true → SI w (wc.setCell ⟨g, 2, none⟩ (.int .u8 53)) g (st2 m1) pv ev from fun h => I0.out.set 2 _ (by unfold st2; rw [if_pos h]; rfl))
  have I1' := hid (show (m1.kind == 48 && M.slash (tl m1.name)) = false → st2 m1 = m1 from fun h => by unfold st2; rw [if_neg (by rw [h]; decide)])
  generalize (m1.kind == 48 && M.slash (tl m1.name)) = b1 at *
  go_upto_if 28 with fail
  go_cut [28] from 28 to 31 (fun v wx => Hid (SI w wx g (st2 m1) pv ev))
  case first =>
    cases b1 with
    | true =>
      go_wp2_with fail
      go_meet
      case rel => exact hid (I1.out (by first | rfl | trivial))
    | false =>
      go_wp2_with fail
      go_meet
      case rel => exact hid (by rw [I1'.out (by first | rfl | trivial)]; exact I0.out)
  clear I0 I1 I1' k2 f2 k0 HS hs1
  generalize st2 m1 = m2 at *
  have I0 := hid hcut.out
  clear hcut
  have k2 := I0.out.met.cell (i := 2) (v := .int .u8 m2.kind) rfl
  have k1 := I0.out.met.cell (i := 1) (v := .string m2.link) rfl
  have f1 := I0.out.met.frozen 1
  have HL := hid (fun W => isLink_any m2.kind W)
  have I1 := hid (show M.isLink m2.kind = false → SI w (_ : World) g (st3 m2) pv ev from fun h => I0.out.set 1 (.string ⟨#[]⟩) (by unfold st3; rw [h]; rfl))
  have I1' := hid (show M.isLink m2.kind = true → st3 m2 = m2 from fun h => by unfold st3; rw [if_pos h])
  generalize M.isLink m2.kind = b2 at *
  go_upto_if 37 with (go_at_call 42; (with_reducible refine (HL.out _).mono ?_); rintro e w2 ⟨rfl, rfl⟩)
  go_cut [37] from 37 to 40 (fun v wx => Hid (SI w wx g (st3 m2) pv ev))
  case first =>
    cases b2 with
    | true =>
      go_wp2_with fail
      go_meet
      case rel => exact hid (by rw [I1'.out (by first | rfl | trivial)]; exact I0.out)
    | false =>
      go_wp2_with fail
      go_meet
      case rel => exact hid (I1.out (by first | rfl | trivial))
  clear I0 I1 I1' k2 f1 k1 HL
  generalize st3 m2 = m3 at *
  have I0 := hid hcut.out
  clear hcut
  have k2 := I0.out.met.cell (i := 2) (v := .int .u8 m3.kind) rfl
  have k10 := I0.out.met.cell (i := 10) (v := .int .i64 m3.major) rfl
  have k11 := I0.out.met.cell (i := 11) (v := .int .i64 m3.minor) rfl
  have f10 := I0.out.met.frozen 10
  have f11 := I0.out.met.frozen 11
  have HL := hid (fun W => isDevice_any m3.kind W)
  have I1 := hid (show M.isDev m3.kind = false → SI w (_ : World) g (st4 m3) pv ev from fun h => SI.set (m := { m3 with major := 0 }) (I0.out.set 10 (.int .i64 0) rfl) 11 (.int .i64 0) (by unfold st4; rw [h]; rfl))
  have I1' := hid (show M.isDev m3.kind = true → st4 m3 = m3 from fun h => by unfold st4; rw [if_pos h, if_pos h])
  generalize M.isDev m3.kind = b3 at *
  go_upto_if 46 with (go_at_call 43; (with_reducible refine (HL.out _).mono ?_); rintro e w2 ⟨rfl, rfl⟩)
  go_cut [46] from 46 to 52 (fun v wx => Hid (SI w wx g (st4 m3) pv ev))
  case first =>
    cases b3 with
    | true =>
      go_wp2_with fail
      go_meet
      case rel => exact hid (by rw [I1'.out (by first | rfl | trivial)]; exact I0.out)
    | false =>
      go_wp2_with fail
      go_meet
      case rel => exact hid (I1.out (by first | rfl | trivial))
  clear I0 I1 I1' k2 f10 k10 f11 k11 HL
  generalize st4 m3 = m4 at *
  have I0 := hid hcut.out
  clear hcut
  have k2 := I0.out.met.cell (i := 2) (v := .int .u8 m4.kind) rfl
  have k12 := I0.out.met.cell (i := 12) (v := .int .i64 m4.size) rfl
  have f12 := I0.out.met.frozen 12
  have I1 := hid (show (m4.kind == 48) = false → SI w (_ : World) g (st5 m4) pv ev from fun h => I0.out.set 12 (.int .i64 0) (by unfold st5; rw [h]; rfl))
  have I1' := hid (show (m4.kind == 48) = true → st5 m4 = m4 from fun h => by unfold st5; rw [if_pos h])
  go_upto_if 57 with fail
  rw [show (m4.kind != 48) = !(m4.kind == 48) from rfl]
  generalize (m4.kind == 48) = b4 at *
  go_cut [57] from 57 to 60 (fun v wx => Hid (SI w wx g (st5 m4) pv ev))
  case first =>
    cases b4 with
    | true =>
      go_wp2_with fail
      go_meet
      case rel => exact hid (by rw [I1'.out (by first | rfl | trivial)]; exact I0.out)
    | false =>
      go_wp2_with fail
      go_meet
      case rel => exact hid (I1.out (by first | rfl | trivial))
  clear I0 I1 I1' k2 f12 k12
  generalize st5 m4 = m5 at *
  have I0 := hid hcut.out
  clear hcut
  have k12 := I0.out.met.cell (i := 12) (v := .int .i64 m5.size) rfl
  have k13 := I0.out.met.cell (i := 13) (v := .int .i64 m5.real) rfl
  have f13 := I0.out.met.frozen 13
  have I1 := hid (I0.out.set (m' := st6 m5) 13 (.int .i64 m5.size) rfl)
  go_wp2
  go_end0
  all_goals exact ⟨rfl, by rw [← HE.out]; exact I1.out.met, I1.out.fg⟩
end Go.Proofs.YtbhpedhdhgjkoaaGreatDoor
