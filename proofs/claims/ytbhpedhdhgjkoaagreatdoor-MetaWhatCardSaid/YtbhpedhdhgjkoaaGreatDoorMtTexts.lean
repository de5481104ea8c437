/-
  Are all texts such as may be?
-/
import Derived.Test.YtbhpedhdhgjkoaaGreatDoorMtText
import Derived.Deep.CutRange
set_option linter.unusedVariables false
set_option linter.unusedSimpArgs false
namespace Go.Proofs.YtbhpedhdhgjkoaaGreatDoor
open Go.RowKit Go.Lib
open Px (R2 tl)

theorem slash_suffix : ∀ l : List UInt8, Lib.hasSuffix l [47] = M.slash l := by
  intro l
  unfold Lib.hasSuffix M.slash
  rcases List.eq_nil_or_concat l with rfl | ⟨a, b, rfl⟩
  · rfl
  · rw [Bool.eq_iff_iff, List.isSuffixOf_iff_suffix, List.concat_eq_append, List.getLast?_append]
    simp only [List.getLast?_singleton, Option.some_or, beq_iff_eq, Option.some.injEq]
    constructor
    · intro h
      obtain ⟨c, hc⟩ := h
      have := congrArg List.getLast? hc
      simp at this
      exact this.symm
    · rintro rfl
      exact ⟨a, rfl⟩
theorem suffix_any (s : ByteArray) (hs : s.size ≤ 1000000) (w : World) : Calls Tryz.prog 41 #[.string s, .string ⟨#[47]⟩] w fun e w' => e = .returned (.bool (M.slash (tl s))) ∧ w = w' := by
  refine (Tryz.strings_HasSuffix s ⟨#[47]⟩ w (by omega)).mono ?_
  rintro e w' ⟨rfl, rfl⟩
  exact ⟨by rw [← slash_suffix]; rfl, rfl⟩

def texts4 (m : M.Met) : Bool := M.isText m.name 1 4096 && (M.isText m.link (if M.isLink m.kind then 1 else 0) (if M.isLink m.kind then 4096 else 0) && (M.isText m.user 0 4096 && M.isText m.group 0 4096))
theorem hasTexts_eq (m : M.Met) : M.hasTexts m = (!(m.kind == 48 && M.slash (tl m.name)) && texts4 m) := rfl
theorem ret_boolT {a b : Bool} (h : a = b) : Ending.returned (.bool a) = .returned (.bool b) := by rw [h]
set_option maxRecDepth 100000 in
set_option maxHeartbeats 2000000 in
theorem hasTexts_any (m : M.Met) (pv ev : Value) (w : World) (hm : MIn w m pv ev) : Calls Tryz.prog 50 #[.agg (mcells m pv ev)] w fun e w' => e = .returned (.bool (M.hasTexts m)) ∧ Below w.heap.size w w' := by
  have hb1 : Below w.heap.size w (w.alloc (.cells (mcells m pv ev) 28)) := (Below.refl _ _).alloc (Nat.le_refl _) _
  have HW := hid hb1
  have HE := hid (hasTexts_eq m)
  have B1 := hid (MB.new w m pv ev)
  have hsz := hm.texts.1
  clear hm hb1
  have k0 := MB.cell B1.out (i := 0) (v := .string m.name) rfl
  have k1 := MB.cell B1.out (i := 1) (v := .string m.link) rfl
  have k2 := MB.cell B1.out (i := 2) (v := .int .u8 m.kind) rfl
  have k6 := MB.cell B1.out (i := 6) (v := .string m.user) rfl
  have k7 := MB.cell B1.out (i := 7) (v := .string m.group) rfl
  clear B1
  have HS := hid (fun W => suffix_any m.name hsz W)
  have HL := hid (fun W => isLink_any m.kind W)
  have H1 := hid (fun W => isText_any m.name 1 4096 W)
  have H2 := hid (fun a b W => isText_any m.link a b W)
  have H3 := hid (fun W => isText_any m.user 0 4096 W)
  have H4 := hid (fun W => isText_any m.group 0 4096 W)
  have HT := hid (show texts4 m = (M.isText m.name 1 4096 && (M.isText m.link (if M.isLink m.kind then 1 else 0) (if M.isLink m.kind then 4096 else 0) && (M.isText m.user 0 4096 && M.isText m.group 0 4096))) from rfl)
  cases hl : M.isLink m.kind with
  | _ =>
    rw [hl] at HL HT
    simp only [if_true, if_false, Bool.false_eq_true] at HT
    clear hl
    go_enter Tryz.func50, Tryz.ntmps50
    go_upto_region 1 with fail
    generalize World.alloc w _ = W at *
    go_cut [12] from 5 to 12 (fun v wx => v = .bool (m.kind == 48 && M.slash (tl m.name)) ∧ W = wx)
    case first =>
      cases hk : (m.kind == 48) with
      | false =>
        go_wp2_with fail
        go_meet
        case rel => exact ⟨by rw [hk]; rfl, rfl⟩
      | true =>
        go_wp2_with (go_at_call 41; (with_reducible refine (HS.out _).mono ?_); rintro e w2 ⟨rfl, rfl⟩)
        go_meet
        case rel => exact ⟨by rw [hk]; rfl, rfl⟩
    case rest =>
      obtain ⟨rfl, rfl⟩ := hcut
      obtain ⟨b, hb⟩ : ∃ b, (m.kind == 48 && M.slash (tl m.name)) = b := ⟨_, rfl⟩
      rw [hb] at HE ⊢
      clear hb
      cases b with
      | true =>
        go_wp2_with fail
        go_ret
        exact ⟨ret_boolT (by rw [HE.out]; rfl), HW.out⟩
      | false =>
        go_upto_region 6 with (go_at_call 42; (with_reducible refine (HL.out _).mono ?_); rintro e w2 ⟨rfl, rfl⟩)
        go_cut [2] from 16 to 35 (fun v wx => v = .bool (texts4 m) ∧ W = wx)
        case first =>
          go_wp2_with (first
            | (go_at_call 42; (with_reducible refine (HL.out _).mono ?_); rintro e w2 ⟨rfl, rfl⟩)
            | (go_at_call 82; (with_reducible refine (H1.out _).mono ?_); rintro e w2 ⟨rfl, rfl⟩)
            | (go_at_call 82; (with_reducible refine (H2.out _ _ _).mono ?_); rintro e w2 ⟨rfl, rfl⟩)
            | (go_at_call 82; (with_reducible refine (H3.out _).mono ?_); rintro e w2 ⟨rfl, rfl⟩)
            | (go_at_call 82; (with_reducible refine (H4.out _).mono ?_); rintro e w2 ⟨rfl, rfl⟩))
          all_goals
            go_meet
            case rel => exact ⟨by rw [HT.out]; simp [*], rfl⟩
        case rest =>
          obtain ⟨rfl, rfl⟩ := hcut
          go_wp2_with fail
          go_ret
          exact ⟨ret_boolT (by rw [HE.out]; simp), HW.out⟩
end Go.Proofs.YtbhpedhdhgjkoaaGreatDoor
