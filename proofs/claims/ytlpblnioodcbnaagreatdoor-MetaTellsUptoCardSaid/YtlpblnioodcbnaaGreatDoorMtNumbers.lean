/-
  Are all numbers such as may be?
-/
import Derived.Test.YtlpblnioodcbnaaGreatDoorMtTextZ
import Derived.Test.YtlpblnioodcbnaaGreatDoorKT
import Derived.Deep.CutRange
import Derived.Test.YtlpblnioodcbnaaGreatDoorMtQuiet
set_option linter.unusedVariables false
set_option linter.unusedSimpArgs false
namespace Go.Proofs.YtlpblnioodcbnaaGreatDoor
open Go.RowKit Go.Lib
open Px (R2 tl)

theorem below_drew' {B : Nat} {a w : World} (h : Below B a w) : Below B a w.drew := ⟨h.os, h.tape, h.output, h.size, h.block⟩
def nums8 (m : M.Met) (md ms : Int) : Bool :=
  M.within m.mode 0 2097151 && (M.within m.major 0 md && (M.within m.minor 0 md && (M.within m.uid 0 4611686018427387904 && (M.within m.gid 0 4611686018427387904 &&
    ((m.sec == (St.M.norm (m.sec, m.nan)).1 && m.nan == (St.M.norm (m.sec, m.nan)).2) && (M.within m.size 0 ms && (m.holes || m.real == m.size && (m.parts.length : Int) == 0)))))))
theorem hasNumbers_eq (m : M.Met) : M.hasNumbers m = nums8 m (if M.isDev m.kind then 2097151 else 0) (if (m.kind == 48) = true then 1099511627776 else 0) := by
  unfold M.hasNumbers nums8
  have e1 : decide (St.M.norm (m.sec, m.nan) = (m.sec, m.nan)) = (m.sec == (St.M.norm (m.sec, m.nan)).1 && m.nan == (St.M.norm (m.sec, m.nan)).2) := by
    generalize St.M.norm (m.sec, m.nan) = t
    obtain ⟨p, q⟩ := t
    rw [Bool.eq_iff_iff]
    simp only [decide_eq_true_eq, Prod.mk.injEq, Bool.and_eq_true, beq_iff_eq]
    constructor <;> rintro ⟨h1, h2⟩ <;> exact ⟨h1.symm, h2.symm⟩
  have e2 : m.parts.isEmpty = ((m.parts.length : Int) == 0) := by
    cases m.parts with
    | nil => rfl
    | cons p l =>
      show false = _
      have h : ((((p :: l).length : Nat) : Int) == 0) = false := by
        rw [beq_eq_false_iff_ne, List.length_cons]; omega
      rw [h]
  have e3 : (if (m.kind == 48) = true then (1099511627776 : Int) else 0) = (if m.kind = 48 then 1099511627776 else 0) := by simp
  rw [e1, e2, e3]
theorem and_not {a b : Bool} (h : (a && !b) = true) : a = true ∧ b = false := by
  revert h
  cases a <;> cases b <;> decide
theorem ret_bool' {a b : Bool} (h : a = b) : Ending.returned (.bool a) = .returned (.bool b) := by rw [h]

set_option maxRecDepth 100000 in
set_option maxHeartbeats 8000000 in
theorem hasNumbers_any (m : M.Met) (pv ev : Value) (w : World) (hm : MIn w m pv ev) : Calls Tryz.prog 64 #[.agg (mcells m pv ev)] w fun e w' => e = .returned (.bool (M.hasNumbers m)) ∧ Below w.heap.size w w' := by
  have hb1 : Below w.heap.size w (w.alloc (.cells (mcells m pv ev) 27)) := (Below.refl _ _).alloc (Nat.le_refl _) _
  have HW := hid hb1
  have HE := hid (hasNumbers_eq m)
  obtain ⟨A, c, rfl, _⟩ := hm.parts
  have B1 := hid (MB.new w m (.slice A m.parts.length c) ev)
  clear hm hb1
  have k2 := MB.cell B1.out (i := 2) (v := .int .u8 m.kind) rfl
  have hn : nums8 m (if M.isDev m.kind then 2097151 else 0) (if (m.kind == 48) = true then 1099511627776 else 0) = nums8 m (if M.isDev m.kind then 2097151 else 0) (if (m.kind == 48) = true then 1099511627776 else 0) := rfl
  clear hn
  have HD := hid (fun W => isDevice_any m.kind W)
  go_enter Tryz.func64, Tryz.ntmps64
  go_upto_region 2 with fail
  generalize hW0 : World.alloc w _ = W at *
  go_upto_if 7 with (go_at_call 87; (with_reducible refine (HD.out _).mono ?_); rintro e w2 ⟨rfl, rfl⟩)
  go_cut [3, 4] from 3 to 7 (fun v3 v4 wx => v3 = .int .i64 (if M.isDev m.kind then 2097151 else 0) ∧ v4 = .int .i64 0 ∧ W = wx)
  case first =>
    generalize M.isDev m.kind = b at *
    cases b with
    | _ =>
      go_wp2_with fail
      go_meet
      case rel => exact ⟨rfl, rfl, rfl⟩
  case rest =>
    obtain ⟨rfl, rfl, rfl⟩ := hcut
    generalize (if M.isDev m.kind then (2097151 : Int) else 0) = md at HE ⊢
    go_upto_if 10 with fail
    go_cut [4] from 4 to 10 (fun v4 wx => v4 = .int .i64 (if (m.kind == 48) = true then 1099511627776 else 0) ∧ W = wx)
    case first =>
      generalize (m.kind == 48) = b at *
      cases b with
      | _ =>
        go_wp2_with fail
        go_meet
        case rel => exact ⟨rfl, rfl⟩
    obtain ⟨rfl, rfl⟩ := hcut
    generalize (if (m.kind == 48) = true then (1099511627776 : Int) else 0) = ms at HE ⊢
    go_upto_region 6 with fail
    have HF : Hid (∀ V, Below W.heap.size W V → V.cell? ⟨w.heap.size, 3, none⟩ = some (.int .i64 m.mode) ∧ V.cell? ⟨w.heap.size, 10, none⟩ = some (.int .i64 m.major) ∧ V.cell? ⟨w.heap.size, 11, none⟩ = some (.int .i64 m.minor) ∧ V.cell? ⟨w.heap.size, 4, none⟩ = some (.int .i64 m.uid) ∧ V.cell? ⟨w.heap.size, 5, none⟩ = some (.int .i64 m.gid) ∧ V.cell? ⟨w.heap.size, 8, none⟩ = some (.int .i64 m.sec) ∧ V.cell? ⟨w.heap.size, 9, none⟩ = some (.int .i64 m.nan) ∧ V.cell? ⟨w.heap.size, 12, none⟩ = some (.int .i64 m.size) ∧ V.cell? ⟨w.heap.size, 13, none⟩ = some (.int .i64 m.real) ∧ V.cell? ⟨w.heap.size, 14, none⟩ = some (.bool m.holes) ∧ V.cell? ⟨w.heap.size, 15, none⟩ = some (.slice A m.parts.length c)) := hid (fun V hV => by
      have hb : MB V w.heap.size m (.slice A m.parts.length c) ev := B1.out.below hV B1.out.lt
      exact ⟨hb.cell (i := 3) rfl, hb.cell (i := 10) rfl, hb.cell (i := 11) rfl, hb.cell (i := 4) rfl, hb.cell (i := 5) rfl, hb.cell (i := 8) rfl, hb.cell (i := 9) rfl, hb.cell (i := 12) rfl, hb.cell (i := 13) rfl, hb.cell (i := 14) rfl, hb.cell (i := 15) rfl⟩)
    clear B1 k2 HD hW0
    have HW1 := hid (fun V => within_any m.mode 0 2097151 V)
    have HW2 := hid (fun V => within_any m.major 0 md V)
    have HW3 := hid (fun V => within_any m.minor 0 md V)
    have HW4 := hid (fun V => within_any m.uid 0 4611686018427387904 V)
    have HW5 := hid (fun V => within_any m.gid 0 4611686018427387904 V)
    have HW7 := hid (fun V => within_any m.size 0 ms V)
    have HT := hid (fun V => St.norm_any m.sec m.nan V)
    unfold St.TimeIs St.tv at HT
    unfold nums8 at HE
    generalize hN : St.M.norm (m.sec, m.nan) = t at HE HT
    clear hN
    obtain ⟨p, q⟩ := t
    dsimp only at HE HT
    generalize hL : m.parts.length = n at *
    clear hL
    obtain ⟨c1, hc1⟩ : ∃ c, M.within m.mode 0 2097151 = c := ⟨_, rfl⟩
    rw [hc1] at HW1 HE
    clear hc1
    obtain ⟨c2, hc2⟩ : ∃ c, M.within m.major 0 md = c := ⟨_, rfl⟩
    rw [hc2] at HW2 HE
    clear hc2
    obtain ⟨c3, hc3⟩ : ∃ c, M.within m.minor 0 md = c := ⟨_, rfl⟩
    rw [hc3] at HW3 HE
    clear hc3
    obtain ⟨c4, hc4⟩ : ∃ c, M.within m.uid 0 4611686018427387904 = c := ⟨_, rfl⟩
    rw [hc4] at HW4 HE
    clear hc4
    obtain ⟨c5, hc5⟩ : ∃ c, M.within m.gid 0 4611686018427387904 = c := ⟨_, rfl⟩
    rw [hc5] at HW5 HE
    clear hc5
    obtain ⟨c7, hc7⟩ : ∃ c, M.within m.size 0 ms = c := ⟨_, rfl⟩
    rw [hc7] at HW7 HE
    clear hc7
    obtain ⟨c6, hc6⟩ : ∃ c, (m.sec == p && m.nan == q) = c := ⟨_, rfl⟩
    rw [hc6] at HE
    have H6 := hid hc6
    clear hc6
    obtain ⟨cr, hcr⟩ : ∃ c, (m.real == m.size) = c := ⟨_, rfl⟩
    rw [hcr] at HE
    have HCR := hid hcr
    clear hcr
    obtain ⟨cn, hcn⟩ : ∃ c, ((n : Int) == 0) = c := ⟨_, rfl⟩
    rw [hcn] at HE
    have HCN := hid hcn
    clear hcn
    generalize m.holes = ho at HE HF ⊢
    obtain ⟨g2, hg2⟩ : ∃ g, g = (c1 && c2) := ⟨_, rfl⟩
    have Hg2 := hid hg2
    clear hg2
    obtain ⟨g3, hg3⟩ : ∃ g, g = (g2 && c3) := ⟨_, rfl⟩
    have Hg3 := hid hg3
    clear hg3
    obtain ⟨g4, hg4⟩ : ∃ g, g = (g3 && c4) := ⟨_, rfl⟩
    have Hg4 := hid hg4
    clear hg4
    obtain ⟨g5, hg5⟩ : ∃ g, g = (g4 && c5) := ⟨_, rfl⟩
    have Hg5 := hid hg5
    clear hg5
    obtain ⟨g6, hg6⟩ : ∃ g, g = (g5 && c6) := ⟨_, rfl⟩
    have Hg6 := hid hg6
    clear hg6
    obtain ⟨g7, hg7⟩ : ∃ g, g = (g6 && c7) := ⟨_, rfl⟩
    have Hg7 := hid hg7
    clear hg7
    obtain ⟨r, hr⟩ : ∃ g, g = (cr && cn) := ⟨_, rfl⟩
    have Hr := hid hr
    clear hr
    obtain ⟨s, hs⟩ : ∃ g, g = (ho || r) := ⟨_, rfl⟩
    have Hs := hid hs
    clear hs
    obtain ⟨z, hz⟩ : ∃ g, g = (g7 && s) := ⟨_, rfl⟩
    have Hz := hid hz
    clear hz
    refine wp_region_class (fun V => Below W.heap.size W V) (by kernel_rfl) (by kernel_rfl) (below_drew' (Below.refl _ _)) ?_
    refine quiet_yes 11 (v := ?_) rfl (by kernel_rfl) ?hy11 ?rest11
    case hy11 => (intro W hW; clear hW; go_simp; first | done | with_reducible rfl)
    try simp only [Act.put, List.setIfInBounds_toArray, List.set_cons_zero, List.set_cons_succ]
    refine quiet_yes 12 (v := ?_) rfl (by kernel_rfl) ?hy12 ?rest12
    case hy12 => (intro W hW; obtain ⟨x3, x10, x11, x4, x5, x8, x9, x12, x13, x14, x15⟩ := HF.out W hW; clear hW; go_simp; first | done | with_reducible rfl)
    try simp only [Act.put, List.setIfInBounds_toArray, List.set_cons_zero, List.set_cons_succ]
    refine quiet_yes 13 (v := .bool c1) rfl (by kernel_rfl) ?hy13 ?rest13
    case hy13 => (intro W hW; (go_simp; go_at_call 35; (with_reducible refine (HW1.out W).mono ?_); rintro e w' ⟨rfl, rfl⟩; exact ⟨rfl, hW⟩))
    try simp only [Act.put, List.setIfInBounds_toArray, List.set_cons_zero, List.set_cons_succ]
    refine quiet_yes 14 (v := ?_) rfl (by kernel_rfl) ?hy14 ?rest14
    case hy14 => (intro W hW; clear hW; go_simp; first | done | with_reducible rfl)
    try simp only [Act.put, List.setIfInBounds_toArray, List.set_cons_zero, List.set_cons_succ]
    refine quiet_if 15 (c1) (v := ?_) rfl (by cases c1 <;> kernel_rfl) ?hy15 ?rest15
    case hy15 => (intro hg W hW; subst hg; clear hW; go_simp; first | done | with_reducible rfl)
    try simp only [Act.put, List.setIfInBounds_toArray, List.set_cons_zero, List.set_cons_succ]
    refine quiet_if 16 (c1) (v := ?_) rfl (by cases c1 <;> kernel_rfl) ?hy16 ?rest16
    case hy16 => (intro hg W hW; subst hg; obtain ⟨x3, x10, x11, x4, x5, x8, x9, x12, x13, x14, x15⟩ := HF.out W hW; clear hW; go_simp; first | done | with_reducible rfl)
    try simp only [Act.put, List.setIfInBounds_toArray, List.set_cons_zero, List.set_cons_succ]
    refine quiet_if 17 (c1) (v := ?_) rfl (by cases c1 <;> kernel_rfl) ?hy17 ?rest17
    case hy17 => (intro hg W hW; subst hg; clear hW; go_simp; first | done | with_reducible rfl)
    try simp only [Act.put, List.setIfInBounds_toArray, List.set_cons_zero, List.set_cons_succ]
    refine quiet_if 18 (c1) (v := .bool c2) rfl (by cases c1 <;> kernel_rfl) ?hy18 ?rest18
    case hy18 => (intro hg W hW; subst hg; simp only [cond_true]; (go_simp; go_at_call 35; (with_reducible refine (HW2.out W).mono ?_); rintro e w' ⟨rfl, rfl⟩; exact ⟨rfl, hW⟩))
    try simp only [Act.put, List.setIfInBounds_toArray, List.set_cons_zero, List.set_cons_succ]
    refine quiet_yes 19 (v := .bool g2) rfl (by kernel_rfl) ?hy19 ?rest19
    case hy19 => (intro W hW; clear hW; rw [Hg2.out]; cases c1 <;> (go_simp; first | done | with_reducible rfl))
    try simp only [Act.put, List.setIfInBounds_toArray, List.set_cons_zero, List.set_cons_succ]
    refine quiet_yes 20 (v := ?_) rfl (by kernel_rfl) ?hy20 ?rest20
    case hy20 => (intro W hW; clear hW; go_simp; first | done | with_reducible rfl)
    try simp only [Act.put, List.setIfInBounds_toArray, List.set_cons_zero, List.set_cons_succ]
    refine quiet_if 21 (g2) (v := ?_) rfl (by cases g2 <;> kernel_rfl) ?hy21 ?rest21
    case hy21 => (intro hg W hW; subst hg; clear hW; go_simp; first | done | with_reducible rfl)
    try simp only [Act.put, List.setIfInBounds_toArray, List.set_cons_zero, List.set_cons_succ]
    refine quiet_if 22 (g2) (v := ?_) rfl (by cases g2 <;> kernel_rfl) ?hy22 ?rest22
    case hy22 => (intro hg W hW; subst hg; obtain ⟨x3, x10, x11, x4, x5, x8, x9, x12, x13, x14, x15⟩ := HF.out W hW; clear hW; go_simp; first | done | with_reducible rfl)
    try simp only [Act.put, List.setIfInBounds_toArray, List.set_cons_zero, List.set_cons_succ]
    refine quiet_if 23 (g2) (v := ?_) rfl (by cases g2 <;> kernel_rfl) ?hy23 ?rest23
    case hy23 => (intro hg W hW; subst hg; clear hW; go_simp; first | done | with_reducible rfl)
    try simp only [Act.put, List.setIfInBounds_toArray, List.set_cons_zero, List.set_cons_succ]
    refine quiet_if 24 (g2) (v := .bool c3) rfl (by cases g2 <;> kernel_rfl) ?hy24 ?rest24
    case hy24 => (intro hg W hW; subst hg; simp only [cond_true]; (go_simp; go_at_call 35; (with_reducible refine (HW3.out W).mono ?_); rintro e w' ⟨rfl, rfl⟩; exact ⟨rfl, hW⟩))
    try simp only [Act.put, List.setIfInBounds_toArray, List.set_cons_zero, List.set_cons_succ]
    refine quiet_yes 25 (v := .bool g3) rfl (by kernel_rfl) ?hy25 ?rest25
    case hy25 => (intro W hW; clear hW; rw [Hg3.out]; cases g2 <;> (go_simp; first | done | with_reducible rfl))
    try simp only [Act.put, List.setIfInBounds_toArray, List.set_cons_zero, List.set_cons_succ]
    refine quiet_yes 26 (v := ?_) rfl (by kernel_rfl) ?hy26 ?rest26
    case hy26 => (intro W hW; clear hW; go_simp; first | done | with_reducible rfl)
    try simp only [Act.put, List.setIfInBounds_toArray, List.set_cons_zero, List.set_cons_succ]
    refine quiet_if 27 (g3) (v := ?_) rfl (by cases g3 <;> kernel_rfl) ?hy27 ?rest27
    case hy27 => (intro hg W hW; subst hg; clear hW; go_simp; first | done | with_reducible rfl)
    try simp only [Act.put, List.setIfInBounds_toArray, List.set_cons_zero, List.set_cons_succ]
    refine quiet_if 28 (g3) (v := ?_) rfl (by cases g3 <;> kernel_rfl) ?hy28 ?rest28
    case hy28 => (intro hg W hW; subst hg; obtain ⟨x3, x10, x11, x4, x5, x8, x9, x12, x13, x14, x15⟩ := HF.out W hW; clear hW; go_simp; first | done | with_reducible rfl)
    try simp only [Act.put, List.setIfInBounds_toArray, List.set_cons_zero, List.set_cons_succ]
    refine quiet_if 29 (g3) (v := .bool c4) rfl (by cases g3 <;> kernel_rfl) ?hy29 ?rest29
    case hy29 => (intro hg W hW; subst hg; simp only [cond_true]; (go_simp; go_at_call 35; (with_reducible refine (HW4.out W).mono ?_); rintro e w' ⟨rfl, rfl⟩; exact ⟨rfl, hW⟩))
    try simp only [Act.put, List.setIfInBounds_toArray, List.set_cons_zero, List.set_cons_succ]
    refine quiet_yes 30 (v := .bool g4) rfl (by kernel_rfl) ?hy30 ?rest30
    case hy30 => (intro W hW; clear hW; rw [Hg4.out]; cases g3 <;> (go_simp; first | done | with_reducible rfl))
    try simp only [Act.put, List.setIfInBounds_toArray, List.set_cons_zero, List.set_cons_succ]
    refine quiet_yes 31 (v := ?_) rfl (by kernel_rfl) ?hy31 ?rest31
    case hy31 => (intro W hW; clear hW; go_simp; first | done | with_reducible rfl)
    try simp only [Act.put, List.setIfInBounds_toArray, List.set_cons_zero, List.set_cons_succ]
    refine quiet_if 32 (g4) (v := ?_) rfl (by cases g4 <;> kernel_rfl) ?hy32 ?rest32
    case hy32 => (intro hg W hW; subst hg; clear hW; go_simp; first | done | with_reducible rfl)
    try simp only [Act.put, List.setIfInBounds_toArray, List.set_cons_zero, List.set_cons_succ]
    refine quiet_if 33 (g4) (v := ?_) rfl (by cases g4 <;> kernel_rfl) ?hy33 ?rest33
    case hy33 => (intro hg W hW; subst hg; obtain ⟨x3, x10, x11, x4, x5, x8, x9, x12, x13, x14, x15⟩ := HF.out W hW; clear hW; go_simp; first | done | with_reducible rfl)
    try simp only [Act.put, List.setIfInBounds_toArray, List.set_cons_zero, List.set_cons_succ]
    refine quiet_if 34 (g4) (v := .bool c5) rfl (by cases g4 <;> kernel_rfl) ?hy34 ?rest34
    case hy34 => (intro hg W hW; subst hg; simp only [cond_true]; (go_simp; go_at_call 35; (with_reducible refine (HW5.out W).mono ?_); rintro e w' ⟨rfl, rfl⟩; exact ⟨rfl, hW⟩))
    try simp only [Act.put, List.setIfInBounds_toArray, List.set_cons_zero, List.set_cons_succ]
    refine quiet_yes 35 (v := .bool g5) rfl (by kernel_rfl) ?hy35 ?rest35
    case hy35 => (intro W hW; clear hW; rw [Hg5.out]; cases g4 <;> (go_simp; first | done | with_reducible rfl))
    try simp only [Act.put, List.setIfInBounds_toArray, List.set_cons_zero, List.set_cons_succ]
    refine quiet_yes 36 (v := ?_) rfl (by kernel_rfl) ?hy36 ?rest36
    case hy36 => (intro W hW; clear hW; go_simp; first | done | with_reducible rfl)
    try simp only [Act.put, List.setIfInBounds_toArray, List.set_cons_zero, List.set_cons_succ]
    refine quiet_if 37 (g5) (v := ?_) rfl (by cases g5 <;> kernel_rfl) ?hy37 ?rest37
    case hy37 => (intro hg W hW; subst hg; clear hW; go_simp; first | done | with_reducible rfl)
    try simp only [Act.put, List.setIfInBounds_toArray, List.set_cons_zero, List.set_cons_succ]
    refine quiet_if 38 (g5) (v := ?_) rfl (by cases g5 <;> kernel_rfl) ?hy38 ?rest38
    case hy38 => (intro hg W hW; subst hg; obtain ⟨x3, x10, x11, x4, x5, x8, x9, x12, x13, x14, x15⟩ := HF.out W hW; clear hW; go_simp; first | done | with_reducible rfl)
    try simp only [Act.put, List.setIfInBounds_toArray, List.set_cons_zero, List.set_cons_succ]
    refine quiet_if 39 (g5) (v := ?_) rfl (by cases g5 <;> kernel_rfl) ?hy39 ?rest39
    case hy39 => (intro hg W hW; subst hg; clear hW; go_simp; first | done | with_reducible rfl)
    try simp only [Act.put, List.setIfInBounds_toArray, List.set_cons_zero, List.set_cons_succ]
    refine quiet_if 40 (g5) (v := ?_) rfl (by cases g5 <;> kernel_rfl) ?hy40 ?rest40
    case hy40 => (intro hg W hW; subst hg; obtain ⟨x3, x10, x11, x4, x5, x8, x9, x12, x13, x14, x15⟩ := HF.out W hW; clear hW; go_simp; first | done | with_reducible rfl)
    try simp only [Act.put, List.setIfInBounds_toArray, List.set_cons_zero, List.set_cons_succ]
    refine quiet_if 41 (g5) (v := .agg #[.int .i64 p, .int .i64 q]) rfl (by cases g5 <;> kernel_rfl) ?hy41 ?rest41
    case hy41 => (intro hg W hW; subst hg; simp only [cond_true]; (go_simp; go_at_call 83; refine (HT.out W).mono ?_; rintro e w' ⟨rfl, hb⟩; exact ⟨rfl, hW.trans (hb.mono hW.size)⟩))
    try simp only [Act.put, List.setIfInBounds_toArray, List.set_cons_zero, List.set_cons_succ]
    refine quiet_if 42 (g5) (v := .bool c6) rfl (by cases g5 <;> kernel_rfl) ?hy42 ?rest42
    case hy42 => (intro hg W hW; subst hg; clear hW; simp only [cond_true]; rw [← H6.out]; go_simp; by_cases e1 : m.sec = p <;> by_cases e2 : m.nan = q <;> simp [e1, e2])
    try simp only [Act.put, List.setIfInBounds_toArray, List.set_cons_zero, List.set_cons_succ]
    refine quiet_yes 43 (v := .bool g6) rfl (by kernel_rfl) ?hy43 ?rest43
    case hy43 => (intro W hW; clear hW; rw [Hg6.out]; cases g5 <;> (go_simp; first | done | with_reducible rfl))
    try simp only [Act.put, List.setIfInBounds_toArray, List.set_cons_zero, List.set_cons_succ]
    refine quiet_yes 44 (v := ?_) rfl (by kernel_rfl) ?hy44 ?rest44
    case hy44 => (intro W hW; clear hW; go_simp; first | done | with_reducible rfl)
    try simp only [Act.put, List.setIfInBounds_toArray, List.set_cons_zero, List.set_cons_succ]
    refine quiet_if 45 (g6) (v := ?_) rfl (by cases g6 <;> kernel_rfl) ?hy45 ?rest45
    case hy45 => (intro hg W hW; subst hg; clear hW; go_simp; first | done | with_reducible rfl)
    try simp only [Act.put, List.setIfInBounds_toArray, List.set_cons_zero, List.set_cons_succ]
    refine quiet_if 46 (g6) (v := ?_) rfl (by cases g6 <;> kernel_rfl) ?hy46 ?rest46
    case hy46 => (intro hg W hW; subst hg; obtain ⟨x3, x10, x11, x4, x5, x8, x9, x12, x13, x14, x15⟩ := HF.out W hW; clear hW; go_simp; first | done | with_reducible rfl)
    try simp only [Act.put, List.setIfInBounds_toArray, List.set_cons_zero, List.set_cons_succ]
    refine quiet_if 47 (g6) (v := ?_) rfl (by cases g6 <;> kernel_rfl) ?hy47 ?rest47
    case hy47 => (intro hg W hW; subst hg; clear hW; go_simp; first | done | with_reducible rfl)
    try simp only [Act.put, List.setIfInBounds_toArray, List.set_cons_zero, List.set_cons_succ]
    refine quiet_if 48 (g6) (v := .bool c7) rfl (by cases g6 <;> kernel_rfl) ?hy48 ?rest48
    case hy48 => (intro hg W hW; subst hg; simp only [cond_true]; (go_simp; go_at_call 35; (with_reducible refine (HW7.out W).mono ?_); rintro e w' ⟨rfl, rfl⟩; exact ⟨rfl, hW⟩))
    try simp only [Act.put, List.setIfInBounds_toArray, List.set_cons_zero, List.set_cons_succ]
    refine quiet_yes 49 (v := .bool g7) rfl (by kernel_rfl) ?hy49 ?rest49
    case hy49 => (intro W hW; clear hW; rw [Hg7.out]; cases g6 <;> (go_simp; first | done | with_reducible rfl))
    try simp only [Act.put, List.setIfInBounds_toArray, List.set_cons_zero, List.set_cons_succ]
    refine quiet_yes 50 (v := ?_) rfl (by kernel_rfl) ?hy50 ?rest50
    case hy50 => (intro W hW; clear hW; go_simp; first | done | with_reducible rfl)
    try simp only [Act.put, List.setIfInBounds_toArray, List.set_cons_zero, List.set_cons_succ]
    refine quiet_if 51 (g7) (v := ?_) rfl (by cases g7 <;> kernel_rfl) ?hy51 ?rest51
    case hy51 => (intro hg W hW; subst hg; clear hW; go_simp; first | done | with_reducible rfl)
    try simp only [Act.put, List.setIfInBounds_toArray, List.set_cons_zero, List.set_cons_succ]
    refine quiet_if 52 (g7) (v := ?_) rfl (by cases g7 <;> kernel_rfl) ?hy52 ?rest52
    case hy52 => (intro hg W hW; subst hg; obtain ⟨x3, x10, x11, x4, x5, x8, x9, x12, x13, x14, x15⟩ := HF.out W hW; clear hW; go_simp; first | done | with_reducible rfl)
    try simp only [Act.put, List.setIfInBounds_toArray, List.set_cons_zero, List.set_cons_succ]
    refine quiet_if 53 (g7) (v := .bool ho) rfl (by cases g7 <;> kernel_rfl) ?hy53 ?rest53
    case hy53 => (intro hg W hW; subst hg; clear hW; simp only [cond_true]; go_simp; first | done | with_reducible rfl)
    try simp only [Act.put, List.setIfInBounds_toArray, List.set_cons_zero, List.set_cons_succ]
    refine quiet_if 54 (g7 && !ho) (v := ?_) rfl (by cases g7 <;> cases ho <;> kernel_rfl) ?hy54 ?rest54
    case hy54 => (intro hg W hW; (try rw [hg]); clear hW; go_simp; first | done | with_reducible rfl)
    try simp only [Act.put, List.setIfInBounds_toArray, List.set_cons_zero, List.set_cons_succ]
    refine quiet_if 55 (g7 && !ho) (v := ?_) rfl (by cases g7 <;> cases ho <;> kernel_rfl) ?hy55 ?rest55
    case hy55 => (intro hg W hW; (try rw [hg]); obtain ⟨x3, x10, x11, x4, x5, x8, x9, x12, x13, x14, x15⟩ := HF.out W hW; clear hW; go_simp; first | done | with_reducible rfl)
    try simp only [Act.put, List.setIfInBounds_toArray, List.set_cons_zero, List.set_cons_succ]
    refine quiet_if 56 (g7 && !ho) (v := ?_) rfl (by cases g7 <;> cases ho <;> kernel_rfl) ?hy56 ?rest56
    case hy56 => (intro hg W hW; (try rw [hg]); clear hW; go_simp; first | done | with_reducible rfl)
    try simp only [Act.put, List.setIfInBounds_toArray, List.set_cons_zero, List.set_cons_succ]
    refine quiet_if 57 (g7 && !ho) (v := ?_) rfl (by cases g7 <;> cases ho <;> kernel_rfl) ?hy57 ?rest57
    case hy57 => (intro hg W hW; (try rw [hg]); obtain ⟨x3, x10, x11, x4, x5, x8, x9, x12, x13, x14, x15⟩ := HF.out W hW; clear hW; go_simp; first | done | with_reducible rfl)
    try simp only [Act.put, List.setIfInBounds_toArray, List.set_cons_zero, List.set_cons_succ]
    refine quiet_if 58 (g7 && !ho) (v := .bool cr) rfl (by cases g7 <;> cases ho <;> kernel_rfl) ?hy58 ?rest58
    case hy58 => (intro hg W hW; (try rw [hg]); clear hW; simp only [cond_true]; rw [← HCR.out]; go_simp; first | done | with_reducible rfl)
    try simp only [Act.put, List.setIfInBounds_toArray, List.set_cons_zero, List.set_cons_succ]
    refine quiet_if 59 (g7 && !ho) (v := .bool cr) rfl (by cases g7 <;> cases ho <;> kernel_rfl) ?hy59 ?rest59
    case hy59 => (intro hg W hW; (try rw [hg]); clear hW; simp only [cond_true]; go_simp; first | done | with_reducible rfl)
    try simp only [Act.put, List.setIfInBounds_toArray, List.set_cons_zero, List.set_cons_succ]
    refine quiet_if 60 (g7 && !ho && cr) (v := ?_) rfl (by cases g7 <;> cases ho <;> cases cr <;> kernel_rfl) ?hy60 ?rest60
    case hy60 => (intro hg W hW; (try rw [hg]); clear hW; go_simp; first | done | with_reducible rfl)
    try simp only [Act.put, List.setIfInBounds_toArray, List.set_cons_zero, List.set_cons_succ]
    refine quiet_if 61 (g7 && !ho && cr) (v := ?_) rfl (by cases g7 <;> cases ho <;> cases cr <;> kernel_rfl) ?hy61 ?rest61
    case hy61 => (intro hg W hW; (try rw [hg]); obtain ⟨x3, x10, x11, x4, x5, x8, x9, x12, x13, x14, x15⟩ := HF.out W hW; clear hW; go_simp; first | done | with_reducible rfl)
    try simp only [Act.put, List.setIfInBounds_toArray, List.set_cons_zero, List.set_cons_succ]
    refine quiet_if 62 (g7 && !ho && cr) (v := .int .i64 n) rfl (by cases g7 <;> cases ho <;> cases cr <;> kernel_rfl) ?hy62 ?rest62
    case hy62 => (intro hg W hW; (try rw [hg]); clear hW; simp only [cond_true]; go_simp; first | done | with_reducible rfl)
    try simp only [Act.put, List.setIfInBounds_toArray, List.set_cons_zero, List.set_cons_succ]
    refine quiet_if 63 (g7 && !ho && cr) (v := .bool cn) rfl (by cases g7 <;> cases ho <;> cases cr <;> kernel_rfl) ?hy63 ?rest63
    case hy63 => (intro hg W hW; (try rw [hg]); clear hW; simp only [cond_true]; rw [← HCN.out]; go_simp; first | done | with_reducible rfl)
    try simp only [Act.put, List.setIfInBounds_toArray, List.set_cons_zero, List.set_cons_succ]
    refine quiet_if 64 (g7 && !ho) (v := .bool r) rfl (by cases g7 <;> cases ho <;> kernel_rfl) ?hy64 ?rest64
    case hy64 => (intro hg W hW; clear hW; obtain ⟨h1, h2⟩ := and_not hg;  rw [Hr.out]; simp only [h1, h2]; cases cr <;> (go_simp; first | done | with_reducible rfl))
    try simp only [Act.put, List.setIfInBounds_toArray, List.set_cons_zero, List.set_cons_succ]
    refine quiet_if 65 (g7) (v := .bool s) rfl (by cases g7 <;> kernel_rfl) ?hy65 ?rest65
    case hy65 => (intro hg W hW; clear hW; subst hg; rw [Hs.out]; cases ho <;> (go_simp; first | done | with_reducible rfl))
    try simp only [Act.put, List.setIfInBounds_toArray, List.set_cons_zero, List.set_cons_succ]
    refine quiet_yes 66 (v := .bool z) rfl (by kernel_rfl) ?hy66 ?rest66
    case hy66 => (intro W hW; clear hW; rw [Hz.out]; cases g7 <;> (go_simp; first | done | with_reducible rfl))
    try simp only [Act.put, List.setIfInBounds_toArray, List.set_cons_zero, List.set_cons_succ]
    refine quiet_yes 2 (v := ?_) rfl (by kernel_rfl) ?hy2 ?rest2
    case hy2 => (intro W hW; clear hW; go_simp; first | done | with_reducible rfl)
    try simp only [Act.put, List.setIfInBounds_toArray, List.set_cons_zero, List.set_cons_succ]
    refine wpQuiet_nil ?_
    intro w9 hw9
    clear HW1 HW2 HW3 HW4 HW5 HW7 HF HT H6 HCR HCN
    go_wp2_with fail
    go_ret
    exact ⟨ret_bool' (by rw [HE.out, Hz.out, Hs.out, Hr.out, Hg7.out, Hg6.out, Hg5.out, Hg4.out, Hg3.out, Hg2.out]; cases c1 <;> cases c2 <;> cases c3 <;> cases c4 <;> cases c5 <;> cases c6 <;> cases c7 <;> cases ho <;> cases cr <;> cases cn <;> rfl), HW.out.trans (Below.mono hw9 HW.out.size)⟩
end Go.Proofs.YtlpblnioodcbnaaGreatDoor
