/-
  The document's questions of texts and numbers.
-/
import Derived.Test.YtlpblnioodcbnaaGreatDoorMtRefZ
import Derived.Test.YtlpblnioodcbnaaGreatDoorMtSplits
import Derived.Test.YtlpblnioodcbnaaGreatDoorMtNumbers
import Derived.Test.YtlpblnioodcbnaaGreatDoorMtTextZ
import Derived.Laws.StructEq
import Derived.Deep.CutRange
set_option linter.unusedVariables false
set_option linter.unusedSimpArgs false
namespace Go.Proofs.YtlpblnioodcbnaaGreatDoor
open Go.RowKit Go.Lib
open Px (R2 tl)

theorem wl_pure {P : Program} {ops : Array Oper} {Q : Exit → Act → World → Prop} {a : Act} {w : World} {rest : List Oper} {o : Oper} (d : Nat) (g : Bool) {v : Value} {f : FuncId} {args : Array Value} (hd : o.dst = some d) (hw : Region.wanted o (yielded ops a.tmps) = g)
    (hx : g = true → (execOp a.eval o).run P w = .ok (.enter f args) w) (hc : g = true → Calls P f args w (fun e w' => e = .returned v ∧ w = w')) (h : wpList P ops Q rest (a.put (some d) (bif g then v else undef)) w) : wpList P ops Q (o :: rest) a w := by
  cases g with
  | true =>
    refine wl_call (C := fun w' => w = w') d hd hw (hx rfl) (hc rfl) ?_
    rintro w' rfl
    exact h
  | false =>
    unfold wpList
    rw [if_neg (by rw [hw]; decide), hd]
    exact h
theorem texts_doc (m : M.Met) : M.hasTexts m = (!(((((decide ((m.name.size : Int) < 1) || decide ((m.name.size : Int) > 4096)) || decide ((m.link.size : Int) > 4096)) || decide ((m.user.size : Int) > 4096)) || decide ((m.group.size : Int) > 4096)) || (M.isLink m.kind != !(m.link.toList == []))) &&
    ((((M.noNul (tl m.name) && M.noNul (tl m.link)) && M.noNul (tl m.user)) && M.noNul (tl m.group)) && !(m.kind == 48 && M.slash (tl m.name)))) := by
  unfold M.hasTexts M.isText M.within
  rw [size_empty]
  have hz : m.link = ByteArray.empty ↔ ((m.link.size : Int) = 0) := by
    constructor
    · intro h; rw [h]; rfl
    · intro h
      have h0 : m.link.data.size = 0 := by have : m.link.size = 0 := by omega
                                           exact this
      have h1 : m.link.data = #[] := Array.size_eq_zero_iff.1 h0
      show m.link = ⟨#[]⟩
      cases hq : m.link with
      | mk d => rw [hq] at h1; exact congrArg ByteArray.mk h1
  generalize M.isLink m.kind = b
  generalize M.noNul (tl m.name) = n1
  generalize M.noNul (tl m.link) = n2
  generalize M.noNul (tl m.user) = n3
  generalize M.noNul (tl m.group) = n4
  generalize (m.kind == 48 && M.slash (tl m.name)) = n5
  have e : (m.link.size == 0) = decide ((m.link.size : Int) = 0) := by rw [Bool.eq_iff_iff, beq_iff_eq, decide_eq_true_eq]; omega
  rw [e, Bool.eq_iff_iff]
  cases b <;> cases n1 <;> cases n2 <;> cases n3 <;> cases n4 <;> cases n5 <;> simp <;> (try omega)
  all_goals
    rw [hz]
    omega

set_option maxRecDepth 100000 in
set_option maxHeartbeats 8000000 in
theorem texts10_any (m : M.Met) (pv ev : Value) (w : World) (hm : MIn w m pv ev) : Calls Tryz.prog 42 #[.agg (mcells m pv ev)] w fun e w' => e = .returned (.bool (M.hasTexts m)) ∧ Below w.heap.size w w' := by
  have hb1 : Below w.heap.size w (w.alloc (.cells (mcells m pv ev) 27)) := (Below.refl _ _).alloc (Nat.le_refl _) _
  have HW := hid hb1
  have HE := hid (texts_doc m)
  have hB1 := MB.new w m pv ev
  have hsz := hm.texts
  have HLk := hid (fun W => refLinked_any m.kind W)
  have HN1 := hid (fun W => refNought_any m.name hsz.1 W)
  have HN2 := hid (fun W => refNought_any m.link hsz.2.1 W)
  have HN3 := hid (fun W => refNought_any m.user hsz.2.2.1 W)
  have HN4 := hid (fun W => refNought_any m.group hsz.2.2.2 W)
  have HN5 := hid (fun W => refEnds_any m.name hsz.1 W)
  obtain ⟨v34, h34⟩ : ∃ b, M.isLink m.kind = b := ⟨_, rfl⟩
  obtain ⟨q1, h1⟩ : ∃ b, (!M.noNul (tl m.name)) = b := ⟨_, rfl⟩
  obtain ⟨q2, h2⟩ : ∃ b, (!M.noNul (tl m.link)) = b := ⟨_, rfl⟩
  obtain ⟨q3, h3⟩ : ∃ b, (!M.noNul (tl m.user)) = b := ⟨_, rfl⟩
  obtain ⟨q4, h4⟩ : ∃ b, (!M.noNul (tl m.group)) = b := ⟨_, rfl⟩
  obtain ⟨q5, h5⟩ : ∃ b, M.slash (tl m.name) = b := ⟨_, rfl⟩
  rw [h34] at HLk HE
  rw [h1] at HN1
  rw [h2] at HN2
  rw [h3] at HN3
  rw [h4] at HN4
  rw [h5] at HN5 HE
  have e1 : M.noNul (tl m.name) = !q1 := by rw [← h1, Bool.not_not]
  have e2 : M.noNul (tl m.link) = !q2 := by rw [← h2, Bool.not_not]
  have e3 : M.noNul (tl m.user) = !q3 := by rw [← h3, Bool.not_not]
  have e4 : M.noNul (tl m.group) = !q4 := by rw [← h4, Bool.not_not]
  rw [e1, e2, e3, e4] at HE
  clear hm hb1 hsz e1 e2 e3 e4 h34 h1 h2 h3 h4 h5
  go_enter Tryz.func42, Tryz.ntmps42
  go_upto_region 1 with fail
  have B1 := hid hB1
  clear hB1
  generalize World.alloc w _ = W at *
  have HC := hid (fun (V : World) (hV : Below W.heap.size W V) => B1.out.below hV B1.out.lt)
  obtain ⟨v6, hv6⟩ : ∃ g : Bool, g = (decide ((m.name.size : Int) < 1)) := ⟨_, rfl⟩
  have V6 := hid hv6
  clear hv6
  obtain ⟨v11, hv11⟩ : ∃ g : Bool, g = (decide ((m.name.size : Int) > 4096)) := ⟨_, rfl⟩
  have V11 := hid hv11
  clear hv11
  obtain ⟨v12, hv12⟩ : ∃ g : Bool, g = (v6 || v11) := ⟨_, rfl⟩
  have V12 := hid hv12
  clear hv12
  obtain ⟨v17, hv17⟩ : ∃ g : Bool, g = (decide ((m.link.size : Int) > 4096)) := ⟨_, rfl⟩
  have V17 := hid hv17
  clear hv17
  obtain ⟨v18, hv18⟩ : ∃ g : Bool, g = (v12 || v17) := ⟨_, rfl⟩
  have V18 := hid hv18
  clear hv18
  obtain ⟨v23, hv23⟩ : ∃ g : Bool, g = (decide ((m.user.size : Int) > 4096)) := ⟨_, rfl⟩
  have V23 := hid hv23
  clear hv23
  obtain ⟨v24, hv24⟩ : ∃ g : Bool, g = (v18 || v23) := ⟨_, rfl⟩
  have V24 := hid hv24
  clear hv24
  obtain ⟨v29, hv29⟩ : ∃ g : Bool, g = (decide ((m.group.size : Int) > 4096)) := ⟨_, rfl⟩
  have V29 := hid hv29
  clear hv29
  obtain ⟨v30, hv30⟩ : ∃ g : Bool, g = (v24 || v29) := ⟨_, rfl⟩
  have V30 := hid hv30
  clear hv30
  obtain ⟨v37, hv37⟩ : ∃ g : Bool, g = (!(m.link.toList == [])) := ⟨_, rfl⟩
  have V37 := hid hv37
  clear hv37
  obtain ⟨v38, hv38⟩ : ∃ g : Bool, g = (v34 != v37) := ⟨_, rfl⟩
  have V38 := hid hv38
  clear hv38
  obtain ⟨v39, hv39⟩ : ∃ g : Bool, g = (v30 || v38) := ⟨_, rfl⟩
  have V39 := hid hv39
  clear hv39
  have HE2 := hid (show M.hasTexts m = (!v39 && !((((q1 || q2) || q3) || q4) || ((m.kind == 48) && q5))) from by
    rw [HE.out, V39.out, V38.out, V37.out, V30.out, V29.out, V24.out, V23.out, V18.out, V17.out, V12.out, V11.out, V6.out]
    cases q1 <;> cases q2 <;> cases q3 <;> cases q4 <;> simp)
  clear HE
  refine wp_region_class (fun V => Below W.heap.size W V) (by kernel_rfl) (by kernel_rfl) (below_drew' (Below.refl _ _)) ?_
  refine quiet_yes 3 (v := ?_) rfl (by kernel_rfl) ?hy3 ?rest3
  case hy3 => (intro W hW; clear hW; go_simp; first | done | with_reducible rfl)
  try simp only [Act.put, List.setIfInBounds_toArray, List.set_cons_zero, List.set_cons_succ]
  refine quiet_yes 4 (v := ?_) rfl (by kernel_rfl) ?hy4 ?rest4
  case hy4 => (intro W hW; have z0 := (HC.out W hW).cell (i := 0) (v := .string m.name) rfl; clear hW; go_simp; first | done | with_reducible rfl)
  try simp only [Act.put, List.setIfInBounds_toArray, List.set_cons_zero, List.set_cons_succ]
  refine quiet_yes 5 (v := ?_) rfl (by kernel_rfl) ?hy5 ?rest5
  case hy5 => (intro W hW; clear hW; go_simp; first | done | with_reducible rfl)
  try simp only [Act.put, List.setIfInBounds_toArray, List.set_cons_zero, List.set_cons_succ]
  refine quiet_yes 6 (v := .bool v6) rfl (by kernel_rfl) ?hy6 ?rest6
  case hy6 => (intro W hW; clear hW; rw [V6.out]; (go_simp; first | done | with_reducible rfl))
  try simp only [Act.put, List.setIfInBounds_toArray, List.set_cons_zero, List.set_cons_succ]
  refine quiet_yes 7 (v := ?_) rfl (by kernel_rfl) ?hy7 ?rest7
  case hy7 => (intro W hW; clear hW; go_simp; first | done | with_reducible rfl)
  try simp only [Act.put, List.setIfInBounds_toArray, List.set_cons_zero, List.set_cons_succ]
  refine quiet_if 8 (!v6) (v := ?_) rfl (by cases v6 <;> kernel_rfl) ?hy8 ?rest8
  case hy8 => (intro hg W hW; obtain rfl : v6 = false := (by simpa using hg); clear hW; (try simp only [cond_true]); go_simp; first | done | with_reducible rfl)
  try simp only [Act.put, List.setIfInBounds_toArray, List.set_cons_zero, List.set_cons_succ]
  refine quiet_if 9 (!v6) (v := ?_) rfl (by cases v6 <;> kernel_rfl) ?hy9 ?rest9
  case hy9 => (intro hg W hW; obtain rfl : v6 = false := (by simpa using hg); have z0 := (HC.out W hW).cell (i := 0) (v := .string m.name) rfl; clear hW; (try simp only [cond_true]); go_simp; first | done | with_reducible rfl)
  try simp only [Act.put, List.setIfInBounds_toArray, List.set_cons_zero, List.set_cons_succ]
  refine quiet_if 10 (!v6) (v := ?_) rfl (by cases v6 <;> kernel_rfl) ?hy10 ?rest10
  case hy10 => (intro hg W hW; obtain rfl : v6 = false := (by simpa using hg); clear hW; (try simp only [cond_true]); go_simp; first | done | with_reducible rfl)
  try simp only [Act.put, List.setIfInBounds_toArray, List.set_cons_zero, List.set_cons_succ]
  refine quiet_if 11 (!v6) (v := .bool v11) rfl (by cases v6 <;> kernel_rfl) ?hy11 ?rest11
  case hy11 => (intro hg W hW; obtain rfl : v6 = false := (by simpa using hg); clear hW; (try simp only [cond_true]); rw [V11.out]; (go_simp; first | done | with_reducible rfl))
  try simp only [Act.put, List.setIfInBounds_toArray, List.set_cons_zero, List.set_cons_succ]
  refine quiet_yes 12 (v := .bool v12) rfl (by kernel_rfl) ?hy12 ?rest12
  case hy12 => (intro W hW; clear hW; rw [V12.out]; cases v6 <;> (go_simp; first | done | with_reducible rfl))
  try simp only [Act.put, List.setIfInBounds_toArray, List.set_cons_zero, List.set_cons_succ]
  refine quiet_yes 13 (v := ?_) rfl (by kernel_rfl) ?hy13 ?rest13
  case hy13 => (intro W hW; clear hW; go_simp; first | done | with_reducible rfl)
  try simp only [Act.put, List.setIfInBounds_toArray, List.set_cons_zero, List.set_cons_succ]
  refine quiet_if 14 (!v12) (v := ?_) rfl (by cases v12 <;> kernel_rfl) ?hy14 ?rest14
  case hy14 => (intro hg W hW; obtain rfl : v12 = false := (by simpa using hg); clear hW; (try simp only [cond_true]); go_simp; first | done | with_reducible rfl)
  try simp only [Act.put, List.setIfInBounds_toArray, List.set_cons_zero, List.set_cons_succ]
  refine quiet_if 15 (!v12) (v := ?_) rfl (by cases v12 <;> kernel_rfl) ?hy15 ?rest15
  case hy15 => (intro hg W hW; obtain rfl : v12 = false := (by simpa using hg); have z1 := (HC.out W hW).cell (i := 1) (v := .string m.link) rfl; clear hW; (try simp only [cond_true]); go_simp; first | done | with_reducible rfl)
  try simp only [Act.put, List.setIfInBounds_toArray, List.set_cons_zero, List.set_cons_succ]
  refine quiet_if 16 (!v12) (v := ?_) rfl (by cases v12 <;> kernel_rfl) ?hy16 ?rest16
  case hy16 => (intro hg W hW; obtain rfl : v12 = false := (by simpa using hg); clear hW; (try simp only [cond_true]); go_simp; first | done | with_reducible rfl)
  try simp only [Act.put, List.setIfInBounds_toArray, List.set_cons_zero, List.set_cons_succ]
  refine quiet_if 17 (!v12) (v := .bool v17) rfl (by cases v12 <;> kernel_rfl) ?hy17 ?rest17
  case hy17 => (intro hg W hW; obtain rfl : v12 = false := (by simpa using hg); clear hW; (try simp only [cond_true]); rw [V17.out]; (go_simp; first | done | with_reducible rfl))
  try simp only [Act.put, List.setIfInBounds_toArray, List.set_cons_zero, List.set_cons_succ]
  refine quiet_yes 18 (v := .bool v18) rfl (by kernel_rfl) ?hy18 ?rest18
  case hy18 => (intro W hW; clear hW; rw [V18.out]; cases v12 <;> (go_simp; first | done | with_reducible rfl))
  try simp only [Act.put, List.setIfInBounds_toArray, List.set_cons_zero, List.set_cons_succ]
  refine quiet_yes 19 (v := ?_) rfl (by kernel_rfl) ?hy19 ?rest19
  case hy19 => (intro W hW; clear hW; go_simp; first | done | with_reducible rfl)
  try simp only [Act.put, List.setIfInBounds_toArray, List.set_cons_zero, List.set_cons_succ]
  refine quiet_if 20 (!v18) (v := ?_) rfl (by cases v18 <;> kernel_rfl) ?hy20 ?rest20
  case hy20 => (intro hg W hW; obtain rfl : v18 = false := (by simpa using hg); clear hW; (try simp only [cond_true]); go_simp; first | done | with_reducible rfl)
  try simp only [Act.put, List.setIfInBounds_toArray, List.set_cons_zero, List.set_cons_succ]
  refine quiet_if 21 (!v18) (v := ?_) rfl (by cases v18 <;> kernel_rfl) ?hy21 ?rest21
  case hy21 => (intro hg W hW; obtain rfl : v18 = false := (by simpa using hg); have z6 := (HC.out W hW).cell (i := 6) (v := .string m.user) rfl; clear hW; (try simp only [cond_true]); go_simp; first | done | with_reducible rfl)
  try simp only [Act.put, List.setIfInBounds_toArray, List.set_cons_zero, List.set_cons_succ]
  refine quiet_if 22 (!v18) (v := ?_) rfl (by cases v18 <;> kernel_rfl) ?hy22 ?rest22
  case hy22 => (intro hg W hW; obtain rfl : v18 = false := (by simpa using hg); clear hW; (try simp only [cond_true]); go_simp; first | done | with_reducible rfl)
  try simp only [Act.put, List.setIfInBounds_toArray, List.set_cons_zero, List.set_cons_succ]
  refine quiet_if 23 (!v18) (v := .bool v23) rfl (by cases v18 <;> kernel_rfl) ?hy23 ?rest23
  case hy23 => (intro hg W hW; obtain rfl : v18 = false := (by simpa using hg); clear hW; (try simp only [cond_true]); rw [V23.out]; (go_simp; first | done | with_reducible rfl))
  try simp only [Act.put, List.setIfInBounds_toArray, List.set_cons_zero, List.set_cons_succ]
  refine quiet_yes 24 (v := .bool v24) rfl (by kernel_rfl) ?hy24 ?rest24
  case hy24 => (intro W hW; clear hW; rw [V24.out]; cases v18 <;> (go_simp; first | done | with_reducible rfl))
  try simp only [Act.put, List.setIfInBounds_toArray, List.set_cons_zero, List.set_cons_succ]
  refine quiet_yes 25 (v := ?_) rfl (by kernel_rfl) ?hy25 ?rest25
  case hy25 => (intro W hW; clear hW; go_simp; first | done | with_reducible rfl)
  try simp only [Act.put, List.setIfInBounds_toArray, List.set_cons_zero, List.set_cons_succ]
  refine quiet_if 26 (!v24) (v := ?_) rfl (by cases v24 <;> kernel_rfl) ?hy26 ?rest26
  case hy26 => (intro hg W hW; obtain rfl : v24 = false := (by simpa using hg); clear hW; (try simp only [cond_true]); go_simp; first | done | with_reducible rfl)
  try simp only [Act.put, List.setIfInBounds_toArray, List.set_cons_zero, List.set_cons_succ]
  refine quiet_if 27 (!v24) (v := ?_) rfl (by cases v24 <;> kernel_rfl) ?hy27 ?rest27
  case hy27 => (intro hg W hW; obtain rfl : v24 = false := (by simpa using hg); have z7 := (HC.out W hW).cell (i := 7) (v := .string m.group) rfl; clear hW; (try simp only [cond_true]); go_simp; first | done | with_reducible rfl)
  try simp only [Act.put, List.setIfInBounds_toArray, List.set_cons_zero, List.set_cons_succ]
  refine quiet_if 28 (!v24) (v := ?_) rfl (by cases v24 <;> kernel_rfl) ?hy28 ?rest28
  case hy28 => (intro hg W hW; obtain rfl : v24 = false := (by simpa using hg); clear hW; (try simp only [cond_true]); go_simp; first | done | with_reducible rfl)
  try simp only [Act.put, List.setIfInBounds_toArray, List.set_cons_zero, List.set_cons_succ]
  refine quiet_if 29 (!v24) (v := .bool v29) rfl (by cases v24 <;> kernel_rfl) ?hy29 ?rest29
  case hy29 => (intro hg W hW; obtain rfl : v24 = false := (by simpa using hg); clear hW; (try simp only [cond_true]); rw [V29.out]; (go_simp; first | done | with_reducible rfl))
  try simp only [Act.put, List.setIfInBounds_toArray, List.set_cons_zero, List.set_cons_succ]
  refine quiet_yes 30 (v := .bool v30) rfl (by kernel_rfl) ?hy30 ?rest30
  case hy30 => (intro W hW; clear hW; rw [V30.out]; cases v24 <;> (go_simp; first | done | with_reducible rfl))
  try simp only [Act.put, List.setIfInBounds_toArray, List.set_cons_zero, List.set_cons_succ]
  refine quiet_yes 31 (v := ?_) rfl (by kernel_rfl) ?hy31 ?rest31
  case hy31 => (intro W hW; clear hW; go_simp; first | done | with_reducible rfl)
  try simp only [Act.put, List.setIfInBounds_toArray, List.set_cons_zero, List.set_cons_succ]
  refine quiet_if 32 (!v30) (v := ?_) rfl (by cases v30 <;> kernel_rfl) ?hy32 ?rest32
  case hy32 => (intro hg W hW; obtain rfl : v30 = false := (by simpa using hg); clear hW; (try simp only [cond_true]); go_simp; first | done | with_reducible rfl)
  try simp only [Act.put, List.setIfInBounds_toArray, List.set_cons_zero, List.set_cons_succ]
  refine quiet_if 33 (!v30) (v := ?_) rfl (by cases v30 <;> kernel_rfl) ?hy33 ?rest33
  case hy33 => (intro hg W hW; obtain rfl : v30 = false := (by simpa using hg); have z2 := (HC.out W hW).cell (i := 2) (v := .int .u8 m.kind) rfl; clear hW; (try simp only [cond_true]); go_simp; first | done | with_reducible rfl)
  try simp only [Act.put, List.setIfInBounds_toArray, List.set_cons_zero, List.set_cons_succ]
  refine quiet_if 34 (!v30) (v := .bool v34) rfl (by cases v30 <;> kernel_rfl) ?hy34 ?rest34
  case hy34 => (intro hg W hW; obtain rfl : v30 = false := (by simpa using hg); (try simp only [cond_true]); (go_simp; go_at_call 52; (with_reducible refine (HLk.out W).mono ?_); rintro e w' ⟨rfl, rfl⟩; exact ⟨rfl, hW⟩))
  try simp only [Act.put, List.setIfInBounds_toArray, List.set_cons_zero, List.set_cons_succ]
  refine quiet_if 35 (!v30) (v := ?_) rfl (by cases v30 <;> kernel_rfl) ?hy35 ?rest35
  case hy35 => (intro hg W hW; obtain rfl : v30 = false := (by simpa using hg); clear hW; (try simp only [cond_true]); go_simp; first | done | with_reducible rfl)
  try simp only [Act.put, List.setIfInBounds_toArray, List.set_cons_zero, List.set_cons_succ]
  refine quiet_if 36 (!v30) (v := ?_) rfl (by cases v30 <;> kernel_rfl) ?hy36 ?rest36
  case hy36 => (intro hg W hW; obtain rfl : v30 = false := (by simpa using hg); have z1 := (HC.out W hW).cell (i := 1) (v := .string m.link) rfl; clear hW; (try simp only [cond_true]); go_simp; first | done | with_reducible rfl)
  try simp only [Act.put, List.setIfInBounds_toArray, List.set_cons_zero, List.set_cons_succ]
  refine quiet_if 37 (!v30) (v := .bool v37) rfl (by cases v30 <;> kernel_rfl) ?hy37 ?rest37
  case hy37 => (intro hg W hW; obtain rfl : v30 = false := (by simpa using hg); clear hW; (try simp only [cond_true]); rw [V37.out]; (go_simp; first | done | with_reducible rfl))
  try simp only [Act.put, List.setIfInBounds_toArray, List.set_cons_zero, List.set_cons_succ]
  refine quiet_if 38 (!v30) (v := .bool v38) rfl (by cases v30 <;> kernel_rfl) ?hy38 ?rest38
  case hy38 => (intro hg W hW; obtain rfl : v30 = false := (by simpa using hg); clear hW; (try simp only [cond_true]); rw [V38.out]; cases v34 <;> cases v37 <;> (go_simp; first | done | with_reducible rfl))
  try simp only [Act.put, List.setIfInBounds_toArray, List.set_cons_zero, List.set_cons_succ]
  refine quiet_yes 39 (v := .bool v39) rfl (by kernel_rfl) ?hy39 ?rest39
  case hy39 => (intro W hW; clear hW; rw [V39.out]; cases v30 <;> (go_simp; first | done | with_reducible rfl))
  try simp only [Act.put, List.setIfInBounds_toArray, List.set_cons_zero, List.set_cons_succ]
  refine wpQuiet_nil ?_
  intro w5 hb5
  have B2 := hid (HC.out w5 hb5)
  have HW2 := hid (HW.out.trans (hb5.mono HW.out.size))
  clear HC B1 HW hb5 V6 V11 V12 V17 V18 V23 V24 V29 V30 V37 V38 V39
  have B1 := hid B2.out
  clear B2
  cases v39 with
  | true =>
    go_wp2_with fail
    go_ret
    exact ⟨ret_boolT (by rw [HE2.out]; rfl), HW2.out⟩
  | false =>
    go_upto_region 3 with fail
    obtain ⟨v43b, hv43b⟩ : ∃ g : Bool, g = (!q1) := ⟨_, rfl⟩
    have V43b := hid hv43b
    clear hv43b
    obtain ⟨v48b, hv48b⟩ : ∃ g : Bool, g = (!q2) := ⟨_, rfl⟩
    have V48b := hid hv48b
    clear hv48b
    obtain ⟨v49b, hv49b⟩ : ∃ g : Bool, g = (v43b && v48b) := ⟨_, rfl⟩
    have V49b := hid hv49b
    clear hv49b
    obtain ⟨v54b, hv54b⟩ : ∃ g : Bool, g = (!q3) := ⟨_, rfl⟩
    have V54b := hid hv54b
    clear hv54b
    obtain ⟨v55b, hv55b⟩ : ∃ g : Bool, g = (v49b && v54b) := ⟨_, rfl⟩
    have V55b := hid hv55b
    clear hv55b
    obtain ⟨v60b, hv60b⟩ : ∃ g : Bool, g = (!q4) := ⟨_, rfl⟩
    have V60b := hid hv60b
    clear hv60b
    obtain ⟨v61b, hv61b⟩ : ∃ g : Bool, g = (v55b && v60b) := ⟨_, rfl⟩
    have V61b := hid hv61b
    clear hv61b
    obtain ⟨v65b, hv65b⟩ : ∃ g : Bool, g = ((m.kind == 48)) := ⟨_, rfl⟩
    have V65b := hid hv65b
    clear hv65b
    obtain ⟨v70b, hv70b⟩ : ∃ g : Bool, g = (v65b && q5) := ⟨_, rfl⟩
    have V70b := hid hv70b
    clear hv70b
    obtain ⟨v71b, hv71b⟩ : ∃ g : Bool, g = (!v70b) := ⟨_, rfl⟩
    have V71b := hid hv71b
    clear hv71b
    obtain ⟨v72b, hv72b⟩ : ∃ g : Bool, g = (v61b && v71b) := ⟨_, rfl⟩
    have V72b := hid hv72b
    clear hv72b
    have HE3 := hid (show M.hasTexts m = v72b from by
      rw [HE2.out, V72b.out, V71b.out, V70b.out, V65b.out, V61b.out, V60b.out, V55b.out, V54b.out, V49b.out, V48b.out, V43b.out]
      cases q1 <;> cases q2 <;> cases q3 <;> cases q4 <;> cases q5 <;> simp)
    refine wp_region_lit ?_
    refine wl_yes 40 (v := ?_) rfl (by kernel_rfl) ?hy40b ?rest40b
    case hy40b => (go_simp; first | done | with_reducible rfl)
    try simp only [Act.put, List.setIfInBounds_toArray, List.set_cons_zero, List.set_cons_succ]
    refine wl_yes 41 (v := ?_) rfl (by kernel_rfl) ?hy41b ?rest41b
    case hy41b => (have z0 := B1.out.cell (i := 0) (v := .string m.name) rfl; go_simp; first | done | with_reducible rfl)
    try simp only [Act.put, List.setIfInBounds_toArray, List.set_cons_zero, List.set_cons_succ]
    refine wl_pure 42 true (v := .bool q1) rfl (by kernel_rfl) (fun _ => by go_simp; first | done | with_reducible rfl) (fun _ => HN1.out _) ?_
    try simp only [Act.put, List.setIfInBounds_toArray, List.set_cons_zero, List.set_cons_succ]
    refine wl_yes 43 (v := .bool v43b) rfl (by kernel_rfl) ?hy43b ?rest43b
    case hy43b => (rw [V43b.out]; (go_simp; first | done | with_reducible rfl))
    try simp only [Act.put, List.setIfInBounds_toArray, List.set_cons_zero, List.set_cons_succ]
    refine wl_yes 44 (v := ?_) rfl (by kernel_rfl) ?hy44b ?rest44b
    case hy44b => (go_simp; first | done | with_reducible rfl)
    try simp only [Act.put, List.setIfInBounds_toArray, List.set_cons_zero, List.set_cons_succ]
    refine wl_if 45 v43b (v := ?_) rfl (by cases v43b <;> kernel_rfl) ?hy45b ?rest45b
    case hy45b => (intro hg; obtain rfl : v43b = true := (by exact hg); (try simp only [cond_true]); go_simp; first | done | with_reducible rfl)
    try simp only [Act.put, List.setIfInBounds_toArray, List.set_cons_zero, List.set_cons_succ]
    refine wl_if 46 v43b (v := ?_) rfl (by cases v43b <;> kernel_rfl) ?hy46b ?rest46b
    case hy46b => (intro hg; obtain rfl : v43b = true := (by exact hg); have z1 := B1.out.cell (i := 1) (v := .string m.link) rfl; (try simp only [cond_true]); go_simp; first | done | with_reducible rfl)
    try simp only [Act.put, List.setIfInBounds_toArray, List.set_cons_zero, List.set_cons_succ]
    refine wl_pure 47 v43b (v := .bool q2) rfl (by cases v43b <;> kernel_rfl) (fun hg => by obtain rfl : v43b = true := (by exact hg); (try simp only [cond_true]); go_simp; first | done | with_reducible rfl) (fun _ => HN2.out _) ?_
    try simp only [Act.put, List.setIfInBounds_toArray, List.set_cons_zero, List.set_cons_succ]
    refine wl_if 48 v43b (v := .bool v48b) rfl (by cases v43b <;> kernel_rfl) ?hy48b ?rest48b
    case hy48b => (intro hg; obtain rfl : v43b = true := (by exact hg); (try simp only [cond_true]); rw [V48b.out]; (go_simp; first | done | with_reducible rfl))
    try simp only [Act.put, List.setIfInBounds_toArray, List.set_cons_zero, List.set_cons_succ]
    refine wl_yes 49 (v := .bool v49b) rfl (by kernel_rfl) ?hy49b ?rest49b
    case hy49b => (rw [V49b.out]; cases v43b <;> (go_simp; first | done | with_reducible rfl))
    try simp only [Act.put, List.setIfInBounds_toArray, List.set_cons_zero, List.set_cons_succ]
    refine wl_yes 50 (v := ?_) rfl (by kernel_rfl) ?hy50b ?rest50b
    case hy50b => (go_simp; first | done | with_reducible rfl)
    try simp only [Act.put, List.setIfInBounds_toArray, List.set_cons_zero, List.set_cons_succ]
    refine wl_if 51 v49b (v := ?_) rfl (by cases v49b <;> kernel_rfl) ?hy51b ?rest51b
    case hy51b => (intro hg; obtain rfl : v49b = true := (by exact hg); (try simp only [cond_true]); go_simp; first | done | with_reducible rfl)
    try simp only [Act.put, List.setIfInBounds_toArray, List.set_cons_zero, List.set_cons_succ]
    refine wl_if 52 v49b (v := ?_) rfl (by cases v49b <;> kernel_rfl) ?hy52b ?rest52b
    case hy52b => (intro hg; obtain rfl : v49b = true := (by exact hg); have z6 := B1.out.cell (i := 6) (v := .string m.user) rfl; (try simp only [cond_true]); go_simp; first | done | with_reducible rfl)
    try simp only [Act.put, List.setIfInBounds_toArray, List.set_cons_zero, List.set_cons_succ]
    refine wl_pure 53 v49b (v := .bool q3) rfl (by cases v49b <;> kernel_rfl) (fun hg => by obtain rfl : v49b = true := (by exact hg); (try simp only [cond_true]); go_simp; first | done | with_reducible rfl) (fun _ => HN3.out _) ?_
    try simp only [Act.put, List.setIfInBounds_toArray, List.set_cons_zero, List.set_cons_succ]
    refine wl_if 54 v49b (v := .bool v54b) rfl (by cases v49b <;> kernel_rfl) ?hy54b ?rest54b
    case hy54b => (intro hg; obtain rfl : v49b = true := (by exact hg); (try simp only [cond_true]); rw [V54b.out]; (go_simp; first | done | with_reducible rfl))
    try simp only [Act.put, List.setIfInBounds_toArray, List.set_cons_zero, List.set_cons_succ]
    refine wl_yes 55 (v := .bool v55b) rfl (by kernel_rfl) ?hy55b ?rest55b
    case hy55b => (rw [V55b.out]; cases v49b <;> (go_simp; first | done | with_reducible rfl))
    try simp only [Act.put, List.setIfInBounds_toArray, List.set_cons_zero, List.set_cons_succ]
    refine wl_yes 56 (v := ?_) rfl (by kernel_rfl) ?hy56b ?rest56b
    case hy56b => (go_simp; first | done | with_reducible rfl)
    try simp only [Act.put, List.setIfInBounds_toArray, List.set_cons_zero, List.set_cons_succ]
    refine wl_if 57 v55b (v := ?_) rfl (by cases v55b <;> kernel_rfl) ?hy57b ?rest57b
    case hy57b => (intro hg; obtain rfl : v55b = true := (by exact hg); (try simp only [cond_true]); go_simp; first | done | with_reducible rfl)
    try simp only [Act.put, List.setIfInBounds_toArray, List.set_cons_zero, List.set_cons_succ]
    refine wl_if 58 v55b (v := ?_) rfl (by cases v55b <;> kernel_rfl) ?hy58b ?rest58b
    case hy58b => (intro hg; obtain rfl : v55b = true := (by exact hg); have z7 := B1.out.cell (i := 7) (v := .string m.group) rfl; (try simp only [cond_true]); go_simp; first | done | with_reducible rfl)
    try simp only [Act.put, List.setIfInBounds_toArray, List.set_cons_zero, List.set_cons_succ]
    refine wl_pure 59 v55b (v := .bool q4) rfl (by cases v55b <;> kernel_rfl) (fun hg => by obtain rfl : v55b = true := (by exact hg); (try simp only [cond_true]); go_simp; first | done | with_reducible rfl) (fun _ => HN4.out _) ?_
    try simp only [Act.put, List.setIfInBounds_toArray, List.set_cons_zero, List.set_cons_succ]
    refine wl_if 60 v55b (v := .bool v60b) rfl (by cases v55b <;> kernel_rfl) ?hy60b ?rest60b
    case hy60b => (intro hg; obtain rfl : v55b = true := (by exact hg); (try simp only [cond_true]); rw [V60b.out]; (go_simp; first | done | with_reducible rfl))
    try simp only [Act.put, List.setIfInBounds_toArray, List.set_cons_zero, List.set_cons_succ]
    refine wl_yes 61 (v := .bool v61b) rfl (by kernel_rfl) ?hy61b ?rest61b
    case hy61b => (rw [V61b.out]; cases v55b <;> (go_simp; first | done | with_reducible rfl))
    try simp only [Act.put, List.setIfInBounds_toArray, List.set_cons_zero, List.set_cons_succ]
    refine wl_yes 62 (v := ?_) rfl (by kernel_rfl) ?hy62b ?rest62b
    case hy62b => (go_simp; first | done | with_reducible rfl)
    try simp only [Act.put, List.setIfInBounds_toArray, List.set_cons_zero, List.set_cons_succ]
    refine wl_if 63 v61b (v := ?_) rfl (by cases v61b <;> kernel_rfl) ?hy63b ?rest63b
    case hy63b => (intro hg; obtain rfl : v61b = true := (by exact hg); (try simp only [cond_true]); go_simp; first | done | with_reducible rfl)
    try simp only [Act.put, List.setIfInBounds_toArray, List.set_cons_zero, List.set_cons_succ]
    refine wl_if 64 v61b (v := ?_) rfl (by cases v61b <;> kernel_rfl) ?hy64b ?rest64b
    case hy64b => (intro hg; obtain rfl : v61b = true := (by exact hg); have z2 := B1.out.cell (i := 2) (v := .int .u8 m.kind) rfl; (try simp only [cond_true]); go_simp; first | done | with_reducible rfl)
    try simp only [Act.put, List.setIfInBounds_toArray, List.set_cons_zero, List.set_cons_succ]
    refine wl_if 65 v61b (v := .bool v65b) rfl (by cases v61b <;> kernel_rfl) ?hy65b ?rest65b
    case hy65b => (intro hg; obtain rfl : v61b = true := (by exact hg); (try simp only [cond_true]); rw [V65b.out]; (go_simp; first | done | with_reducible rfl))
    try simp only [Act.put, List.setIfInBounds_toArray, List.set_cons_zero, List.set_cons_succ]
    refine wl_if 66 v61b (v := ?_) rfl (by cases v61b <;> kernel_rfl) ?hy66b ?rest66b
    case hy66b => (intro hg; obtain rfl : v61b = true := (by exact hg); (try simp only [cond_true]); go_simp; first | done | with_reducible rfl)
    try simp only [Act.put, List.setIfInBounds_toArray, List.set_cons_zero, List.set_cons_succ]
    refine wl_if 67 (v61b && v65b) (v := ?_) rfl (by cases v61b <;> cases v65b <;> kernel_rfl) ?hy67b ?rest67b
    case hy67b => (intro hg; obtain ⟨rfl, rfl⟩ : v61b = true ∧ v65b = true := (by revert hg; cases v61b <;> cases v65b <;> simp); (try simp only [cond_true]); go_simp; first | done | with_reducible rfl)
    try simp only [Act.put, List.setIfInBounds_toArray, List.set_cons_zero, List.set_cons_succ]
    refine wl_if 68 (v61b && v65b) (v := ?_) rfl (by cases v61b <;> cases v65b <;> kernel_rfl) ?hy68b ?rest68b
    case hy68b => (intro hg; obtain ⟨rfl, rfl⟩ : v61b = true ∧ v65b = true := (by revert hg; cases v61b <;> cases v65b <;> simp); have z0 := B1.out.cell (i := 0) (v := .string m.name) rfl; (try simp only [cond_true]); go_simp; first | done | with_reducible rfl)
    try simp only [Act.put, List.setIfInBounds_toArray, List.set_cons_zero, List.set_cons_succ]
    refine wl_pure 69 (v61b && v65b) (v := .bool q5) rfl (by cases v61b <;> cases v65b <;> kernel_rfl) (fun hg => by obtain ⟨rfl, rfl⟩ : v61b = true ∧ v65b = true := (by revert hg; cases v61b <;> cases v65b <;> simp); (try simp only [cond_true]); go_simp; first | done | with_reducible rfl) (fun _ => HN5.out _) ?_
    try simp only [Act.put, List.setIfInBounds_toArray, List.set_cons_zero, List.set_cons_succ]
    refine wl_if 70 v61b (v := .bool v70b) rfl (by cases v61b <;> kernel_rfl) ?hy70b ?rest70b
    case hy70b => (intro hg; obtain rfl : v61b = true := (by exact hg); (try simp only [cond_true]); rw [V70b.out]; cases v65b <;> (go_simp; first | done | with_reducible rfl))
    try simp only [Act.put, List.setIfInBounds_toArray, List.set_cons_zero, List.set_cons_succ]
    refine wl_if 71 v61b (v := .bool v71b) rfl (by cases v61b <;> kernel_rfl) ?hy71b ?rest71b
    case hy71b => (intro hg; obtain rfl : v61b = true := (by exact hg); (try simp only [cond_true]); rw [V71b.out]; (go_simp; first | done | with_reducible rfl))
    try simp only [Act.put, List.setIfInBounds_toArray, List.set_cons_zero, List.set_cons_succ]
    refine wl_yes 72 (v := .bool v72b) rfl (by kernel_rfl) ?hy72b ?rest72b
    case hy72b => (rw [V72b.out]; cases v61b <;> (go_simp; first | done | with_reducible rfl))
    try simp only [Act.put, List.setIfInBounds_toArray, List.set_cons_zero, List.set_cons_succ]
    refine wl_yes 2 (v := ?_) rfl (by kernel_rfl) ?hy2b ?rest2b
    case hy2b => (go_simp; first | done | with_reducible rfl)
    try simp only [Act.put, List.setIfInBounds_toArray, List.set_cons_zero, List.set_cons_succ]
    refine wpList_nil ?_
    go_wp2_with fail
    go_ret
    exact ⟨ret_boolT (by rw [HE3.out]), HW2.out⟩

theorem numbers_doc (m : M.Met) : M.hasNumbers m = (!(((!M.within m.mode 0 2097151 || !M.within m.major 0 2097151) || !M.within m.minor 0 2097151) || (!M.isDev m.kind && ((m.major != 0) || (m.minor != 0)))) &&
    (!((!M.within m.uid 0 4611686018427387904 || !M.within m.gid 0 4611686018427387904) || !(m.sec == (St.M.norm (m.sec, m.nan)).1 && m.nan == (St.M.norm (m.sec, m.nan)).2)) &&
    (!(!M.within m.size 0 1099511627776 || ((m.kind != 48) && (m.size != 0))) && (m.holes || ((m.real == m.size) && ((m.parts.length : Int) == 0)))))) := by
  rw [hasNumbers_eq]
  unfold nums8
  generalize (m.sec == (St.M.norm (m.sec, m.nan)).1 && m.nan == (St.M.norm (m.sec, m.nan)).2) = t
  generalize (m.holes || ((m.real == m.size) && ((m.parts.length : Int) == 0))) = u
  generalize M.within m.mode 0 2097151 = b1
  generalize M.within m.uid 0 4611686018427387904 = b2
  generalize M.within m.gid 0 4611686018427387904 = b3
  have ek : (m.kind != 48) = !(m.kind == 48) := rfl
  rw [ek]
  generalize (m.kind == 48) = k
  generalize M.isDev m.kind = d
  unfold M.within
  have e1 : (m.major != 0) = !decide (m.major = 0) := rfl
  have e2 : (m.minor != 0) = !decide (m.minor = 0) := rfl
  have e3 : (m.size != 0) = !decide (m.size = 0) := rfl
  rw [e1, e2, e3, Bool.eq_iff_iff]
  cases t <;> cases u <;> cases b1 <;> cases b2 <;> cases b3 <;> cases k <;> cases d <;> simp <;> omega
set_option maxRecDepth 100000 in
set_option maxHeartbeats 8000000 in
theorem numbers10_any (m : M.Met) (pv ev : Value) (w : World) (hm : MIn w m pv ev) : Calls Tryz.prog 43 #[.agg (mcells m pv ev)] w fun e w' => e = .returned (.bool (M.hasNumbers m)) ∧ Below w.heap.size w w' := by
  obtain ⟨Ap, cp, rfl, _⟩ := hm.parts
  have hnp := hm.nparts
  have hb1 : Below w.heap.size w (w.alloc (.cells (mcells m (.slice Ap m.parts.length cp) ev) 27)) := (Below.refl _ _).alloc (Nat.le_refl _) _
  have HW := hid hb1
  have HE := hid (numbers_doc m)
  have hB1 := MB.new w m (.slice Ap m.parts.length cp) ev
  have P1 := hid (fun W => refWithin_any m.mode 2097151 W)
  have P2 := hid (fun W => refWithin_any m.major 2097151 W)
  have P3 := hid (fun W => refWithin_any m.minor 2097151 W)
  have P4 := hid (fun W => refDevice_any m.kind W)
  have P5 := hid (fun W => refWithin_any m.uid 4611686018427387904 W)
  have P6 := hid (fun W => refWithin_any m.gid 4611686018427387904 W)
  have P7 := hid (fun W => refWithin_any m.size 1099511627776 W)
  have PN := hid (fun W => St.refNorm_any m.sec m.nan W)
  unfold St.TimeIs St.tv at PN
  obtain ⟨p1, h1⟩ : ∃ b, M.within m.mode 0 2097151 = b := ⟨_, rfl⟩
  obtain ⟨p2, h2⟩ : ∃ b, M.within m.major 0 2097151 = b := ⟨_, rfl⟩
  obtain ⟨p3, h3⟩ : ∃ b, M.within m.minor 0 2097151 = b := ⟨_, rfl⟩
  obtain ⟨p4, h4⟩ : ∃ b, M.isDev m.kind = b := ⟨_, rfl⟩
  obtain ⟨p5, h5⟩ : ∃ b, M.within m.uid 0 4611686018427387904 = b := ⟨_, rfl⟩
  obtain ⟨p6, h6⟩ : ∃ b, M.within m.gid 0 4611686018427387904 = b := ⟨_, rfl⟩
  obtain ⟨p7, h7⟩ : ∃ b, M.within m.size 0 1099511627776 = b := ⟨_, rfl⟩
  obtain ⟨x1, y1⟩ : ∃ b, (St.M.norm (m.sec, m.nan)).1 = b := ⟨_, rfl⟩
  obtain ⟨x2, y2⟩ : ∃ b, (St.M.norm (m.sec, m.nan)).2 = b := ⟨_, rfl⟩
  rw [h1] at P1
  rw [h2] at P2
  rw [h3] at P3
  rw [h4] at P4
  rw [h5] at P5
  rw [h6] at P6
  rw [h7] at P7
  rw [y1, y2] at PN
  rw [h1, h2, h3, h4, h5, h6, h7, y1, y2] at HE
  clear hm hb1 h1 h2 h3 h4 h5 h6 h7 y1 y2
  go_enter Tryz.func43, Tryz.ntmps43
  go_upto_region 1 with fail
  have B1 := hid hB1
  clear hB1
  generalize World.alloc w _ = W at *
  obtain ⟨v6a, hv6a⟩ : ∃ g : Bool, g = (!p1) := ⟨_, rfl⟩
  have V6a := hid hv6a
  clear hv6a
  obtain ⟨v11a, hv11a⟩ : ∃ g : Bool, g = (!p2) := ⟨_, rfl⟩
  have V11a := hid hv11a
  clear hv11a
  obtain ⟨v12a, hv12a⟩ : ∃ g : Bool, g = (v6a || v11a) := ⟨_, rfl⟩
  have V12a := hid hv12a
  clear hv12a
  obtain ⟨v17a, hv17a⟩ : ∃ g : Bool, g = (!p3) := ⟨_, rfl⟩
  have V17a := hid hv17a
  clear hv17a
  obtain ⟨v18a, hv18a⟩ : ∃ g : Bool, g = (v12a || v17a) := ⟨_, rfl⟩
  have V18a := hid hv18a
  clear hv18a
  obtain ⟨v23a, hv23a⟩ : ∃ g : Bool, g = (!p4) := ⟨_, rfl⟩
  have V23a := hid hv23a
  clear hv23a
  obtain ⟨v27a, hv27a⟩ : ∃ g : Bool, g = ((m.major != 0)) := ⟨_, rfl⟩
  have V27a := hid hv27a
  clear hv27a
  obtain ⟨v31a, hv31a⟩ : ∃ g : Bool, g = ((m.minor != 0)) := ⟨_, rfl⟩
  have V31a := hid hv31a
  clear hv31a
  obtain ⟨v32a, hv32a⟩ : ∃ g : Bool, g = (v27a || v31a) := ⟨_, rfl⟩
  have V32a := hid hv32a
  clear hv32a
  obtain ⟨v33a, hv33a⟩ : ∃ g : Bool, g = (v23a && v32a) := ⟨_, rfl⟩
  have V33a := hid hv33a
  clear hv33a
  obtain ⟨v34a, hv34a⟩ : ∃ g : Bool, g = (v18a || v33a) := ⟨_, rfl⟩
  have V34a := hid hv34a
  clear hv34a
  obtain ⟨v38b, hv38b⟩ : ∃ g : Bool, g = (!p5) := ⟨_, rfl⟩
  have V38b := hid hv38b
  clear hv38b
  obtain ⟨v43b, hv43b⟩ : ∃ g : Bool, g = (!p6) := ⟨_, rfl⟩
  have V43b := hid hv43b
  clear hv43b
  obtain ⟨v44b, hv44b⟩ : ∃ g : Bool, g = (v38b || v43b) := ⟨_, rfl⟩
  have V44b := hid hv44b
  clear hv44b
  obtain ⟨v51b, hv51b⟩ : ∃ g : Bool, g = (!(m.sec == x1 && m.nan == x2)) := ⟨_, rfl⟩
  have V51b := hid hv51b
  clear hv51b
  obtain ⟨v52b, hv52b⟩ : ∃ g : Bool, g = (v44b || v51b) := ⟨_, rfl⟩
  have V52b := hid hv52b
  clear hv52b
  obtain ⟨v56c, hv56c⟩ : ∃ g : Bool, g = (!p7) := ⟨_, rfl⟩
  have V56c := hid hv56c
  clear hv56c
  obtain ⟨v60c, hv60c⟩ : ∃ g : Bool, g = ((m.kind != 48)) := ⟨_, rfl⟩
  have V60c := hid hv60c
  clear hv60c
  obtain ⟨v64c, hv64c⟩ : ∃ g : Bool, g = ((m.size != 0)) := ⟨_, rfl⟩
  have V64c := hid hv64c
  clear hv64c
  obtain ⟨v65c, hv65c⟩ : ∃ g : Bool, g = (v60c && v64c) := ⟨_, rfl⟩
  have V65c := hid hv65c
  clear hv65c
  obtain ⟨v66c, hv66c⟩ : ∃ g : Bool, g = (v56c || v65c) := ⟨_, rfl⟩
  have V66c := hid hv66c
  clear hv66c
  obtain ⟨v68d, hv68d⟩ : ∃ g : Bool, g = (m.holes) := ⟨_, rfl⟩
  have V68d := hid hv68d
  clear hv68d
  obtain ⟨v74d, hv74d⟩ : ∃ g : Bool, g = ((m.real == m.size)) := ⟨_, rfl⟩
  have V74d := hid hv74d
  clear hv74d
  obtain ⟨v79d, hv79d⟩ : ∃ g : Bool, g = (((m.parts.length : Int) == 0)) := ⟨_, rfl⟩
  have V79d := hid hv79d
  clear hv79d
  obtain ⟨v80d, hv80d⟩ : ∃ g : Bool, g = (v74d && v79d) := ⟨_, rfl⟩
  have V80d := hid hv80d
  clear hv80d
  obtain ⟨v81d, hv81d⟩ : ∃ g : Bool, g = (v68d || v80d) := ⟨_, rfl⟩
  have V81d := hid hv81d
  clear hv81d
  have HE2 := hid (show M.hasNumbers m = (!v34a && (!v52b && (!v66c && v81d))) from by
    rw [HE.out, V34a.out, V33a.out, V32a.out, V31a.out, V27a.out, V23a.out, V18a.out, V17a.out, V12a.out, V11a.out, V6a.out, V52b.out, V51b.out, V44b.out, V43b.out, V38b.out, V66c.out, V65c.out, V64c.out, V60c.out, V56c.out, V81d.out, V80d.out, V79d.out, V74d.out, V68d.out])
  clear HE
  refine wp_region_lit ?_
  refine wl_yes 3 (v := ?_) rfl (by kernel_rfl) ?hy3a ?rest3a
  case hy3a => (go_simp; first | done | with_reducible rfl)
  try simp only [Act.put, List.setIfInBounds_toArray, List.set_cons_zero, List.set_cons_succ]
  refine wl_yes 4 (v := ?_) rfl (by kernel_rfl) ?hy4a ?rest4a
  case hy4a => (have z3 := B1.out.cell (i := 3) (v := .int .i64 m.mode) rfl; go_simp; first | done | with_reducible rfl)
  try simp only [Act.put, List.setIfInBounds_toArray, List.set_cons_zero, List.set_cons_succ]
  refine wl_pure 5 true (v := .bool p1) rfl (by kernel_rfl) (fun _ => by go_simp; first | done | with_reducible rfl) (fun _ => P1.out _) ?_
  try simp only [Act.put, List.setIfInBounds_toArray, List.set_cons_zero, List.set_cons_succ]
  refine wl_yes 6 (v := .bool v6a) rfl (by kernel_rfl) ?hy6a ?rest6a
  case hy6a => (rw [V6a.out]; (go_simp; first | done | with_reducible rfl))
  try simp only [Act.put, List.setIfInBounds_toArray, List.set_cons_zero, List.set_cons_succ]
  refine wl_yes 7 (v := ?_) rfl (by kernel_rfl) ?hy7a ?rest7a
  case hy7a => (go_simp; first | done | with_reducible rfl)
  try simp only [Act.put, List.setIfInBounds_toArray, List.set_cons_zero, List.set_cons_succ]
  refine wl_if 8 (!v6a) (v := ?_) rfl (by cases v6a <;> kernel_rfl) ?hy8a ?rest8a
  case hy8a => (intro hg; obtain rfl : v6a = false := (by simpa using hg); (try simp only [cond_true]); go_simp; first | done | with_reducible rfl)
  try simp only [Act.put, List.setIfInBounds_toArray, List.set_cons_zero, List.set_cons_succ]
  refine wl_if 9 (!v6a) (v := ?_) rfl (by cases v6a <;> kernel_rfl) ?hy9a ?rest9a
  case hy9a => (intro hg; obtain rfl : v6a = false := (by simpa using hg); have z10 := B1.out.cell (i := 10) (v := .int .i64 m.major) rfl; (try simp only [cond_true]); go_simp; first | done | with_reducible rfl)
  try simp only [Act.put, List.setIfInBounds_toArray, List.set_cons_zero, List.set_cons_succ]
  refine wl_pure 10 (!v6a) (v := .bool p2) rfl (by cases v6a <;> kernel_rfl) (fun hg => by obtain rfl : v6a = false := (by simpa using hg); (try simp only [cond_true]); go_simp; first | done | with_reducible rfl) (fun _ => P2.out _) ?_
  try simp only [Act.put, List.setIfInBounds_toArray, List.set_cons_zero, List.set_cons_succ]
  refine wl_if 11 (!v6a) (v := .bool v11a) rfl (by cases v6a <;> kernel_rfl) ?hy11a ?rest11a
  case hy11a => (intro hg; obtain rfl : v6a = false := (by simpa using hg); (try simp only [cond_true]); rw [V11a.out]; (go_simp; first | done | with_reducible rfl))
  try simp only [Act.put, List.setIfInBounds_toArray, List.set_cons_zero, List.set_cons_succ]
  refine wl_yes 12 (v := .bool v12a) rfl (by kernel_rfl) ?hy12a ?rest12a
  case hy12a => (rw [V12a.out]; cases v6a <;> (go_simp; first | done | with_reducible rfl))
  try simp only [Act.put, List.setIfInBounds_toArray, List.set_cons_zero, List.set_cons_succ]
  refine wl_yes 13 (v := ?_) rfl (by kernel_rfl) ?hy13a ?rest13a
  case hy13a => (go_simp; first | done | with_reducible rfl)
  try simp only [Act.put, List.setIfInBounds_toArray, List.set_cons_zero, List.set_cons_succ]
  refine wl_if 14 (!v12a) (v := ?_) rfl (by cases v12a <;> kernel_rfl) ?hy14a ?rest14a
  case hy14a => (intro hg; obtain rfl : v12a = false := (by simpa using hg); (try simp only [cond_true]); go_simp; first | done | with_reducible rfl)
  try simp only [Act.put, List.setIfInBounds_toArray, List.set_cons_zero, List.set_cons_succ]
  refine wl_if 15 (!v12a) (v := ?_) rfl (by cases v12a <;> kernel_rfl) ?hy15a ?rest15a
  case hy15a => (intro hg; obtain rfl : v12a = false := (by simpa using hg); have z11 := B1.out.cell (i := 11) (v := .int .i64 m.minor) rfl; (try simp only [cond_true]); go_simp; first | done | with_reducible rfl)
  try simp only [Act.put, List.setIfInBounds_toArray, List.set_cons_zero, List.set_cons_succ]
  refine wl_pure 16 (!v12a) (v := .bool p3) rfl (by cases v12a <;> kernel_rfl) (fun hg => by obtain rfl : v12a = false := (by simpa using hg); (try simp only [cond_true]); go_simp; first | done | with_reducible rfl) (fun _ => P3.out _) ?_
  try simp only [Act.put, List.setIfInBounds_toArray, List.set_cons_zero, List.set_cons_succ]
  refine wl_if 17 (!v12a) (v := .bool v17a) rfl (by cases v12a <;> kernel_rfl) ?hy17a ?rest17a
  case hy17a => (intro hg; obtain rfl : v12a = false := (by simpa using hg); (try simp only [cond_true]); rw [V17a.out]; (go_simp; first | done | with_reducible rfl))
  try simp only [Act.put, List.setIfInBounds_toArray, List.set_cons_zero, List.set_cons_succ]
  refine wl_yes 18 (v := .bool v18a) rfl (by kernel_rfl) ?hy18a ?rest18a
  case hy18a => (rw [V18a.out]; cases v12a <;> (go_simp; first | done | with_reducible rfl))
  try simp only [Act.put, List.setIfInBounds_toArray, List.set_cons_zero, List.set_cons_succ]
  refine wl_yes 19 (v := ?_) rfl (by kernel_rfl) ?hy19a ?rest19a
  case hy19a => (go_simp; first | done | with_reducible rfl)
  try simp only [Act.put, List.setIfInBounds_toArray, List.set_cons_zero, List.set_cons_succ]
  refine wl_if 20 (!v18a) (v := ?_) rfl (by cases v18a <;> kernel_rfl) ?hy20a ?rest20a
  case hy20a => (intro hg; obtain rfl : v18a = false := (by simpa using hg); (try simp only [cond_true]); go_simp; first | done | with_reducible rfl)
  try simp only [Act.put, List.setIfInBounds_toArray, List.set_cons_zero, List.set_cons_succ]
  refine wl_if 21 (!v18a) (v := ?_) rfl (by cases v18a <;> kernel_rfl) ?hy21a ?rest21a
  case hy21a => (intro hg; obtain rfl : v18a = false := (by simpa using hg); have z2 := B1.out.cell (i := 2) (v := .int .u8 m.kind) rfl; (try simp only [cond_true]); go_simp; first | done | with_reducible rfl)
  try simp only [Act.put, List.setIfInBounds_toArray, List.set_cons_zero, List.set_cons_succ]
  refine wl_pure 22 (!v18a) (v := .bool p4) rfl (by cases v18a <;> kernel_rfl) (fun hg => by obtain rfl : v18a = false := (by simpa using hg); (try simp only [cond_true]); go_simp; first | done | with_reducible rfl) (fun _ => P4.out _) ?_
  try simp only [Act.put, List.setIfInBounds_toArray, List.set_cons_zero, List.set_cons_succ]
  refine wl_if 23 (!v18a) (v := .bool v23a) rfl (by cases v18a <;> kernel_rfl) ?hy23a ?rest23a
  case hy23a => (intro hg; obtain rfl : v18a = false := (by simpa using hg); (try simp only [cond_true]); rw [V23a.out]; (go_simp; first | done | with_reducible rfl))
  try simp only [Act.put, List.setIfInBounds_toArray, List.set_cons_zero, List.set_cons_succ]
  refine wl_if 24 (!v18a) (v := ?_) rfl (by cases v18a <;> kernel_rfl) ?hy24a ?rest24a
  case hy24a => (intro hg; obtain rfl : v18a = false := (by simpa using hg); (try simp only [cond_true]); go_simp; first | done | with_reducible rfl)
  try simp only [Act.put, List.setIfInBounds_toArray, List.set_cons_zero, List.set_cons_succ]
  refine wl_if 25 (!v18a && v23a) (v := ?_) rfl (by cases v18a <;> cases v23a <;> kernel_rfl) ?hy25a ?rest25a
  case hy25a => (intro hg; obtain ⟨rfl, rfl⟩ : v18a = false ∧ v23a = true := (by revert hg; cases v18a <;> cases v23a <;> simp); (try simp only [cond_true]); go_simp; first | done | with_reducible rfl)
  try simp only [Act.put, List.setIfInBounds_toArray, List.set_cons_zero, List.set_cons_succ]
  refine wl_if 26 (!v18a && v23a) (v := ?_) rfl (by cases v18a <;> cases v23a <;> kernel_rfl) ?hy26a ?rest26a
  case hy26a => (intro hg; obtain ⟨rfl, rfl⟩ : v18a = false ∧ v23a = true := (by revert hg; cases v18a <;> cases v23a <;> simp); have z10 := B1.out.cell (i := 10) (v := .int .i64 m.major) rfl; (try simp only [cond_true]); go_simp; first | done | with_reducible rfl)
  try simp only [Act.put, List.setIfInBounds_toArray, List.set_cons_zero, List.set_cons_succ]
  refine wl_if 27 (!v18a && v23a) (v := .bool v27a) rfl (by cases v18a <;> cases v23a <;> kernel_rfl) ?hy27a ?rest27a
  case hy27a => (intro hg; obtain ⟨rfl, rfl⟩ : v18a = false ∧ v23a = true := (by revert hg; cases v18a <;> cases v23a <;> simp); (try simp only [cond_true]); rw [V27a.out]; (go_simp; first | done | with_reducible rfl))
  try simp only [Act.put, List.setIfInBounds_toArray, List.set_cons_zero, List.set_cons_succ]
  refine wl_if 28 (!v18a && v23a) (v := ?_) rfl (by cases v18a <;> cases v23a <;> kernel_rfl) ?hy28a ?rest28a
  case hy28a => (intro hg; obtain ⟨rfl, rfl⟩ : v18a = false ∧ v23a = true := (by revert hg; cases v18a <;> cases v23a <;> simp); (try simp only [cond_true]); go_simp; first | done | with_reducible rfl)
  try simp only [Act.put, List.setIfInBounds_toArray, List.set_cons_zero, List.set_cons_succ]
  refine wl_if 29 (!v18a && v23a && !v27a) (v := ?_) rfl (by cases v18a <;> cases v23a <;> cases v27a <;> kernel_rfl) ?hy29a ?rest29a
  case hy29a => (intro hg; obtain ⟨rfl, rfl, rfl⟩ : v18a = false ∧ v23a = true ∧ v27a = false := (by revert hg; cases v18a <;> cases v23a <;> cases v27a <;> simp); (try simp only [cond_true]); go_simp; first | done | with_reducible rfl)
  try simp only [Act.put, List.setIfInBounds_toArray, List.set_cons_zero, List.set_cons_succ]
  refine wl_if 30 (!v18a && v23a && !v27a) (v := ?_) rfl (by cases v18a <;> cases v23a <;> cases v27a <;> kernel_rfl) ?hy30a ?rest30a
  case hy30a => (intro hg; obtain ⟨rfl, rfl, rfl⟩ : v18a = false ∧ v23a = true ∧ v27a = false := (by revert hg; cases v18a <;> cases v23a <;> cases v27a <;> simp); have z11 := B1.out.cell (i := 11) (v := .int .i64 m.minor) rfl; (try simp only [cond_true]); go_simp; first | done | with_reducible rfl)
  try simp only [Act.put, List.setIfInBounds_toArray, List.set_cons_zero, List.set_cons_succ]
  refine wl_if 31 (!v18a && v23a && !v27a) (v := .bool v31a) rfl (by cases v18a <;> cases v23a <;> cases v27a <;> kernel_rfl) ?hy31a ?rest31a
  case hy31a => (intro hg; obtain ⟨rfl, rfl, rfl⟩ : v18a = false ∧ v23a = true ∧ v27a = false := (by revert hg; cases v18a <;> cases v23a <;> cases v27a <;> simp); (try simp only [cond_true]); rw [V31a.out]; (go_simp; first | done | with_reducible rfl))
  try simp only [Act.put, List.setIfInBounds_toArray, List.set_cons_zero, List.set_cons_succ]
  refine wl_if 32 (!v18a && v23a) (v := .bool v32a) rfl (by cases v18a <;> cases v23a <;> kernel_rfl) ?hy32a ?rest32a
  case hy32a => (intro hg; obtain ⟨rfl, rfl⟩ : v18a = false ∧ v23a = true := (by revert hg; cases v18a <;> cases v23a <;> simp); (try simp only [cond_true]); rw [V32a.out]; cases v27a <;> (go_simp; first | done | with_reducible rfl))
  try simp only [Act.put, List.setIfInBounds_toArray, List.set_cons_zero, List.set_cons_succ]
  refine wl_if 33 (!v18a) (v := .bool v33a) rfl (by cases v18a <;> kernel_rfl) ?hy33a ?rest33a
  case hy33a => (intro hg; obtain rfl : v18a = false := (by simpa using hg); (try simp only [cond_true]); rw [V33a.out]; cases v23a <;> (go_simp; first | done | with_reducible rfl))
  try simp only [Act.put, List.setIfInBounds_toArray, List.set_cons_zero, List.set_cons_succ]
  refine wl_yes 34 (v := .bool v34a) rfl (by kernel_rfl) ?hy34a ?rest34a
  case hy34a => (rw [V34a.out]; cases v18a <;> (go_simp; first | done | with_reducible rfl))
  try simp only [Act.put, List.setIfInBounds_toArray, List.set_cons_zero, List.set_cons_succ]
  refine wpList_nil ?_
  cases v34a with
  | true =>
    go_wp2_with fail
    go_ret
    exact ⟨ret_boolT (by rw [HE2.out]; rfl), HW.out⟩
  | false =>
    have HC := hid (fun (V : World) (hV : Below W.heap.size W V) => B1.out.below hV B1.out.lt)
    go_upto_region 3 with fail
    refine wp_region_class (fun V => Below W.heap.size W V) (by kernel_rfl) (by kernel_rfl) (below_drew' (Below.refl _ _)) ?_
    refine quiet_yes 35 (v := ?_) rfl (by kernel_rfl) ?hy35b ?rest35b
    case hy35b => (intro W hW; clear hW; go_simp; first | done | with_reducible rfl)
    try simp only [Act.put, List.setIfInBounds_toArray, List.set_cons_zero, List.set_cons_succ]
    refine quiet_yes 36 (v := ?_) rfl (by kernel_rfl) ?hy36b ?rest36b
    case hy36b => (intro W hW; have z4 := (HC.out W hW).cell (i := 4) (v := .int .i64 m.uid) rfl; clear hW; go_simp; first | done | with_reducible rfl)
    try simp only [Act.put, List.setIfInBounds_toArray, List.set_cons_zero, List.set_cons_succ]
    refine quiet_yes 37 (v := .bool p5) rfl (by kernel_rfl) ?hy37b ?rest37b
    case hy37b => (intro W hW; (go_simp; go_at_call 95; (with_reducible refine (P5.out W).mono ?_); rintro e w' ⟨rfl, rfl⟩; exact ⟨rfl, hW⟩))
    try simp only [Act.put, List.setIfInBounds_toArray, List.set_cons_zero, List.set_cons_succ]
    refine quiet_yes 38 (v := .bool v38b) rfl (by kernel_rfl) ?hy38b ?rest38b
    case hy38b => (intro W hW; clear hW; rw [V38b.out]; (go_simp; first | done | with_reducible rfl))
    try simp only [Act.put, List.setIfInBounds_toArray, List.set_cons_zero, List.set_cons_succ]
    refine quiet_yes 39 (v := ?_) rfl (by kernel_rfl) ?hy39b ?rest39b
    case hy39b => (intro W hW; clear hW; go_simp; first | done | with_reducible rfl)
    try simp only [Act.put, List.setIfInBounds_toArray, List.set_cons_zero, List.set_cons_succ]
    refine quiet_if 40 (!v38b) (v := ?_) rfl (by cases v38b <;> kernel_rfl) ?hy40b ?rest40b
    case hy40b => (intro hg W hW; obtain rfl : v38b = false := (by simpa using hg); clear hW; (try simp only [cond_true]); go_simp; first | done | with_reducible rfl)
    try simp only [Act.put, List.setIfInBounds_toArray, List.set_cons_zero, List.set_cons_succ]
    refine quiet_if 41 (!v38b) (v := ?_) rfl (by cases v38b <;> kernel_rfl) ?hy41b ?rest41b
    case hy41b => (intro hg W hW; obtain rfl : v38b = false := (by simpa using hg); have z5 := (HC.out W hW).cell (i := 5) (v := .int .i64 m.gid) rfl; clear hW; (try simp only [cond_true]); go_simp; first | done | with_reducible rfl)
    try simp only [Act.put, List.setIfInBounds_toArray, List.set_cons_zero, List.set_cons_succ]
    refine quiet_if 42 (!v38b) (v := .bool p6) rfl (by cases v38b <;> kernel_rfl) ?hy42b ?rest42b
    case hy42b => (intro hg W hW; obtain rfl : v38b = false := (by simpa using hg); (try simp only [cond_true]); (go_simp; go_at_call 95; (with_reducible refine (P6.out W).mono ?_); rintro e w' ⟨rfl, rfl⟩; exact ⟨rfl, hW⟩))
    try simp only [Act.put, List.setIfInBounds_toArray, List.set_cons_zero, List.set_cons_succ]
    refine quiet_if 43 (!v38b) (v := .bool v43b) rfl (by cases v38b <;> kernel_rfl) ?hy43b ?rest43b
    case hy43b => (intro hg W hW; obtain rfl : v38b = false := (by simpa using hg); clear hW; (try simp only [cond_true]); rw [V43b.out]; (go_simp; first | done | with_reducible rfl))
    try simp only [Act.put, List.setIfInBounds_toArray, List.set_cons_zero, List.set_cons_succ]
    refine quiet_yes 44 (v := .bool v44b) rfl (by kernel_rfl) ?hy44b ?rest44b
    case hy44b => (intro W hW; clear hW; rw [V44b.out]; cases v38b <;> (go_simp; first | done | with_reducible rfl))
    try simp only [Act.put, List.setIfInBounds_toArray, List.set_cons_zero, List.set_cons_succ]
    refine quiet_yes 45 (v := ?_) rfl (by kernel_rfl) ?hy45b ?rest45b
    case hy45b => (intro W hW; clear hW; go_simp; first | done | with_reducible rfl)
    try simp only [Act.put, List.setIfInBounds_toArray, List.set_cons_zero, List.set_cons_succ]
    refine quiet_if 46 (!v44b) (v := ?_) rfl (by cases v44b <;> kernel_rfl) ?hy46b ?rest46b
    case hy46b => (intro hg W hW; obtain rfl : v44b = false := (by simpa using hg); clear hW; (try simp only [cond_true]); go_simp; first | done | with_reducible rfl)
    try simp only [Act.put, List.setIfInBounds_toArray, List.set_cons_zero, List.set_cons_succ]
    refine quiet_if 47 (!v44b) (v := ?_) rfl (by cases v44b <;> kernel_rfl) ?hy47b ?rest47b
    case hy47b => (intro hg W hW; obtain rfl : v44b = false := (by simpa using hg); have z8 := (HC.out W hW).cell (i := 8) (v := .int .i64 m.sec) rfl; have z9 := (HC.out W hW).cell (i := 9) (v := .int .i64 m.nan) rfl; clear hW; (try simp only [cond_true]); go_simp; first | done | with_reducible rfl)
    try simp only [Act.put, List.setIfInBounds_toArray, List.set_cons_zero, List.set_cons_succ]
    refine quiet_if 48 (!v44b) (v := ?_) rfl (by cases v44b <;> kernel_rfl) ?hy48b ?rest48b
    case hy48b => (intro hg W hW; obtain rfl : v44b = false := (by simpa using hg); clear hW; (try simp only [cond_true]); go_simp; first | done | with_reducible rfl)
    try simp only [Act.put, List.setIfInBounds_toArray, List.set_cons_zero, List.set_cons_succ]
    refine quiet_if 49 (!v44b) (v := ?_) rfl (by cases v44b <;> kernel_rfl) ?hy49b ?rest49b
    case hy49b => (intro hg W hW; obtain rfl : v44b = false := (by simpa using hg); have z8 := (HC.out W hW).cell (i := 8) (v := .int .i64 m.sec) rfl; have z9 := (HC.out W hW).cell (i := 9) (v := .int .i64 m.nan) rfl; clear hW; (try simp only [cond_true]); go_simp; first | done | with_reducible rfl)
    try simp only [Act.put, List.setIfInBounds_toArray, List.set_cons_zero, List.set_cons_succ]
    refine quiet_if 50 (!v44b) (v := .agg #[.int .i64 x1, .int .i64 x2]) rfl (by cases v44b <;> kernel_rfl) ?hy50b ?rest50b
    case hy50b => (intro hg W hW; obtain rfl : v44b = false := (by simpa using hg); (try simp only [cond_true]); (go_simp; go_at_call 57; (with_reducible refine (PN.out W).mono ?_); rintro e w' ⟨rfl, hb⟩; exact ⟨rfl, hW.trans (hb.mono hW.size)⟩))
    try simp only [Act.put, List.setIfInBounds_toArray, List.set_cons_zero, List.set_cons_succ]
    refine quiet_if 51 (!v44b) (v := .bool v51b) rfl (by cases v44b <;> kernel_rfl) ?hy51b ?rest51b
    case hy51b => (intro hg W hW; obtain rfl : v44b = false := (by simpa using hg); clear hW; (try simp only [cond_true]); rw [V51b.out]; go_simp; by_cases e1 : m.sec = x1 <;> by_cases e2 : m.nan = x2 <;> simp [e1, e2])
    try simp only [Act.put, List.setIfInBounds_toArray, List.set_cons_zero, List.set_cons_succ]
    refine quiet_yes 52 (v := .bool v52b) rfl (by kernel_rfl) ?hy52b ?rest52b
    case hy52b => (intro W hW; clear hW; rw [V52b.out]; cases v44b <;> (go_simp; first | done | with_reducible rfl))
    try simp only [Act.put, List.setIfInBounds_toArray, List.set_cons_zero, List.set_cons_succ]
    refine wpQuiet_nil ?_
    intro w5 hb5
    have B2 := hid (HC.out w5 hb5)
    have HW2 := hid (HW.out.trans (hb5.mono HW.out.size))
    clear HC B1 HW hb5
    have B1 := hid B2.out
    clear B2
    cases v52b with
    | true =>
      go_wp2_with fail
      go_ret
      exact ⟨ret_boolT (by rw [HE2.out]; rfl), HW2.out⟩
    | false =>
      go_upto_region 5 with fail
      refine wp_region_lit ?_
      refine wl_yes 53 (v := ?_) rfl (by kernel_rfl) ?hy53c ?rest53c
      case hy53c => (go_simp; first | done | with_reducible rfl)
      try simp only [Act.put, List.setIfInBounds_toArray, List.set_cons_zero, List.set_cons_succ]
      refine wl_yes 54 (v := ?_) rfl (by kernel_rfl) ?hy54c ?rest54c
      case hy54c => (have z12 := B1.out.cell (i := 12) (v := .int .i64 m.size) rfl; go_simp; first | done | with_reducible rfl)
      try simp only [Act.put, List.setIfInBounds_toArray, List.set_cons_zero, List.set_cons_succ]
      refine wl_pure 55 true (v := .bool p7) rfl (by kernel_rfl) (fun _ => by go_simp; first | done | with_reducible rfl) (fun _ => P7.out _) ?_
      try simp only [Act.put, List.setIfInBounds_toArray, List.set_cons_zero, List.set_cons_succ]
      refine wl_yes 56 (v := .bool v56c) rfl (by kernel_rfl) ?hy56c ?rest56c
      case hy56c => (rw [V56c.out]; (go_simp; first | done | with_reducible rfl))
      try simp only [Act.put, List.setIfInBounds_toArray, List.set_cons_zero, List.set_cons_succ]
      refine wl_yes 57 (v := ?_) rfl (by kernel_rfl) ?hy57c ?rest57c
      case hy57c => (go_simp; first | done | with_reducible rfl)
      try simp only [Act.put, List.setIfInBounds_toArray, List.set_cons_zero, List.set_cons_succ]
      refine wl_if 58 (!v56c) (v := ?_) rfl (by cases v56c <;> kernel_rfl) ?hy58c ?rest58c
      case hy58c => (intro hg; obtain rfl : v56c = false := (by simpa using hg); (try simp only [cond_true]); go_simp; first | done | with_reducible rfl)
      try simp only [Act.put, List.setIfInBounds_toArray, List.set_cons_zero, List.set_cons_succ]
      refine wl_if 59 (!v56c) (v := ?_) rfl (by cases v56c <;> kernel_rfl) ?hy59c ?rest59c
      case hy59c => (intro hg; obtain rfl : v56c = false := (by simpa using hg); have z2 := B1.out.cell (i := 2) (v := .int .u8 m.kind) rfl; (try simp only [cond_true]); go_simp; first | done | with_reducible rfl)
      try simp only [Act.put, List.setIfInBounds_toArray, List.set_cons_zero, List.set_cons_succ]
      refine wl_if 60 (!v56c) (v := .bool v60c) rfl (by cases v56c <;> kernel_rfl) ?hy60c ?rest60c
      case hy60c => (intro hg; obtain rfl : v56c = false := (by simpa using hg); (try simp only [cond_true]); rw [V60c.out]; (go_simp; first | done | with_reducible rfl))
      try simp only [Act.put, List.setIfInBounds_toArray, List.set_cons_zero, List.set_cons_succ]
      refine wl_if 61 (!v56c) (v := ?_) rfl (by cases v56c <;> kernel_rfl) ?hy61c ?rest61c
      case hy61c => (intro hg; obtain rfl : v56c = false := (by simpa using hg); (try simp only [cond_true]); go_simp; first | done | with_reducible rfl)
      try simp only [Act.put, List.setIfInBounds_toArray, List.set_cons_zero, List.set_cons_succ]
      refine wl_if 62 (!v56c && v60c) (v := ?_) rfl (by cases v56c <;> cases v60c <;> kernel_rfl) ?hy62c ?rest62c
      case hy62c => (intro hg; obtain ⟨rfl, rfl⟩ : v56c = false ∧ v60c = true := (by revert hg; cases v56c <;> cases v60c <;> simp); (try simp only [cond_true]); go_simp; first | done | with_reducible rfl)
      try simp only [Act.put, List.setIfInBounds_toArray, List.set_cons_zero, List.set_cons_succ]
      refine wl_if 63 (!v56c && v60c) (v := ?_) rfl (by cases v56c <;> cases v60c <;> kernel_rfl) ?hy63c ?rest63c
      case hy63c => (intro hg; obtain ⟨rfl, rfl⟩ : v56c = false ∧ v60c = true := (by revert hg; cases v56c <;> cases v60c <;> simp); have z12 := B1.out.cell (i := 12) (v := .int .i64 m.size) rfl; (try simp only [cond_true]); go_simp; first | done | with_reducible rfl)
      try simp only [Act.put, List.setIfInBounds_toArray, List.set_cons_zero, List.set_cons_succ]
      refine wl_if 64 (!v56c && v60c) (v := .bool v64c) rfl (by cases v56c <;> cases v60c <;> kernel_rfl) ?hy64c ?rest64c
      case hy64c => (intro hg; obtain ⟨rfl, rfl⟩ : v56c = false ∧ v60c = true := (by revert hg; cases v56c <;> cases v60c <;> simp); (try simp only [cond_true]); rw [V64c.out]; (go_simp; first | done | with_reducible rfl))
      try simp only [Act.put, List.setIfInBounds_toArray, List.set_cons_zero, List.set_cons_succ]
      refine wl_if 65 (!v56c) (v := .bool v65c) rfl (by cases v56c <;> kernel_rfl) ?hy65c ?rest65c
      case hy65c => (intro hg; obtain rfl : v56c = false := (by simpa using hg); (try simp only [cond_true]); rw [V65c.out]; cases v60c <;> (go_simp; first | done | with_reducible rfl))
      try simp only [Act.put, List.setIfInBounds_toArray, List.set_cons_zero, List.set_cons_succ]
      refine wl_yes 66 (v := .bool v66c) rfl (by kernel_rfl) ?hy66c ?rest66c
      case hy66c => (rw [V66c.out]; cases v56c <;> (go_simp; first | done | with_reducible rfl))
      try simp only [Act.put, List.setIfInBounds_toArray, List.set_cons_zero, List.set_cons_succ]
      refine wpList_nil ?_
      cases v66c with
      | true =>
        go_wp2_with fail
        go_ret
        exact ⟨ret_boolT (by rw [HE2.out]; rfl), HW2.out⟩
      | false =>
        go_upto_region 7 with fail
        refine wp_region_lit ?_
        refine wl_yes 67 (v := ?_) rfl (by kernel_rfl) ?hy67d ?rest67d
        case hy67d => (go_simp; first | done | with_reducible rfl)
        try simp only [Act.put, List.setIfInBounds_toArray, List.set_cons_zero, List.set_cons_succ]
        refine wl_yes 68 (v := .bool v68d) rfl (by kernel_rfl) ?hy68d ?rest68d
        case hy68d => (have z14 := B1.out.cell (i := 14) (v := .bool m.holes) rfl; rw [V68d.out]; (go_simp; first | done | with_reducible rfl))
        try simp only [Act.put, List.setIfInBounds_toArray, List.set_cons_zero, List.set_cons_succ]
        refine wl_yes 69 (v := ?_) rfl (by kernel_rfl) ?hy69d ?rest69d
        case hy69d => (go_simp; first | done | with_reducible rfl)
        try simp only [Act.put, List.setIfInBounds_toArray, List.set_cons_zero, List.set_cons_succ]
        refine wl_if 70 (!v68d) (v := ?_) rfl (by cases v68d <;> kernel_rfl) ?hy70d ?rest70d
        case hy70d => (intro hg; obtain rfl : v68d = false := (by simpa using hg); (try simp only [cond_true]); go_simp; first | done | with_reducible rfl)
        try simp only [Act.put, List.setIfInBounds_toArray, List.set_cons_zero, List.set_cons_succ]
        refine wl_if 71 (!v68d) (v := ?_) rfl (by cases v68d <;> kernel_rfl) ?hy71d ?rest71d
        case hy71d => (intro hg; obtain rfl : v68d = false := (by simpa using hg); have z13 := B1.out.cell (i := 13) (v := .int .i64 m.real) rfl; (try simp only [cond_true]); go_simp; first | done | with_reducible rfl)
        try simp only [Act.put, List.setIfInBounds_toArray, List.set_cons_zero, List.set_cons_succ]
        refine wl_if 72 (!v68d) (v := ?_) rfl (by cases v68d <;> kernel_rfl) ?hy72d ?rest72d
        case hy72d => (intro hg; obtain rfl : v68d = false := (by simpa using hg); (try simp only [cond_true]); go_simp; first | done | with_reducible rfl)
        try simp only [Act.put, List.setIfInBounds_toArray, List.set_cons_zero, List.set_cons_succ]
        refine wl_if 73 (!v68d) (v := ?_) rfl (by cases v68d <;> kernel_rfl) ?hy73d ?rest73d
        case hy73d => (intro hg; obtain rfl : v68d = false := (by simpa using hg); have z12 := B1.out.cell (i := 12) (v := .int .i64 m.size) rfl; (try simp only [cond_true]); go_simp; first | done | with_reducible rfl)
        try simp only [Act.put, List.setIfInBounds_toArray, List.set_cons_zero, List.set_cons_succ]
        refine wl_if 74 (!v68d) (v := .bool v74d) rfl (by cases v68d <;> kernel_rfl) ?hy74d ?rest74d
        case hy74d => (intro hg; obtain rfl : v68d = false := (by simpa using hg); (try simp only [cond_true]); rw [V74d.out]; (go_simp; first | done | with_reducible rfl))
        try simp only [Act.put, List.setIfInBounds_toArray, List.set_cons_zero, List.set_cons_succ]
        refine wl_if 75 (!v68d) (v := ?_) rfl (by cases v68d <;> kernel_rfl) ?hy75d ?rest75d
        case hy75d => (intro hg; obtain rfl : v68d = false := (by simpa using hg); (try simp only [cond_true]); go_simp; first | done | with_reducible rfl)
        try simp only [Act.put, List.setIfInBounds_toArray, List.set_cons_zero, List.set_cons_succ]
        refine wl_if 76 (!v68d && v74d) (v := ?_) rfl (by cases v68d <;> cases v74d <;> kernel_rfl) ?hy76d ?rest76d
        case hy76d => (intro hg; obtain ⟨rfl, rfl⟩ : v68d = false ∧ v74d = true := (by revert hg; cases v68d <;> cases v74d <;> simp); (try simp only [cond_true]); go_simp; first | done | with_reducible rfl)
        try simp only [Act.put, List.setIfInBounds_toArray, List.set_cons_zero, List.set_cons_succ]
        refine wl_if 77 (!v68d && v74d) (v := ?_) rfl (by cases v68d <;> cases v74d <;> kernel_rfl) ?hy77d ?rest77d
        case hy77d => (intro hg; obtain ⟨rfl, rfl⟩ : v68d = false ∧ v74d = true := (by revert hg; cases v68d <;> cases v74d <;> simp); have z15 := B1.out.cell (i := 15) (v := .slice Ap m.parts.length cp) rfl; (try simp only [cond_true]); go_simp; first | done | with_reducible rfl)
        try simp only [Act.put, List.setIfInBounds_toArray, List.set_cons_zero, List.set_cons_succ]
        refine wl_if 78 (!v68d && v74d) (v := ?_) rfl (by cases v68d <;> cases v74d <;> kernel_rfl) ?hy78d ?rest78d
        case hy78d => (intro hg; obtain ⟨rfl, rfl⟩ : v68d = false ∧ v74d = true := (by revert hg; cases v68d <;> cases v74d <;> simp); (try simp only [cond_true]); go_simp; first | done | with_reducible rfl)
        try simp only [Act.put, List.setIfInBounds_toArray, List.set_cons_zero, List.set_cons_succ]
        refine wl_if 79 (!v68d && v74d) (v := .bool v79d) rfl (by cases v68d <;> cases v74d <;> kernel_rfl) ?hy79d ?rest79d
        case hy79d => (intro hg; obtain ⟨rfl, rfl⟩ : v68d = false ∧ v74d = true := (by revert hg; cases v68d <;> cases v74d <;> simp); (try simp only [cond_true]); rw [V79d.out]; (go_simp; first | done | with_reducible rfl))
        try simp only [Act.put, List.setIfInBounds_toArray, List.set_cons_zero, List.set_cons_succ]
        refine wl_if 80 (!v68d) (v := .bool v80d) rfl (by cases v68d <;> kernel_rfl) ?hy80d ?rest80d
        case hy80d => (intro hg; obtain rfl : v68d = false := (by simpa using hg); (try simp only [cond_true]); rw [V80d.out]; cases v74d <;> (go_simp; first | done | with_reducible rfl))
        try simp only [Act.put, List.setIfInBounds_toArray, List.set_cons_zero, List.set_cons_succ]
        refine wl_yes 81 (v := .bool v81d) rfl (by kernel_rfl) ?hy81d ?rest81d
        case hy81d => (rw [V81d.out]; cases v68d <;> (go_simp; first | done | with_reducible rfl))
        try simp only [Act.put, List.setIfInBounds_toArray, List.set_cons_zero, List.set_cons_succ]
        refine wl_yes 2 (v := ?_) rfl (by kernel_rfl) ?hy2d ?rest2d
        case hy2d => (go_simp; first | done | with_reducible rfl)
        try simp only [Act.put, List.setIfInBounds_toArray, List.set_cons_zero, List.set_cons_succ]
        refine wpList_nil ?_
        go_wp2_with fail
        go_ret
        exact ⟨ret_boolT (by rw [HE2.out]; rfl), HW2.out⟩

end Go.Proofs.YtlpblnioodcbnaaGreatDoor
