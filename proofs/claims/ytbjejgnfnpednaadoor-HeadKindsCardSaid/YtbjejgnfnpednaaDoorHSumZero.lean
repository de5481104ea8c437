/-
  The contract of Zero of the program.
-/
import Derived.Test.YtbjejgnfnpednaaDoorHSumUns
namespace Go.Proofs.YtbjejgnfnpednaaDoor
open Go.RowKit Go.Lib
attribute [local go_sem] zeroBlk
attribute [local go_sem ↓] zc_blk
attribute [local go_sem ↓] run_buildBlk run_toArr

section
variable {ops : Array Oper} {rest : List Oper} {o : Oper} {a : Act} {w : World} {Q : Exit → Act → World → Prop}
theorem wpList_wanted {P : Program} (hw : Region.wanted o (yielded ops a.tmps) = true) (h : ∀ K : Act → World → Prop, (∀ a w, wpList P ops Q rest a w → K a w) → o.wp P a w K Q) : wpList P ops Q (o :: rest) a w :=
  wpList_step fun K hK => by rw [if_pos hw]; exact h K hK
theorem wpList_load_wanted (hw : Region.wanted o (yielded ops a.tmps) = true) (x : Operand) (ho : o.op = .load 86 x)
    (ad : Addr) (hx : a.eval x = .pointer (some ad)) (zs : List Int) (hl : zs.length = 512) (hc : ∀ j z, zs[j]? = some z → w.cell? (ad.add j) = some (.int .u8 z))
    (h : wpList Tryd.prog ops Q rest (a.put o.dst (.agg (bcells zs).toArray)) w) : wpList Tryd.prog ops Q (o :: rest) a w := by
  refine wpList_wanted hw fun K hK => ?_
  unfold Oper.wp execOp
  simp only [ho, hx, Instr.loadAt, Instr.sureAddr, Sem.run_bind, Sem.run_pure, Result.andThen_ok, run_loadVar_cells w ad zs hl hc]
  exact hK _ _ h
theorem blk_guard : Tryd.prog.eqGuardType Tryd.prog.depth 86 = false := by kernel_rfl
theorem wpList_eql_wanted (hw : Region.wanted o (yielded ops a.tmps) = true) (x y : Operand) (r : TypeId) (ho : o.op = .binOp .eql 86 x y r)
    (xs ys : List Int) (hx : a.eval x = .agg (bcells xs).toArray) (hy : a.eval y = .agg (bcells ys).toArray) (lx : xs.length = 512) (ly : ys.length = 512) (bx : ∀ z ∈ xs, 0 ≤ z ∧ z ≤ 255) (by_ : ∀ z ∈ ys, 0 ≤ z ∧ z ≤ 255)
    (h : wpList Tryd.prog ops Q rest (a.put o.dst (.bool (xs == ys))) w) : wpList Tryd.prog ops Q (o :: rest) a w := by
  refine wpList_wanted hw fun K hK => ?_
  unfold Oper.wp execOp
  simp only [ho, hx, hy, Sem.run_bind, Sem.run_pure, Result.andThen_ok, run_eqGuard_agg _ _ _ _ _ _ _ blk_guard, run_eql_blk w xs ys lx ly bx by_]
  exact hK _ _ h
end

theorem zero_yes {zs : List Int} (h : zs.length = 512) : M.zero zs = (zs == nils 512) := by
  unfold M.zero
  rw [decide_eq_true h, Bool.true_and, Bool.eq_iff_iff, List.all_eq_true, beq_iff_eq]
  constructor
  · intro ha
    have := List.eq_replicate_iff.2 ⟨h, fun b hb => by simpa using ha b hb⟩
    exact this
  · intro e x hx
    rw [e] at hx
    simpa using (List.mem_replicate.1 hx).2
end Go.Proofs.YtbjejgnfnpednaaDoor
