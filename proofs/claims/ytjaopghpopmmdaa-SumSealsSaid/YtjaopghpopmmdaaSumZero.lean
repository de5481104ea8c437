/-
  The contract of Zero of the program.
-/
import Derived.Test.YtjaopghpopmmdaaSumUns
namespace Go.Proofs.Ytjaopghpopmmdaa
open Go.RowKit Go.Lib
attribute [local go_sem] zeroBlk
attribute [local go_sem ↓] run_buildBlk run_toArr

section
variable {ops : Array Oper} {rest : List Oper} {o : Oper} {a : Act} {w : World} {Q : Exit → Act → World → Prop}
theorem wpList_wanted {P : Program} (hw : Region.wanted o (yielded ops a.tmps) = true) (h : ∀ K : Act → World → Prop, (∀ a w, wpList P ops Q rest a w → K a w) → o.wp P a w K Q) : wpList P ops Q (o :: rest) a w :=
  wpList_step fun K hK => by rw [if_pos hw]; exact h K hK
theorem wpList_load_wanted (hw : Region.wanted o (yielded ops a.tmps) = true) (x : Operand) (ho : o.op = .load 38 x)
    (ad : Addr) (hx : a.eval x = .pointer (some ad)) (zs : List Int) (hl : zs.length = 512) (hc : ∀ j z, zs[j]? = some z → w.cell? (ad.add j) = some (.int .u8 z))
    (h : wpList Try.prog ops Q rest (a.put o.dst (.agg (bcells zs).toArray)) w) : wpList Try.prog ops Q (o :: rest) a w := by
  refine wpList_wanted hw fun K hK => ?_
  unfold Oper.wp execOp
  simp only [ho, hx, Instr.loadAt, Instr.sureAddr, Sem.run_bind, Sem.run_pure, Result.andThen_ok, run_loadVar_cells w ad zs hl hc]
  exact hK _ _ h
theorem blk_guard : Try.prog.eqGuardType Try.prog.depth 38 = false := by kernel_rfl
theorem wpList_eql_wanted (hw : Region.wanted o (yielded ops a.tmps) = true) (x y : Operand) (r : TypeId) (ho : o.op = .binOp .eql 38 x y r)
    (xs ys : List Int) (hx : a.eval x = .agg (bcells xs).toArray) (hy : a.eval y = .agg (bcells ys).toArray) (lx : xs.length = 512) (ly : ys.length = 512) (bx : ∀ z ∈ xs, 0 ≤ z ∧ z ≤ 255) (by_ : ∀ z ∈ ys, 0 ≤ z ∧ z ≤ 255)
    (h : wpList Try.prog ops Q rest (a.put o.dst (.bool (xs == ys))) w) : wpList Try.prog ops Q (o :: rest) a w := by
  refine wpList_wanted hw fun K hK => ?_
  unfold Oper.wp execOp
  simp only [ho, hx, hy, Sem.run_bind, Sem.run_pure, Result.andThen_ok, run_eqGuard_agg _ _ _ _ _ _ _ blk_guard, run_eql_blk w xs ys lx ly bx by_]
  exact hK _ _ h
end

theorem zero_yes {zs : List Int} (h : zs.length = 512) : M.zero zs = (zs == nils 512) := by
  unfold M.zero
  rw [decide_eq_true h, Bool.true_and, Bool.eq_iff_iff, List.all_eq_true, beq_iff_eq]
  constructor
  · intro ha
    have := List.eq_replicate_iff.2 ⟨h, fun b hb => by simpa using ha b hb⟩
    exact this
  · intro e x hx
    rw [e] at hx
    simpa using (List.mem_replicate.1 hx).2

set_option maxRecDepth 100000 in
set_option maxHeartbeats 800000 in
theorem zero_any (A : Option Addr) (n c : Nat) (zs : List Int) (w : World) (B : Nat) (hr : Rd w B A n zs) (hB : B ≤ w.heap.size) :
    Calls Try.prog 13 #[.slice A n c] w fun e w' => e = .returned (.bool (M.zero zs)) ∧ Below w.heap.size w w' := by
  have HW := hid (whole_any A n c zs w B hr hB)
  have HZ := hid hr.bd
  clear hr hB
  by_cases h : zs.length = 512
  · have HF := hid (zero_yes h)
    have H5 := hid h
    go_enter Try.func13, Try.ntmps13
    go_wp2_with fail
    (with_reducible refine HW.out.mono ?_)
    rintro e w1 ⟨rfl, b1⟩
    rw [if_pos h, decide_eq_true h]
    clear h
    go_wp2_with (first
      | (refine wpList_store_arr rfl (.tmp 3) (.tmp 8) rfl w1.heap.size (by simp [Act.eval, Act.put]) zs (nils 512) (by simp [Act.eval, Act.put]) _ (Arr.new _ _ _) H5.out (nils_len _) ?_; rw [setRow_alloc_arr])
      | (refine wpList_load_wanted (by simp [Region.wanted, yielded]) (.tmp 3) rfl ⟨w1.heap.size, 0, none⟩ (by simp [Act.eval, Act.put]) zs H5.out (fun j z hj => by rw [add_lit', Nat.zero_add]; exact (Arr.new _ _ _).cell hj) ?_)
      | (refine wpList_eql_wanted (by simp [Region.wanted, yielded, Act.put]) (.tmp 12) (.tmp 13) _ rfl zs (nils 512) (by simp [Act.eval, Act.put]) (by simp [Act.eval, Act.put]) H5.out (nils_len _) HZ.out (nils_bd _) ?_))
    go_ret
    exact ⟨ret_bool HF.out.symm, b1.alloc b1.size _⟩
  · have HF := hid (M.zero_no h)
    go_enter Try.func13, Try.ntmps13
    go_wp2_with fail
    (with_reducible refine HW.out.mono ?_)
    rintro e w1 ⟨rfl, b1⟩
    rw [if_neg h, decide_eq_false h]
    clear h
    go_wp2_with (refine wpList_store_arr rfl (.tmp 3) (.tmp 8) rfl w1.heap.size (by simp [Act.eval, Act.put]) (nils 512) (nils 512) (by simp [Act.eval, Act.put]) _ (Arr.new _ _ _) (nils_len _) (nils_len _) ?_; rw [setRow_alloc_arr])
    go_ret
    exact ⟨ret_bool HF.out.symm, b1.alloc b1.size _⟩
end Go.Proofs.Ytjaopghpopmmdaa
