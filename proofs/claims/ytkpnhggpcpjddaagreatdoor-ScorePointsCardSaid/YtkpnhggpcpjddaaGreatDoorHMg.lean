/-
  Texts of one chapter, merged.
-/
import Derived.Test.YtkpnhggpcpjddaaGreatDoorHSumUns
import Derived.Test.YtkpnhggpcpjddaaGreatDoorHMs
set_option linter.unusedVariables false
set_option linter.unusedSimpArgs false
/-! The contract of Zero of the program. -/
namespace Go.Proofs.YtkpnhggpcpjddaaGreatDoor
open Go.RowKit Go.Lib
attribute [local go_sem] zeroBlk
attribute [local go_sem ↓] zc_blk
attribute [local go_sem ↓] run_buildBlk run_toArr

section
variable {ops : Array Oper} {rest : List Oper} {o : Oper} {a : Act} {w : World} {Q : Exit → Act → World → Prop}
theorem wpList_wanted {P : Program} (hw : Region.wanted o (yielded ops a.tmps) = true) (h : ∀ K : Act → World → Prop, (∀ a w, wpList P ops Q rest a w → K a w) → o.wp P a w K Q) : wpList P ops Q (o :: rest) a w :=
  wpList_step fun K hK => by rw [if_pos hw]; exact h K hK
theorem wpList_load_wanted (hw : Region.wanted o (yielded ops a.tmps) = true) (x : Operand) (ho : o.op = .load 65 x)
    (ad : Addr) (hx : a.eval x = .pointer (some ad)) (zs : List Int) (hl : zs.length = 512) (hc : ∀ j z, zs[j]? = some z → w.cell? (ad.add j) = some (.int .u8 z))
    (h : wpList Tryz.prog ops Q rest (a.put o.dst (.agg (bcells zs).toArray)) w) : wpList Tryz.prog ops Q (o :: rest) a w := by
  refine wpList_wanted hw fun K hK => ?_
  unfold Oper.wp execOp
  simp only [ho, hx, Instr.loadAt, Instr.sureAddr, Sem.run_bind, Sem.run_pure, Result.andThen_ok, run_loadVar_cells w ad zs hl hc]
  exact hK _ _ h
theorem blk_guard : Tryz.prog.eqGuardType Tryz.prog.depth 65 = false := by kernel_rfl
theorem wpList_eql_wanted (hw : Region.wanted o (yielded ops a.tmps) = true) (x y : Operand) (r : TypeId) (ho : o.op = .binOp .eql 65 x y r)
    (xs ys : List Int) (hx : a.eval x = .agg (bcells xs).toArray) (hy : a.eval y = .agg (bcells ys).toArray) (lx : xs.length = 512) (ly : ys.length = 512) (bx : ∀ z ∈ xs, 0 ≤ z ∧ z ≤ 255) (by_ : ∀ z ∈ ys, 0 ≤ z ∧ z ≤ 255)
    (h : wpList Tryz.prog ops Q rest (a.put o.dst (.bool (xs == ys))) w) : wpList Tryz.prog ops Q (o :: rest) a w := by
  refine wpList_wanted hw fun K hK => ?_
  unfold Oper.wp execOp
  simp only [ho, hx, hy, Sem.run_bind, Sem.run_pure, Result.andThen_ok, run_eqGuard_agg _ _ _ _ _ _ _ blk_guard, run_eql_blk w xs ys lx ly bx by_]
  exact hK _ _ h
end

theorem zero_yes {zs : List Int} (h : zs.length = 512) : M.zero zs = (zs == nils 512) := by
  unfold M.zero
  rw [decide_eq_true h, Bool.true_and, Bool.eq_iff_iff, List.all_eq_true, beq_iff_eq]
  constructor
  · intro ha
    have := List.eq_replicate_iff.2 ⟨h, fun b hb => by simpa using ha b hb⟩
    exact this
  · intro e x hx
    rw [e] at hx
    simpa using (List.mem_replicate.1 hx).2

set_option maxRecDepth 100000 in
set_option maxHeartbeats 800000 in
theorem zero_any (A : Option Addr) (n c : Nat) (zs : List Int) (w : World) (B : Nat) (hr : Rd w B A n zs) (hB : B ≤ w.heap.size) :
    Calls Tryz.prog 17 #[.slice A n c] w fun e w' => e = .returned (.bool (M.zero zs)) ∧ Below w.heap.size w w' := by
  have HW := hid (whole_any A n c zs w B hr hB)
  have HZ := hid hr.bd
  clear hr hB
  by_cases h : zs.length = 512
  · have HF := hid (zero_yes h)
    have H5 := hid h
    go_enter Tryz.func17, Tryz.ntmps17
    go_wp2_with fail
    (with_reducible refine HW.out.mono ?_)
    rintro e w1 ⟨rfl, b1⟩
    rw [if_pos h, decide_eq_true h]
    clear h
    go_wp2_with (first
      | (refine wpList_store_arr rfl (.tmp 3) (.tmp 8) rfl w1.heap.size (by simp [Act.eval, Act.put]) zs (nils 512) (by simp [Act.eval, Act.put]) _ (Arr.new _ _ _) H5.out (nils_len _) ?_; rw [setRow_alloc_arr])
      | (refine wpList_load_wanted (by simp [Region.wanted, yielded]) (.tmp 3) rfl ⟨w1.heap.size, 0, none⟩ (by simp [Act.eval, Act.put]) zs H5.out (fun j z hj => by rw [add_lit', Nat.zero_add]; exact (Arr.new _ _ _).cell hj) ?_)
      | (refine wpList_eql_wanted (by simp [Region.wanted, yielded, Act.put]) (.tmp 12) (.tmp 13) _ rfl zs (nils 512) (by simp [Act.eval, Act.put]) (by simp [Act.eval, Act.put]) H5.out (nils_len _) HZ.out (nils_bd _) ?_))
    go_ret
    exact ⟨ret_bool HF.out.symm, b1.alloc b1.size _⟩
  · have HF := hid (M.zero_no h)
    go_enter Tryz.func17, Tryz.ntmps17
    go_wp2_with fail
    (with_reducible refine HW.out.mono ?_)
    rintro e w1 ⟨rfl, b1⟩
    rw [if_neg h, decide_eq_false h]
    clear h
    go_wp2_with (refine wpList_store_arr rfl (.tmp 3) (.tmp 8) rfl w1.heap.size (by simp [Act.eval, Act.put]) (nils 512) (nils 512) (by simp [Act.eval, Act.put]) _ (Arr.new _ _ _) (nils_len _) (nils_len _) ?_; rw [setRow_alloc_arr])
    go_ret
    exact ⟨ret_bool HF.out.symm, b1.alloc b1.size _⟩
end Go.Proofs.YtkpnhggpcpjddaaGreatDoor

/-! The contract of Seal of the program. -/
namespace Go.Proofs.YtkpnhggpcpjddaaGreatDoor
open Go.RowKit Go.Lib
attribute [local go_sem] zeroBlk
attribute [local go_sem ↓] zc_blk
attribute [local go_sem ↓] run_buildBlk run_toArr

/-- A block of 512 bytes of its own. -/
def SealPost (t : TypeId) (zs : List Int) (w : World) (e : Ending) (w' : World) : Prop :=
  ∃ g, e = .returned (.slice (some ⟨g, 0, none⟩) 512 512) ∧ w.heap.size ≤ g ∧ Arr w' g t zs ∧ Below w.heap.size w w'

theorem rd_cells {w : World} {B n : Nat} {A : Option Addr} {zs : List Int} (h : Rd w B A n zs) (hn : 0 < n) : ∃ ad, A = some ad ∧ ad.block < B ∧ ∀ j v, (bcells zs)[j]? = some v → w.cell? (ad.add j) = some v := by
  obtain ⟨b, off, rfl, hb, hc⟩ := h.2.2 hn
  refine ⟨_, rfl, hb, fun j v hv => ?_⟩
  obtain ⟨z, hz, rfl⟩ := bcells_at' hv
  rw [add_lit']
  exact hc j z hz

theorem new_cell (w : World) (t : TypeId) (z : Int) : ∀ j u, [Value.int .u8 z][j]? = some u → (w.alloc (.cells #[.int .u8 z] t)).cell? ((⟨w.heap.size, 0, none⟩ : Addr).add j) = some u := by
  intro j u hj
  match j, hj with
  | 0, hj =>
    simp at hj
    subst hj
    simp [Addr.add, World.cell?_alloc_mark]

set_option maxRecDepth 100000 in
/-- The field with its blank, as one step of a region that draws. -/
theorem step_blank {ops : Array Oper} {o : Oper} {a : Act} {W : World} {K : Act → World → Prop} {Q : Exit → Act → World → Prop} {E : Prop} (hgd : o.guard = none) (s x : Operand)
    (ho : o.op = .call { callee := .builtin .append, args := #[s, x], argTypes := #[22, 22] })
    (w w4 : World) (g : Nat) (zs : List Int) (t : TypeId) (FS : List Value) (fa : Addr) (hW : W = (w4.alloc (.cells #[.int .u8 32] 5)).drew) (hs : a.eval s = .slice (some fa) 7 7) (hx : a.eval x = .slice (some ⟨w4.heap.size, 0, none⟩) 1 1)
    (hl : FS.length = 7) (hfb : fa.block < w4.heap.size) (hfc : ∀ j u, FS[j]? = some u → w4.cell? (fa.add j) = some u) (hA : Arr w4 g t zs) (hb : Below w.heap.size w w4)
    (h : ∀ g5 cap5 w5, Hid (∀ j u, (FS ++ [Value.int .u8 32])[j]? = some u → w5.cell? ((⟨g5, 0, none⟩ : Addr).add j) = some u) → Hid (Arr w5 g t zs) → Hid (Below w.heap.size w w5) → K (a.put o.dst (.slice (some ⟨g5, 0, none⟩) 8 cap5)) w5) :
    if Region.wanted o (yielded ops a.tmps) = true then Oper.wp Tryz.prog o a W K Q else E := by
  obtain ⟨i0, hi, hz0, hz1, hz2⟩ := info_parts u8_parts
  subst hW
  refine step_append_grows hgd s x 22 ho 5 i0 (.int .u8 0) 1 1 Tryz.underlying22 hi hz0 hz1 hz2 rfl (by decide) (some fa) 7 7 FS hs (fun h => nomatch h) hl ?_ ⟨w4.heap.size, 0, none⟩ 1 1 [.int .u8 32] hx rfl ?_ (by simp [Value.oneCell']) (by decide) (by unfold maxLen; omega) (by omega) ?_
  · intro b hb j u hu
    injection hb with hb
    subst hb
    show (w4.alloc _).cell? _ = _
    rw [World.cell?_alloc_lt _ _ _ (by rw [block_of_add']; exact hfb)]
    exact hfc j u hu
  · exact new_cell w4 5 32
  · intro v5 w5 hown hgrow
    obtain ⟨g5, cap5, rfl, _, _⟩ := hown.form (by decide)
    have hsz : (w4.alloc (.cells #[.int .u8 32] 5)).drew.heap.size = w4.heap.size + 1 := by show (w4.heap.push _).size = _; simp
    refine h g5 cap5 w5 (hid (hown.cells (g := g5) rfl)) (hid ((hA.alloc (.cells #[.int .u8 32] 5)).drew.of_block (hgrow.block g (by rw [hsz]; have := hA.lt; omega) (fun h => nomatch h)))) (hid ?_)
    exact below_grown (below_drew' (hb.alloc hb.size (.cells #[.int .u8 32] 5))) hgrow (by rw [hsz]; have := hb.size; omega) (fun g h => nomatch h)

end Go.Proofs.YtkpnhggpcpjddaaGreatDoor
