/-
  Texts of one chapter, merged.
-/
import Derived.Test.YtbjejgnfnpednaaDoorHSumUns
import Derived.Test.YtbjejgnfnpednaaDoorNumPut
/-! The contract of Zero of the program. -/
namespace Go.Proofs.YtbjejgnfnpednaaDoor
open Go.RowKit Go.Lib
attribute [local go_sem] zeroBlk
attribute [local go_sem ↓] zc_blk
attribute [local go_sem ↓] run_buildBlk run_toArr

section
variable {ops : Array Oper} {rest : List Oper} {o : Oper} {a : Act} {w : World} {Q : Exit → Act → World → Prop}
theorem wpList_wanted {P : Program} (hw : Region.wanted o (yielded ops a.tmps) = true) (h : ∀ K : Act → World → Prop, (∀ a w, wpList P ops Q rest a w → K a w) → o.wp P a w K Q) : wpList P ops Q (o :: rest) a w :=
  wpList_step fun K hK => by rw [if_pos hw]; exact h K hK
theorem wpList_load_wanted (hw : Region.wanted o (yielded ops a.tmps) = true) (x : Operand) (ho : o.op = .load 86 x)
    (ad : Addr) (hx : a.eval x = .pointer (some ad)) (zs : List Int) (hl : zs.length = 512) (hc : ∀ j z, zs[j]? = some z → w.cell? (ad.add j) = some (.int .u8 z))
    (h : wpList Tryd.prog ops Q rest (a.put o.dst (.agg (bcells zs).toArray)) w) : wpList Tryd.prog ops Q (o :: rest) a w := by
  refine wpList_wanted hw fun K hK => ?_
  unfold Oper.wp execOp
  simp only [ho, hx, Instr.loadAt, Instr.sureAddr, Sem.run_bind, Sem.run_pure, Result.andThen_ok, run_loadVar_cells w ad zs hl hc]
  exact hK _ _ h
theorem blk_guard : Tryd.prog.eqGuardType Tryd.prog.depth 86 = false := by kernel_rfl
theorem wpList_eql_wanted (hw : Region.wanted o (yielded ops a.tmps) = true) (x y : Operand) (r : TypeId) (ho : o.op = .binOp .eql 86 x y r)
    (xs ys : List Int) (hx : a.eval x = .agg (bcells xs).toArray) (hy : a.eval y = .agg (bcells ys).toArray) (lx : xs.length = 512) (ly : ys.length = 512) (bx : ∀ z ∈ xs, 0 ≤ z ∧ z ≤ 255) (by_ : ∀ z ∈ ys, 0 ≤ z ∧ z ≤ 255)
    (h : wpList Tryd.prog ops Q rest (a.put o.dst (.bool (xs == ys))) w) : wpList Tryd.prog ops Q (o :: rest) a w := by
  refine wpList_wanted hw fun K hK => ?_
  unfold Oper.wp execOp
  simp only [ho, hx, hy, Sem.run_bind, Sem.run_pure, Result.andThen_ok, run_eqGuard_agg _ _ _ _ _ _ _ blk_guard, run_eql_blk w xs ys lx ly bx by_]
  exact hK _ _ h
end

theorem zero_yes {zs : List Int} (h : zs.length = 512) : M.zero zs = (zs == nils 512) := by
  unfold M.zero
  rw [decide_eq_true h, Bool.true_and, Bool.eq_iff_iff, List.all_eq_true, beq_iff_eq]
  constructor
  · intro ha
    have := List.eq_replicate_iff.2 ⟨h, fun b hb => by simpa using ha b hb⟩
    exact this
  · intro e x hx
    rw [e] at hx
    simpa using (List.mem_replicate.1 hx).2
end Go.Proofs.YtbjejgnfnpednaaDoor

/-! The contract of Seal of the program. -/
namespace Go.Proofs.YtbjejgnfnpednaaDoor
open Go.RowKit Go.Lib
attribute [local go_sem] zeroBlk
attribute [local go_sem ↓] zc_blk
attribute [local go_sem ↓] run_buildBlk run_toArr

/-- A block of 512 bytes of its own. -/
def SealPost (t : TypeId) (zs : List Int) (w : World) (e : Ending) (w' : World) : Prop :=
  ∃ g, e = .returned (.slice (some ⟨g, 0, none⟩) 512 512) ∧ w.heap.size ≤ g ∧ Arr w' g t zs ∧ Below w.heap.size w w'

theorem rd_cells {w : World} {B n : Nat} {A : Option Addr} {zs : List Int} (h : Rd w B A n zs) (hn : 0 < n) : ∃ ad, A = some ad ∧ ad.block < B ∧ ∀ j v, (bcells zs)[j]? = some v → w.cell? (ad.add j) = some v := by
  obtain ⟨b, off, rfl, hb, hc⟩ := h.2.2 hn
  refine ⟨_, rfl, hb, fun j v hv => ?_⟩
  obtain ⟨z, hz, rfl⟩ := bcells_at' hv
  rw [add_lit']
  exact hc j z hz

theorem new_cell (w : World) (t : TypeId) (z : Int) : ∀ j u, [Value.int .u8 z][j]? = some u → (w.alloc (.cells #[.int .u8 z] t)).cell? ((⟨w.heap.size, 0, none⟩ : Addr).add j) = some u := by
  intro j u hj
  match j, hj with
  | 0, hj =>
    simp at hj
    subst hj
    simp [Addr.add, World.cell?_alloc_mark]

set_option maxRecDepth 100000 in
/-- The field with its blank, as one step of a region that draws. -/
theorem step_blank {ops : Array Oper} {o : Oper} {a : Act} {W : World} {K : Act → World → Prop} {Q : Exit → Act → World → Prop} {E : Prop} (hgd : o.guard = none) (s x : Operand)
    (ho : o.op = .call { callee := .builtin .append, args := #[s, x], argTypes := #[22, 22] })
    (w w4 : World) (g : Nat) (zs : List Int) (t : TypeId) (FS : List Value) (fa : Addr) (hW : W = (w4.alloc (.cells #[.int .u8 32] 5)).drew) (hs : a.eval s = .slice (some fa) 7 7) (hx : a.eval x = .slice (some ⟨w4.heap.size, 0, none⟩) 1 1)
    (hl : FS.length = 7) (hfb : fa.block < w4.heap.size) (hfc : ∀ j u, FS[j]? = some u → w4.cell? (fa.add j) = some u) (hA : Arr w4 g t zs) (hb : Below w.heap.size w w4)
    (h : ∀ g5 cap5 w5, Hid (∀ j u, (FS ++ [Value.int .u8 32])[j]? = some u → w5.cell? ((⟨g5, 0, none⟩ : Addr).add j) = some u) → Hid (Arr w5 g t zs) → Hid (Below w.heap.size w w5) → K (a.put o.dst (.slice (some ⟨g5, 0, none⟩) 8 cap5)) w5) :
    if Region.wanted o (yielded ops a.tmps) = true then Oper.wp Tryd.prog o a W K Q else E := by
  obtain ⟨i0, hi, hz0, hz1, hz2⟩ := info_parts u8_parts
  subst hW
  refine step_append_grows hgd s x 22 ho 5 i0 (.int .u8 0) 1 1 Tryd.underlying22 hi hz0 hz1 hz2 rfl (by decide) (some fa) 7 7 FS hs (fun h => nomatch h) hl ?_ ⟨w4.heap.size, 0, none⟩ 1 1 [.int .u8 32] hx rfl ?_ (by simp [Value.oneCell']) (by decide) (by unfold maxLen; omega) (by omega) ?_
  · intro b hb j u hu
    injection hb with hb
    subst hb
    show (w4.alloc _).cell? _ = _
    rw [World.cell?_alloc_lt _ _ _ (by rw [block_of_add']; exact hfb)]
    exact hfc j u hu
  · exact new_cell w4 5 32
  · intro v5 w5 hown hgrow
    obtain ⟨g5, cap5, rfl, _, _⟩ := hown.form (by decide)
    have hsz : (w4.alloc (.cells #[.int .u8 32] 5)).drew.heap.size = w4.heap.size + 1 := by show (w4.heap.push _).size = _; simp
    refine h g5 cap5 w5 (hid (hown.cells (g := g5) rfl)) (hid ((hA.alloc (.cells #[.int .u8 32] 5)).drew.of_block (hgrow.block g (by rw [hsz]; have := hA.lt; omega) (fun h => nomatch h)))) (hid ?_)
    exact below_grown (below_drew' (hb.alloc hb.size (.cells #[.int .u8 32] 5))) hgrow (by rw [hsz]; have := hb.size; omega) (fun g h => nomatch h)

set_option maxRecDepth 100000 in
set_option maxHeartbeats 1000000 in
theorem seal_any (A : Option Addr) (n c : Nat) (zs : List Int) (w : World) (B : Nat) (hr : Rd w B A n zs) (hB : B ≤ w.heap.size) :
    Calls Tryd.prog 32 #[.slice A n c] w (SealPost 86 (M.sld zs) w) := by
  have HL := hid hr.len
  have HZ := hid hr.bd
  obtain ⟨X, hX⟩ : ∃ X, X = bcells (zs.take 512) := ⟨_, rfl⟩
  have hXl : X.length = Nat.min n 512 := by rw [hX, bcells_len, List.length_take, hr.len, Nat.min_comm]
  have hX1 : ∀ v ∈ X, v.oneCell' = true := by rw [hX]; exact bcells_one _
  have hXc : ∀ o, 0 < X.length → ∃ ad, A = some ad ∧ ∀ j v, X[j]? = some v → (w.alloc o).cell? (ad.add j) = some v := by
    intro o h0
    obtain ⟨ad, rfl, hb, hc⟩ := rd_cells hr (by rw [hXl] at h0; have h1 : Nat.min n 512 ≤ n := Nat.min_le_left n 512; omega)
    refine ⟨ad, rfl, fun j v hv => ?_⟩
    rw [World.cell?_alloc_lt _ _ _ (by rw [block_of_add']; omega)]
    refine hc j v ?_
    rw [hX] at hv
    unfold bcells at hv ⊢
    rw [List.map_take, List.getElem?_take] at hv
    split at hv
    · exact hv
    · cases hv
  have hXp : splice (bcells (nils 512)) 0 X = bcells (M.pad zs) := by rw [hX, bcells_splice]; congr 1; exact M.pad_splice zs
  have hXf : 0 + X.length ≤ (bcells (nils 512)).length := by
    have h9 : Nat.min n 512 ≤ 512 := Nat.min_le_right n 512
    rw [bcells_len, nils_len, hXl]; omega
  have HXf := hid hXf
  have HXl := hid hXl
  have HX1 := hid hX1
  have HXc := hid hXc
  have HXp := hid hXp
  have hpb := M.uns_pad_bd HZ.out
  obtain ⟨hp0, hp1⟩ := hpb
  have hfit := M.fits7 hp0 (by omega)
  have HFIT := hid hfit
  clear hX hXf hXl hX1 hXc hXp hr hfit
  go_enter Tryd.func32, Tryd.ntmps32
  go_wp2_with ((refine wpList_copy_splice rfl (.tmp 6) (.tmp 7) 22 22 rfl 5 Tryd.underlying22 u8_size (some ⟨w.heap.size, 0, none⟩) A 512 512 n c (by simp [Act.eval, Act.put]) (by simp [Act.eval, Act.put]) w.heap.size 0 (bcells (nils 512)) 86 (Arr.new _ _ _).out X HXl.out (fun h => ⟨rfl, HXc.out _ h⟩) HXf.out HX1.out w.heap.size w ((Below.refl _ _).alloc (Nat.le_refl _) _) (Nat.le_refl _) ?_); intro w2 hg2 hb2)
  have ha2 : Arr w2 w.heap.size 86 (M.pad zs) := by unfold Arr; rw [← HXp.out]; exact hg2.out
  have hU := hid (unsigned_any (some ⟨w.heap.size, 0, none⟩) 512 512 (M.pad zs) w2 w2.heap.size (by have := ha2.rd (M.pad_bd HZ.out) ha2.lt; rw [M.pad_len] at this; exact this) (Nat.le_refl _) (by decide))
  have HA2 := hid ha2
  have HP := hid (M.pad_bd HZ.out)
  have hlt2 := ha2.lt
  clear ha2 hg2
  (with_reducible refine hU.out.mono ?_)
  rintro e w3 ⟨rfl, b3⟩
  have HA3 := hid (HA2.out.below b3 hlt2)
  have hb3 := hb2.trans (b3.mono hb2.size)
  have hlt3 := HA3.out.lt
  clear HA2 hU hlt2 b3 hb2
  go_wp2_with fail
  (with_reducible refine (putOctal_any (M.uns (M.pad zs)) 7 w3).mono ?_)
  rintro e w4 ⟨F, N, rfl, hf, b4⟩
  rw [HFIT.out.2.2] at hf
  obtain rfl : N = 7 := by rw [← hf.len, M.oct7_len]
  have HA4 := hid (HA3.out.below b4 hlt3)
  have hb4 := hb3.trans (b4.mono hb3.size)
  have hlt4 := HA4.out.lt
  rw [HFIT.out.1]
  clear HA3 b4 hb3 hlt3
  obtain ⟨fa, rfl, hfb, hfc⟩ := rd_cells hf (by decide)
  have hws := hb4.size
  obtain ⟨FS, hFS⟩ : ∃ FS, FS = bcells (M.oct (M.uns (M.pad zs)) 7) := ⟨_, rfl⟩
  rw [← hFS] at hfc
  have hFl : FS.length = 7 := by rw [hFS, bcells_len, M.oct7_len]
  have HFL := hid hFl
  have HSP : Hid (splice (bcells (M.pad zs)) 148 (FS ++ [.int .u8 32]) = bcells (M.sld zs)) := hid (by
    rw [hFS, show [Value.int .u8 32] = bcells [32] from rfl, ← bcells_app, bcells_splice]
    rfl)
  have HF1 : Hid (∀ v ∈ FS ++ [Value.int .u8 32], v.oneCell' = true) := hid (by
    rw [hFS, show [Value.int .u8 32] = bcells [32] from rfl, ← bcells_app]
    exact bcells_one _)
  have HFC := hid hfc
  have HPL : Hid (148 + (FS ++ [Value.int .u8 32]).length ≤ (bcells (M.pad zs)).length) := hid (by
    rw [List.length_append, hFl, bcells_len, M.pad_len]; decide)
  have HPM : Hid ((FS ++ [Value.int .u8 32]).length = Nat.min 8 8) := hid (by rw [List.length_append, hFl]; rfl)
  clear hf hfc hFS hFl HP HXf HXl HX1 HXc HXp HFIT HL HZ hp0 hp1
  go_wp2_with fail
  go_region_law ((first
    | (refine step_copy_splice rfl (.tmp 15) (.tmp 18) 22 22 rfl 5 Tryd.underlying22 u8_size (some ⟨w.heap.size, 148, none⟩) (some ⟨_, 0, none⟩) 8 364 8 _ (by simp [Act.eval, Act.put]) (by simp [Act.eval, Act.put]; rfl) w.heap.size 148 (bcells (M.pad zs)) 86 HA5.out.out (FS ++ [.int .u8 32]) HPM.out (fun _ => ⟨rfl, _, rfl, HC5.out⟩) HPL.out HF1.out w.heap.size w HB5.out (Nat.le_refl _) ?_
       intro w6 hg6 hb6)
    | (refine step_blank rfl (.tmp 16) (.tmp 17) rfl w w4 w.heap.size (M.pad zs) 86 FS fa rfl (by simp [Act.eval, Act.put]) (by simp [Act.eval, Act.put]) HFL.out hfb HFC.out HA4.out hb4 ?_
       intro g5 cap5 w5 HC5 HA5 HB5)))
  all_goals
    have HA6 : Hid (Arr w6 w.heap.size 86 (M.sld zs)) := hid (by unfold Arr; rw [← HSP.out]; exact hg6.out)
    clear hg6 HA5 HB5 HC5 HSP HF1 HFC HPL HPM HFL
    go_wp2
    go_ret
    exact ⟨_, rfl, Nat.le_refl _, HA6.out, hb6⟩
end Go.Proofs.YtbjejgnfnpednaaDoor
