/-
  The function that yields the spans: what its value is worth as an iterator.
-/
import Derived.Test.YthejomfchjlcnaaChMem
import Derived.Test.YthejomfchjlcnaaPaxRange
import Derived.BigQuiet
import Derived.WalkMore
set_option linter.unusedVariables false
set_option linter.unusedSimpArgs false
namespace Go.Proofs.Ythejomfchjlcnaa
open Go.RowKit Go.Shelf Go.Lib
attribute [local go_sem] Oper.semAt_some

theorem boxed_turned {own : Nat → Prop} {A B : World} {b : Nat} {t : TypeId} {v : Value} (h : Boxed A b t v) (ht : Turned own A B) (hn : ¬ own b) : Boxed B b t v := (ht.block b h.lt hn).trans h
theorem boxed_spared {own : Nat → Prop} {A B : World} {b : Nat} {t : TypeId} {v : Value} (h : Boxed A b t v) (ht : Spared own A B) (hn : own b) : Boxed B b t v := (ht.block b hn h.lt).trans h
theorem boxed_set_far {A : World} {b c : Nat} {t : TypeId} {v u : Value} (h : Boxed A b t v) (hne : b ≠ c) : Boxed (A.setCell ⟨c, 0, none⟩ u) b t v := h.kept (grownBy_setCell' A c u) (fun e => hne (by injection e))
theorem boxed_put {A : World} {b k : Nat} {t : TypeId} {v : Value} (h : Boxed A b t v) (hne : b ≠ k) (o : Obj) : Boxed (A.putObj k o) b t v := h.kept (grownBy_putObj' A k o) (fun e => hne (by injection e))

theorem wpListIn_appS {F : Fence} {nF : Nat} {ops : Array Oper} {rest : List Oper} {o : Oper} {a : Act} {w : World} {Q : Exit → Act → World → Prop} (hgd : o.guard = none) (s x : Operand)
    (ho : o.op = .call { callee := .builtin .append, args := #[s, x], argTypes := #[24, 24] }) (base : Nat) (v : Value) (l : List C.Sp) (hs : a.eval s = v) (hown : OwnS w base v l)
    (B : Nat) (A : Option Addr) (m c : Nat) (news : List C.Sp) (hx : a.eval x = .slice A m c) (hr : RdS w B A m news) (h63 : l.length + m ≤ 1000000) (hbase : base ≤ w.heap.size)
    (h : ∀ v' w', OwnS w' base v' (l ++ news) → w.grownBy w' v.ownBlock → (v'.ownBlock = v.ownBlock ∨ v'.ownBlock = some w.heap.size) → wpListIn F nF Try.prog ops Q rest (a.put o.dst v') w') : wpListIn F nF Try.prog ops Q (o :: rest) a w := by
  obtain ⟨v', w', hrun, h2, h3, h4⟩ := run_appS w base o.type v l hown B A m c news hr h63 hbase
  refine wpListIn_plain hgd fun K hK => ?_
  unfold Oper.wpIn
  refine ⟨by simp [Oper.about, ho, resolve, Target.leads, Sem.run_pure], ?_⟩
  rw [Oper.semAt_plain F _ _ (by rw [ho]; intro c hc'; cases hc')]
  simp [execOp, ho, resolve, invoke, builtin, hs, hx, hrun, Result.andThen]
  exact hK _ _ (h v' w' h2 h3 h4)
/-- A row of ints, read at an index that may be 0. -/
theorem RdI.cell {w : World} {B n : Nat} {A : Option Addr} {zs : List Int} (h : RdI w B A n zs) {k : Nat} (hk : k < n) : ∃ b off z, A = some ⟨b, off, none⟩ ∧ b < B ∧ zs[k]? = some z ∧ -9223372036854775808 ≤ z ∧ z ≤ 9223372036854775807 ∧ w.cell? ⟨b, off + k, none⟩ = some (.int .i64 z) := by
  obtain ⟨b, off, z, e, h1, h2, h3, h4, h5⟩ := h.at_ hk
  exact ⟨b, off, z, e, h1, h4, h2, h3, h5⟩

section
variable {P : Program} {b : Frame} {a : Act} {k : List Item} {cs : List Frame} {w : World} {F : Fence} {n : Nat} {Q : Exit → Act → World → Prop}
theorem stepR_scope {c : Code} : step P (lone (b.atR a (.code (.scope c) :: k)) cs w) = .next (lone (b.atR a (.code c :: .inScope c :: k)) cs w) :=
  step_lone_go (by simp [stepG, stepG.exec, Frame.atR])
theorem stepR_inScope {c : Code} : step P (lone (b.atR a (.inScope c :: k)) cs w) = .next (lone (b.atR a k) cs w) :=
  step_lone_go (by simp [stepG, stepG.exec, Frame.atR])
/-- A scope through which no jump goes, inside a fence. -/
theorem wpIn_scope {c : Code} (h : c.wpIn F n P (Exit.noGoto Q) a w) : (Code.scope c).wpIn F n P Q a w := by
  intro b k cs hro hb hr
  have h0 : (lone (b.atR a (.code (.scope c) :: k)) cs w).fenced P F := fenced_calm hb hr rfl
  obtain ⟨e, a₁, w₁, hq, harr⟩ := h b (.inScope c :: k) cs hro hb hr
  cases e with
  | normal => exact ⟨.normal, a₁, w₁, hq, .head h0 stepR_scope (StepsIn.trans harr (.one (fenced_calm hb hr rfl) stepR_inScope))⟩
  | exit id =>
    have hx : exitTo id (.inScope c :: k) = exitTo id k := by simp [exitTo]
    exact ⟨.exit id, a₁, w₁, hq, fun k' hk => .head h0 stepR_scope (harr.1 k' (by rw [hx]; exact hk)),
      fun hr' hk => let ⟨k₁, h1, h2⟩ := harr.2 hr' (by rw [hx]; exact hk); ⟨k₁, h1, .head h0 stepR_scope h2⟩⟩
  | goto l => exact hq.elim
  | ret => exact ⟨_, a₁, w₁, hq, .of_steps (.one h0 stepR_scope) harr⟩
  | panic ch => exact ⟨_, a₁, w₁, hq, .of_steps (.one h0 stepR_scope) harr⟩
  | outgrown => exact ⟨_, a₁, w₁, hq, .of_steps (.one h0 stepR_scope) harr⟩
end

set_option maxRecDepth 100000 in
set_option maxHeartbeats 4000000 in
theorem rows_iter (A : Option Addr) (n c : Nat) (l : List Int) (hn : n ≤ 1000000) (b B0 : Nat) :
    IterK Try.prog 18 #[.pointer (some ⟨b, 0, none⟩)] (fun x : C.Sp => #[sval x]) (fun k => k = b) 0
      (fun xs => xs = C.spans l) (fun _ => True) (fun pre => pre <+: C.spans l) (fun W => Boxed W b 23 (.slice A n c)) (fun W => RdI W B0 A n l) := by
  intro n' lb J Jx W hok hJ hJx hY hK h0
  have HLN := hid (hK _ _ h0).len
  refine callsIn_of_wp Try.func18 rfl trivial ?_ rfl
  simp only [Try.ntmps18, List.size_toArray, List.length_cons, List.length_nil, Nat.reduceAdd, Nat.reduceSub, Array.replicate_succ, Array.replicate_zero, List.push_toArray, List.append_toArray, List.nil_append, List.cons_append, Array.append_empty]
  refine wpIn_scope ?_
  gi_wp2_with fail
  refine wpIn_label ?_
  gi_wp2_with fail
  gi_loopw [3, 4] (fun fv tv wr => ∃ (pre : List C.Sp) (f t : Nat), fv = .int .i64 f ∧ tv = .int .i64 t ∧ Hid (C.At l pre f t) ∧ Boxed wr b 23 (.slice A n c) ∧ J pre wr ∧ W.heap.size ≤ wr.heap.size) (fun _ tv _ => n + 1 - (RowKit.intOf tv).toNat)
  case atStart => exact ⟨[], 0, 1, rfl, rfl, hid (C.at_start l), hok, h0, Nat.le_refl _⟩
  case round =>
    obtain ⟨pre, f, t, rfl, rfl, HAT, hb, hj, hsz⟩ := hrel
    have hrd := hK _ _ hj
    have hc := hb.cell
    rcases HAT.out with ⟨cl, hf, hft, htn, hsp⟩ | ⟨ht, hpre⟩
    · rw [HLN.out] at htn
      have d1 : decide (t ≤ n) = true := by rw [decide_eq_true_eq]; exact htn
      obtain ⟨bb, off, zf, hA, hbb, hzf, hf0, hf1, hcf⟩ := hrd.cell (k := f) (by omega)
      obtain rfl : zf = cl := by rw [hzf] at hf; injection hf
      subst hA
      have HSP := hid hsp
      have HF := hid hf
      have HJ := hid hj
      have HB := hid hb
      clear hsp hf hj hb hzf
      by_cases hlt : t < n
      · obtain ⟨bb2, off2, zt, hA2, _, hzt, ht0, ht1, hct⟩ := hrd.cell (k := t) hlt
        cases hA2
        have d2 : decide (t < n) = true := by rw [decide_eq_true_eq]; exact hlt
        have HRD := hid hrd
        clear hrd
        by_cases hz : zt = zf
        · have d3 : (zt == zf) = true := by simpa using hz
          subst hz
          have HAT2 := hid (C.at_same HF.out hft HSP.out hzt)
          gi_wp2_with fail
          refine wpIn_wide.2 ?_
          go_quiet (fail)
          have HJ2 := hid (hJ _ _ _ HJ.out (Turned.drewN _ wr nq))
          gi_wp2
          refine ⟨⟨pre, f, t + 1, rfl, ?_, HAT2, HB.out, HJ2.out, hsz⟩, ?_⟩
          · first | rfl | go_num
          · simp [RowKit.intOf] <;> omega
        · have d3 : (zt == zf) = false := by simpa using hz
          have HPX := hid (C.at_prefix HSP.out (by rw [hzt]; intro e; injection e with e; exact hz e))
          have HAT2 := hid (C.at_other HF.out hft HSP.out hzt hz)
          gi_wp2_with fail
          refine wpIn_wide.2 ?_
          go_quiet (fail)
          have HJ2 := hid (hJ _ _ _ HJ.out (Turned.drewN _ wr nq))
          have hb2 : Boxed (wr.drewN nq) b 23 (.slice (some ⟨bb, off, none⟩) n c) := HB.out
          have hc2 := hb2.cell
          have hcf2 : (wr.drewN nq).cell? ⟨bb, off + f, none⟩ = some (.int .i64 zf) := hcf
          have hsz2 : W.heap.size ≤ (wr.drewN nq).heap.size := hsz
          clear hcf hct hc
          generalize wr.drewN nq = wq at *
          obtain ⟨fn, tmps, assign, body, hy, hR⟩ := hY (n' - 1) pre ((f : Int), (t : Int), zf) wq HJ2.out (by omega) HPX.out
          dsimp only [sval] at hy hR
          gi_wp2_with fail
          refine ⟨noDepth, ?_⟩
          refine hR.mono ?_
          rintro e W' ⟨hsp, ⟨rfl, hj'⟩ | ⟨rfl, hj'⟩⟩
          · have HB3 := hid (boxed_spared hb2 hsp (.inl rfl))
            have HJ3 := hid hj'
            have hs3 := hsp.size
            clear hj' hsp
            gi_wp2
            refine ⟨⟨_, t, t + 1, rfl, ?_, HAT2, HB3.out, HJ3.out, by omega⟩, ?_⟩
            · first | rfl | go_num
            · simp [RowKit.intOf] <;> omega
          · have HJ3 := hid hj'
            have hs3 := hsp.size
            clear hj' hsp
            gi_wp2
            rw [Exit.noGoto_normal]
            go_end0
            exact ⟨⟨_, rfl⟩, .inr ⟨_, trivial, HJ3.out⟩⟩
      · obtain rfl : t = n := by omega
        have d2 : decide (t < t) = false := by rw [decide_eq_false_iff_not]; omega
        have HPX := hid (C.at_prefix HSP.out (by rw [List.getElem?_eq_none (by rw [HLN.out]; exact Nat.le_refl _)]; intro e; cases e))
        have HAT2 := hid (C.at_end HSP.out HLN.out.symm)
        have HRD := hid hrd
        clear hrd
        gi_wp2_with fail
        refine wpIn_wide.2 ?_
        go_quiet (fail)
        have HJ2 := hid (hJ _ _ _ HJ.out (Turned.drewN _ wr nq))
        have hb2 : Boxed (wr.drewN nq) b 23 (.slice (some ⟨bb, off, none⟩) t c) := HB.out
        have hc2 := hb2.cell
        have hcf2 : (wr.drewN nq).cell? ⟨bb, off + f, none⟩ = some (.int .i64 zf) := hcf
        have hsz2 : W.heap.size ≤ (wr.drewN nq).heap.size := hsz
        clear hcf hc
        generalize wr.drewN nq = wq at *
        obtain ⟨fn, tmps, assign, body, hy, hR⟩ := hY (n' - 1) pre ((f : Int), (t : Int), zf) wq HJ2.out (by omega) HPX.out
        dsimp only [sval] at hy hR
        gi_wp2_with fail
        refine ⟨noDepth, ?_⟩
        refine hR.mono ?_
        rintro e W' ⟨hsp, ⟨rfl, hj'⟩ | ⟨rfl, hj'⟩⟩
        · have HB3 := hid (boxed_spared hb2 hsp (.inl rfl))
          have HJ3 := hid hj'
          have hs3 := hsp.size
          clear hj' hsp
          gi_wp2
          refine ⟨⟨_, t, t + 1, rfl, ?_, HAT2, HB3.out, HJ3.out, by omega⟩, ?_⟩
          · first | rfl | go_num
          · simp [RowKit.intOf] <;> omega
        · have HJ3 := hid hj'
          have hs3 := hsp.size
          clear hj' hsp
          gi_wp2
          rw [Exit.noGoto_normal]
          go_end0
          exact ⟨⟨_, rfl⟩, .inr ⟨_, trivial, HJ3.out⟩⟩
    · rw [HLN.out] at ht
      subst ht
      subst hpre
      have HJ := hid hj
      have HB := hid hb
      have d1 : decide (n + 1 ≤ n) = false := by rw [decide_eq_false_iff_not]; omega
      clear hj hb hrd
      gi_wp2
      rw [Exit.noGoto_normal]
      go_end0
      exact ⟨⟨_, rfl⟩, .inl ⟨_, rfl, HJ.out⟩⟩
end Go.Proofs.Ythejomfchjlcnaa
