/-
  The contract of the document's Spans.
-/
import Derived.Test.YthejomfchjlcnaaChCount
set_option linter.unusedVariables false
set_option linter.unusedSimpArgs false
namespace Go.Proofs.Ythejomfchjlcnaa
open Go.RowKit Go.Lib

namespace C
/-- What the document has behind i classes. -/
def AtR (l : List Int) (acc : List Sp) (i : Nat) : Prop :=
  (i = 0 ∧ acc = []) ∨ (∃ pre f c, l[i - 1]? = some c ∧ 0 < i ∧ f < i ∧ acc = pre ++ [((f : Int), (i : Int), c)] ∧ spans l = pre ++ go (l.drop i) f c i)
theorem atR_first {l : List Int} {x : Int} (h : l[0]? = some x) : AtR l [(0, 1, x)] 1 := by
  refine .inr ⟨[], 0, x, h, by omega, by omega, rfl, ?_⟩
  cases l with
  | nil => simp at h
  | cons y r => simp at h; subst h; rfl
theorem atR_same {l : List Int} {pre : List Sp} {f i : Nat} {c : Int} (hx : l[i]? = some c) (hf : f < i) (h : spans l = pre ++ go (l.drop i) f c i) : AtR l (pre ++ [((f : Int), ((i + 1 : Nat) : Int), c)]) (i + 1) := by
  obtain ⟨hi, hc⟩ := List.getElem?_eq_some_iff.1 hx
  exact .inr ⟨pre, f, c, hx, by omega, by omega, rfl, by rw [h, List.drop_eq_getElem_cons hi, hc, go_same]⟩
theorem atR_other {l : List Int} {pre : List Sp} {f i : Nat} {c x : Int} (hx : l[i]? = some x) (hf : f < i) (hn : x ≠ c) (h : spans l = pre ++ go (l.drop i) f c i) : AtR l ((pre ++ [((f : Int), (i : Int), c)]) ++ [((i : Int), ((i + 1 : Nat) : Int), x)]) (i + 1) := by
  obtain ⟨hi, hc⟩ := List.getElem?_eq_some_iff.1 hx
  exact .inr ⟨_, i, x, hx, by omega, by omega, rfl, by rw [h, List.drop_eq_getElem_cons hi, hc, go_other hn, List.append_assoc]; rfl⟩
theorem atR_end {l : List Int} {acc : List Sp} (h : AtR l acc l.length) : acc = spans l := by
  rcases h with ⟨h0, rfl⟩ | ⟨pre, f, c, _, _, _, rfl, h⟩
  · have : l = [] := List.eq_nil_of_length_eq_zero h0
    subst this; rfl
  · rw [h, List.drop_length]; rfl
end C

/-- The last span of an own row: its end is set. -/
theorem OwnS.last {w : World} {base : Nat} {v : Value} {pre : List C.Sp} {p : C.Sp} (h : OwnS w base v (pre ++ [p])) :
    ∃ g c, v = .slice (some ⟨g, 0, none⟩) (pre.length + 1) c ∧ base ≤ g ∧ g < w.heap.size ∧ w.cell? ⟨g, pre.length * 3 + 1, none⟩ = some (.int .i64 p.2.1) ∧ w.frozen? ⟨g, pre.length * 3 + 1, none⟩ = false ∧ pre.length + 1 ≤ c ∧
      ∀ z, OwnS (w.setCell ⟨g, pre.length * 3 + 1, none⟩ (.int .i64 z)) base v (pre ++ [(p.1, z, p.2.2)]) := by
  have hl : (pre ++ [p]).length = pre.length + 1 := by simp
  obtain ⟨g, cap, hv, hb, hlt⟩ := World.ownsRow.form h (by omega)
  obtain ⟨A, c, hv2, hrd, hc, _⟩ := h.rd
  subst hv
  rw [hl] at hv2 hrd hc ⊢
  injection hv2 with e1 e2 e3
  subst e1
  subst e3
  obtain ⟨b, off, q, hA, _, hq, _, c2, _⟩ := hrd.at_ (k := pre.length) (by omega)
  injection hA with hA
  injection hA with hA1 hA2
  subst hA1
  subst hA2
  have hk : (pre ++ [p])[pre.length]? = some p := by simp
  obtain rfl : p = q := by rw [hk] at hq; injection hq
  rw [Nat.zero_add] at c2
  refine ⟨g, cap, rfl, hb, hlt, c2, ?_, hc, fun z => ?_⟩
  · have h2 := h
    rw [show (Value.slice (some ⟨g, 0, none⟩) (pre ++ [p]).length cap) = Value.slice (some ⟨g, 0, none⟩) (pre ++ [p]).length cap from rfl] at h2
    exact World.ownsRow.frozenAt (g := g) (n := (pre ++ [p]).length) (cap := cap) h2 _
  · have h3 := (OwnS.stored h pre.length p hk).2.1 z
    rw [show 3 * pre.length + 1 = pre.length * 3 + 1 by omega, List.set_append_right _ _ (Nat.le_refl _), Nat.sub_self] at h3
    rw [hl] at h3
    exact h3

set_option maxRecDepth 100000 in
set_option maxHeartbeats 8000000 in
theorem refSpans_any (A : Option Addr) (n c : Nat) (l : List Int) (hn : n ≤ 500000) (w : World) (h : RdI w w.heap.size A n l) :
    Calls Try.prog 11 #[.slice A n c] w fun e w' => ∃ v, e = .returned v ∧ OwnS w' w.heap.size v (C.spans l) ∧ Below w.heap.size w w' := by
  have HL := hid h.len
  have HR := hid h
  clear h
  go_enter Try.func11, Try.ntmps11
  go_wp2
  go_loopw [3, 4] (fun vv iv wr => ∃ (i : Nat) (acc : List C.Sp) (v : Value), iv = .int .i64 i ∧ vv = v ∧ i ≤ n ∧ acc.length ≤ i ∧ Hid (OwnS wr w.heap.size v acc) ∧ Hid (C.AtR l acc i) ∧ Hid (Below w.heap.size w wr)) (fun _ iv _ => n - (RowKit.intOf iv).toNat)
  case atStart => exact ⟨0, [], _, rfl, rfl, Nat.zero_le _, Nat.le_refl _, hid (OwnS.nil _ _), hid (.inl ⟨rfl, rfl⟩), hid (Below.refl _ _)⟩
  case round =>
    obtain ⟨i, acc, v, rfl, rfl, hin, hal, HO, HAT, HW⟩ := hrel
    obtain ⟨Ao, co, rfl, _, _⟩ := HO.out.rd
    have hbs := HW.out.size
    by_cases hlt : i < n
    · obtain ⟨bb, off, x, rfl, hb, hx, hx0, hx1, hcx⟩ := (HR.out.below HW.out).cell hlt
      rcases HAT.out with ⟨rfl, rfl⟩ | ⟨pre, f, cl, hcl, hi0, hf, hacc, hsp⟩
      · have HAT2 := hid (C.atR_first hx)
        clear hx HAT
        simp only [Nat.add_zero] at hcx
        go_wp2_with fail
        go_quiet (fail)
        have HO2 : Hid (OwnS (wr.drewN nq) w.heap.size (.slice Ao 0 co) []) := HO
        have HW2 := hid (below_drewN' HW.out nq)
        have hcx2 : (wr.drewN nq).cell? ⟨bb, off, none⟩ = some (.int .i64 x) := hcx
        have hbs2 := HW2.out.size
        clear hcx HO HW hbs
        generalize wr.drewN nq = wq at *
        go_wp2_with (refine wpList_appS rfl (.tmp 25) (.tmp 32) rfl w.heap.size _ [] (by simp [Act.eval]) (HO2.out.alloc _) (wq.heap.size + 1) (some ⟨wq.heap.size, 0, none⟩) 1 1 [(0, 0, x)] (by simp [Act.eval]) (RdS.lit wq (0, 0, x)) (by simp) (by rw [World.size_alloc]; omega) ?_
                     intro v' w3 k1 k2 k3
                     obtain ⟨g, c3, rfl, hg1, hg2, q1, q2, q3, q4⟩ := OwnS.last (pre := []) k1
                     have B3 := hid (below_grown (HW2.out.alloc HW2.out.size _) k2 (by rw [World.size_alloc]; omega) (fun g' e => (HO2.out.lt e).1))
                     simp only [List.length_nil, Nat.zero_mul, Nat.zero_add] at q1 q2 q3 q4
                     have Q4 := hid q4
                     clear k1 k2 k3 q4)
        refine ⟨⟨1, [(0, 1, x)], _, rfl, rfl, by omega, by simp, hid (Q4.out 1), HAT2, hid (B3.out.setCell (p := ⟨g, 1, none⟩) hg1 _)⟩, ?_⟩
        simp [RowKit.intOf] <;> omega
      · obtain ⟨j, hj⟩ : ∃ j, i = j + 1 := ⟨i - 1, by omega⟩
        subst hacc
        obtain ⟨bb2, off2, y, hA2, _, hy, hy0, hy1, hcy⟩ := (HR.out.below HW.out).cell (k := j) (by omega)
        cases hA2
        obtain rfl : cl = y := by rw [show i - 1 = j by omega, hy] at hcl; injection hcl with hcl; exact hcl.symm
        have HSP := hid hsp
        have HX := hid hx
        have HLP : Hid (pre.length + 1 ≤ i) := hid (by rw [List.length_append] at hal; simpa using hal)
        have d0 : ((i : Int) == 0) = false := by rw [beq_eq_false_iff_ne]; omega
        have e1 : (i : Int) - 1 = (j : Int) := by omega
        have e2 : IntKind.i64.wrap (j : Int) = (j : Int) := IntWalk.i64_in _ (by omega)
        have HJ := hid hj
        have hjn : j < n := by omega
        clear hsp hcl hy HAT hx hal hj
        by_cases hxy : x = cl
        · subst hxy
          have HAT2 := hid (C.atR_same HX.out hf HSP.out)
          have d1 : (x != x) = false := by simp
          go_wp2_with fail
          go_quiet (fail)
          obtain ⟨g, c3, hv, hg1, hg2, q1, q2, q3, q4⟩ := OwnS.last (w := wr.drewN nq) (show OwnS (wr.drewN nq) w.heap.size _ _ from HO.out)
          have HW2 := hid (below_drewN' HW.out nq)
          generalize hsl : Value.slice Ao (pre ++ [((f : Int), (i : Int), x)]).length co = sl at *
          subst hv
          obtain ⟨m, hm⟩ : ∃ m, m = pre.length := ⟨_, rfl⟩
          rw [← hm] at q1 q2 q3 q4 HLP ⊢
          have e3 : IntKind.i64.wrap (m : Int) = (m : Int) := IntWalk.i64_in _ (by have := HLP.out; omega)
          have HM := hid hm
          have Q4 := hid q4
          clear hm hsl hcx hcy HO HW hbs q4
          generalize wr.drewN nq = wq at *
          have e9 : ((i + 1 : Nat) : Int) = (i : Int) + 1 := by omega
          rw [e9] at HAT2
          by_cases hm0 : m = 0
          case' pos =>
            subst hm0
            simp only [Nat.zero_mul, Nat.zero_add] at q1 q2 q3 Q4 ⊢
          case' neg => have hm1 : 0 < m := by omega
          all_goals
            go_wp2
            refine ⟨⟨i + 1, _, _, by rw [e9], rfl, by omega, ?_, hid (Q4.out ((i : Int) + 1)), HAT2, hid (HW2.out.setCell (p := ⟨g, _, none⟩) hg1 _)⟩, ?_⟩
            · rw [List.length_append, ← HM.out]; have := HLP.out; simp <;> omega
            · simp [RowKit.intOf] <;> omega
        · have HAT2 := hid (C.atR_other HX.out hf hxy HSP.out)
          have d1 : (x != cl) = true := by simpa using hxy
          go_wp2_with fail
          go_quiet (fail)
          have HO2 : Hid (OwnS (wr.drewN nq) w.heap.size (.slice Ao (pre ++ [((f : Int), (i : Int), cl)]).length co) (pre ++ [((f : Int), (i : Int), cl)])) := HO
          have HW2 := hid (below_drewN' HW.out nq)
          have hcx2 : (wr.drewN nq).cell? ⟨bb, off + i, none⟩ = some (.int .i64 x) := hcx
          have hbs2 := HW2.out.size
          have HLN : Hid ((pre ++ [((f : Int), (i : Int), cl)]).length + 1 ≤ 1000000) := hid (by rw [List.length_append]; have := HLP.out; simp <;> omega)
          clear hcx hcy HO HW hbs
          generalize wr.drewN nq = wq at *
          generalize hq : pre ++ [((f : Int), (i : Int), cl)] = q at *
          have HQL : Hid (q.length ≤ i) := hid (by rw [← hq, List.length_append]; have := HLP.out; simpa using this)
          have hqp : 0 < q.length := by rw [← hq]; simp
          clear hq
          obtain ⟨m, hm⟩ : ∃ m, m = q.length := ⟨_, rfl⟩
          rw [← hm] at HO2 HLN HQL hqp ⊢
          have e3 : IntKind.i64.wrap (m : Int) = (m : Int) := IntWalk.i64_in _ (by have := HLN.out; omega)
          have HM := hid hm
          clear hm
          go_wp2_with (refine wpList_appS rfl (.tmp 25) (.tmp 32) rfl w.heap.size _ q (by simp [Act.eval]) (HO2.out.alloc _) (wq.heap.size + 1) (some ⟨wq.heap.size, 0, none⟩) 1 1 [((i : Int), 0, x)] (by simp [Act.eval]) (RdS.lit wq ((i : Int), 0, x)) (by rw [← HM.out]; exact HLN.out) (by rw [World.size_alloc]; omega) ?_
                       intro v' w3 k1 k2 k3
                       obtain ⟨g, c3, rfl, hg1, hg2, q1, q2, q3, q4⟩ := OwnS.last k1
                       have B3 := hid (below_grown (HW2.out.alloc HW2.out.size _) k2 (by rw [World.size_alloc]; omega) (fun g' e => (HO2.out.lt e).1))
                       rw [← HM.out] at q1 q2 q3 q4 ⊢
                       have Q4 := hid q4
                       clear k1 k2 k3 q4)
          have e9 : ((i + 1 : Nat) : Int) = (i : Int) + 1 := by omega
          rw [e9] at HAT2
          refine ⟨⟨i + 1, _, _, by rw [e9], rfl, by omega, ?_, hid (Q4.out ((i : Int) + 1)), HAT2, hid (B3.out.setCell (p := ⟨g, m * 3 + 1, none⟩) hg1 _)⟩, ?_⟩
          · rw [List.length_append, ← HM.out]; have := HQL.out; simp <;> omega
          · simp [RowKit.intOf] <;> omega
    · obtain rfl : i = n := by omega
      have HE := hid (C.atR_end (l := l) (acc := acc) (by rw [HL.out]; exact HAT.out))
      go_wp2
      go_ret
      exact ⟨_, rfl, by rw [← HE.out]; exact HO.out, HW.out⟩
end Go.Proofs.Ythejomfchjlcnaa
