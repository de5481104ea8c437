/-
  Steps of regions in few words: each operation's side conditions are found by the step itself.
-/
import Derived.Test.YthejomfchjlcnaaProg
import Derived.Deep.RegionHeld3
import Derived.Deep.QuietTactic
import Derived.Laws.StructEq
import Derived.WalkKit
set_option linter.unusedVariables false
set_option linter.unusedSimpArgs false
namespace Go.Proofs.Ythejomfchjlcnaa
open Go.RowKit
theorem NM : (∀ (a : Act) (d : Nat) (v : Value), a.put (some d) v = { a with tmps := a.tmps.setIfInBounds d v }) ∧ (∀ (l : List Value) (i : Nat) (v : Value), l.toArray.setIfInBounds i v = (l.set i v).toArray) ∧ (∀ (x y : Value) (l : List Value), (x :: l).set 0 y = y :: l) ∧ (∀ (x y : Value) (l : List Value) (n : Nat), (x :: l).set (n + 1) y = x :: l.set n y) ∧ (∀ (l : List Bool) (i : Nat) (v : Bool), l.toArray.setIfInBounds i v = (l.set i v).toArray) ∧ (∀ (x y : Bool) (l : List Bool), (x :: l).set 0 y = y :: l) ∧ (∀ (x y : Bool) (l : List Bool) (n : Nat), (x :: l).set (n + 1) y = x :: l.set n y) :=
  ⟨fun _ _ _ => rfl, fun l i v => List.setIfInBounds_toArray l i v, fun _ _ _ => rfl, fun _ _ _ _ => rfl, fun l i v => List.setIfInBounds_toArray l i v, fun _ _ _ => rfl, fun _ _ _ _ => rfl⟩
theorem someB (g b : Bool) : (some g == some b) = (g == b) := by cases g <;> cases b <;> rfl
section
variable {P : Program} {md : Region.Mode} {ops : Array Oper} {Q : Exit → Act → World → Prop} {S S' : World → Prop} {φ : World → Prop}
theorem tkH (i : Nat) {d : Nat} {oi : Oper} {v : Value} {fuel : Nat} {listed : Array Bool} {a a' : Act} {w : World} (hS : S w)
    (h : wpAnyH P md ops Q S fuel (listed.setIfInBounds i true) a' w)
    (hi : ops[i]? = some oi := by exact rfl) (hd : oi.dst = some d := by exact rfl)
    (hs : Region.noSelect ops = true := by kernel_rfl) (hf : Region.free md ops listed i = true := by kernel_rfl) (hr : (Region.ready md ops listed).contains i = true := by kernel_rfl)
    (hQ : ∀ c a w, Q (.panic c) (a.put oi.dst v) w → Q (.panic c) a w := by exact fun _ _ _ h => h) (hw : Region.wanted oi (yielded ops a.tmps) = true := by exact rfl)
    (hy : ∀ w, S w → (execOp a.eval oi).run P w = .ok (.value v) w := by intro W hW; clear hW; go_simp; first | done | with_reducible rfl)
    (ha : a.put (some d) v = a' := by (try simp only [NM]); exact rfl) : wpAnyH P md ops Q S (fuel + 1) listed a w :=
  wpAnyH_take hi hs hf hr hQ (.inl ⟨hw, hy⟩) hS (by rw [hd, ha]; exact h)
theorem tfH (i : Nat) {d : Nat} {oi : Oper} {v : Value} {fuel : Nat} {listed : Array Bool} {a a' : Act} {w : World} (hS : S w) (f : ∀ w, S w → φ w)
    (h : wpAnyH P md ops Q S fuel (listed.setIfInBounds i true) a' w)
    (hi : ops[i]? = some oi := by exact rfl) (hd : oi.dst = some d := by exact rfl)
    (hs : Region.noSelect ops = true := by kernel_rfl) (hf : Region.free md ops listed i = true := by kernel_rfl) (hr : (Region.ready md ops listed).contains i = true := by kernel_rfl)
    (hQ : ∀ c a w, Q (.panic c) (a.put oi.dst v) w → Q (.panic c) a w := by exact fun _ _ _ h => h) (hw : Region.wanted oi (yielded ops a.tmps) = true := by exact rfl)
    (hy : ∀ w, φ w → (execOp a.eval oi).run P w = .ok (.value v) w := by intro W hf; go_simp; first | done | with_reducible rfl)
    (ha : a.put (some d) v = a' := by (try simp only [NM]); exact rfl) : wpAnyH P md ops Q S (fuel + 1) listed a w :=
  wpAnyH_take hi hs hf hr hQ (.inl ⟨hw, fun w hw => hy w (f w hw)⟩) hS (by rw [hd, ha]; exact h)
end
section
variable {P : Program} {ops : Array Oper} {C : World → Prop} {Q : Act → Prop} {a a' : Act} {o : Oper} {rest : List Oper} {d : Nat} {v : Value}
theorem qyH (h : wpQuiet P ops C Q rest a') (hd : o.dst = some d := by exact rfl) (hw : Region.wanted o (yielded ops a.tmps) = true := by kernel_rfl)
    (hy : ∀ W, C W → o.quietAt P a C W v := by intro W hW; clear hW; go_simp; first | done | with_reducible rfl)
    (ha : a.put (some d) v = a' := by (try simp only [NM]); exact rfl) : wpQuiet P ops C Q (o :: rest) a := by
  unfold wpQuiet
  rw [if_pos hw]
  exact ⟨v, hy, by rw [hd, ha]; exact h⟩
theorem qxH (g : Bool) (hw : Region.wanted o (yielded ops a.tmps) = g) (h : wpQuiet P ops C Q rest a') (hd : o.dst = some d := by exact rfl)
    (hy : g = true → ∀ W, C W → o.quietAt P a C W v := by intro hg W hW; subst hg; clear hW; go_simp; first | done | with_reducible rfl)
    (ha : a.put (some d) (bif g then v else undef) = a' := by (try simp only [NM]); exact rfl) : wpQuiet P ops C Q (o :: rest) a := by
  unfold wpQuiet
  cases g with
  | true =>
    rw [if_pos hw]
    exact ⟨v, hy rfl, by rw [hd]; rw [← ha] at h; exact h⟩
  | false =>
    rw [if_neg (by rw [hw]; decide), hd]
    rw [← ha] at h
    exact h
theorem qiH (g : Bool) (h : wpQuiet P ops C Q rest a') (hw : Region.wanted o (yielded ops a.tmps) = (some g == some true) := by kernel_rfl) (hd : o.dst = some d := by exact rfl)
    (hy : g = true → ∀ W, C W → o.quietAt P a C W v := by intro hg W hW; subst hg; clear hW; go_simp; first | done | with_reducible rfl)
    (ha : a.put (some d) (bif g then v else undef) = a' := by (try simp only [NM]); exact rfl) : wpQuiet P ops C Q (o :: rest) a :=
  qxH g (by rw [hw]; cases g <;> rfl) h hd hy ha
theorem qnH (g : Bool) (h : wpQuiet P ops C Q rest a') (hw : Region.wanted o (yielded ops a.tmps) = (some g == some false) := by kernel_rfl) (hd : o.dst = some d := by exact rfl)
    (hy : (!g) = true → ∀ W, C W → o.quietAt P a C W v := by intro hg W hW; rw [Bool.not_eq_true'] at hg; subst hg; clear hW; (try simp only [cond_true]); go_simp; first | done | with_reducible rfl)
    (ha : a.put (some d) (bif (!g) then v else undef) = a' := by (try simp only [NM]); exact rfl) : wpQuiet P ops C Q (o :: rest) a :=
  qxH (!g) (by rw [hw]; cases g <;> rfl) h hd hy ha
end
section
variable {P : Program} {ops : Array Oper} {Q : Exit → Act → World → Prop} {a a' : Act} {w : World} {rest : List Oper} {o : Oper} {d : Nat} {v : Value}
theorem wyH (h : wpList P ops Q rest a' w) (hd : o.dst = some d := by exact rfl) (hw : Region.wanted o (yielded ops a.tmps) = true := by kernel_rfl)
    (hy : (execOp a.eval o).run P w = .ok (.value v) w := by go_simp; first | done | with_reducible rfl)
    (ha : a.put (some d) v = a' := by (try simp only [NM]); exact rfl) : wpList P ops Q (o :: rest) a w := by
  unfold wpList
  rw [if_pos hw]
  left
  unfold Oper.wp
  rw [hy]
  show wpList P ops Q rest (a.put o.dst v) w
  rw [hd, ha]; exact h
theorem wxH (g : Bool) (hw : Region.wanted o (yielded ops a.tmps) = g) (h : wpList P ops Q rest a' w) (hd : o.dst = some d := by exact rfl)
    (hy : g = true → (execOp a.eval o).run P w = .ok (.value v) w := by intro hg; subst hg; (try simp only [cond_true]); go_simp; first | done | with_reducible rfl)
    (ha : a.put (some d) (bif g then v else undef) = a' := by (try simp only [NM]); exact rfl) : wpList P ops Q (o :: rest) a w := by
  cases g with
  | true => exact wyH (a' := a') h hd hw (hy rfl) ha
  | false =>
    unfold wpList
    rw [if_neg (by rw [hw]; decide), hd]
    rw [← ha] at h
    exact h
theorem wiH (g : Bool) (h : wpList P ops Q rest a' w) (hw : Region.wanted o (yielded ops a.tmps) = (some g == some true) := by kernel_rfl) (hd : o.dst = some d := by exact rfl)
    (hy : g = true → (execOp a.eval o).run P w = .ok (.value v) w := by intro hg; subst hg; (try simp only [cond_true]); go_simp; first | done | with_reducible rfl)
    (ha : a.put (some d) (bif g then v else undef) = a' := by (try simp only [NM]); exact rfl) : wpList P ops Q (o :: rest) a w :=
  wxH g (by rw [hw]; cases g <;> rfl) h hd hy ha
theorem wnH (g : Bool) (h : wpList P ops Q rest a' w) (hw : Region.wanted o (yielded ops a.tmps) = (some g == some false) := by kernel_rfl) (hd : o.dst = some d := by exact rfl)
    (hy : (!g) = true → (execOp a.eval o).run P w = .ok (.value v) w := by intro hg; rw [Bool.not_eq_true'] at hg; subst hg; (try simp only [cond_true]); go_simp; first | done | with_reducible rfl)
    (ha : a.put (some d) (bif (!g) then v else undef) = a' := by (try simp only [NM]); exact rfl) : wpList P ops Q (o :: rest) a w :=
  wxH (!g) (by rw [hw]; cases g <;> rfl) h hd hy ha
end
end Go.Proofs.Ythejomfchjlcnaa
