/-
  A region that draws its order, whose operations read and whose callees leave a class of worlds: one walk in the order of the text, the guards' truths as variables.
-/
import Derived.Test.YtcedcfagfklohaaProg
import Derived.Deep.QuietTactic
import Derived.Laws.StructEq
import Derived.WalkKit
set_option linter.unusedVariables false
set_option linter.unusedSimpArgs false
namespace Go.Proofs.Ytcedcfagfklohaa

theorem wp_region_class {P : Program} {id : Nat} {Q : Exit → Act → World → Prop} {a : Act} {w : World} {l : List Oper} (C : World → Prop) (hm : P.follows .mixedOrders = true) (hB : Region.lexB .any l.toArray = true) (hC : C w.drew)
    (h : wpQuiet P l.toArray C (fun a' => ∀ w', C w' → Q .normal a' w') l a) : (Code.region id l.toArray true).wp P Q a w :=
  wp_region_quiet (C := C) hm hB hC (by simpa using h)
section
variable {P : Program} {ops : Array Oper} {C : World → Prop} {Q : Act → Prop} {a : Act} {o : Oper} {rest : List Oper}
theorem quiet_yes (d : Nat) {v : Value} (hd : o.dst = some d) (hw : Region.wanted o (yielded ops a.tmps) = true) (hv : ∀ W, C W → o.quietAt P a C W v) (h : wpQuiet P ops C Q rest (a.put (some d) v)) : wpQuiet P ops C Q (o :: rest) a := by
  unfold wpQuiet
  rw [if_pos hw]
  exact ⟨v, hv, by rw [hd]; exact h⟩
theorem quiet_if (d : Nat) (g : Bool) {v : Value} (hd : o.dst = some d) (hw : Region.wanted o (yielded ops a.tmps) = g) (hv : g = true → ∀ W, C W → o.quietAt P a C W v) (h : wpQuiet P ops C Q rest (a.put (some d) (bif g then v else undef))) : wpQuiet P ops C Q (o :: rest) a := by
  unfold wpQuiet
  cases g with
  | true =>
    rw [if_pos hw]
    exact ⟨v, hv rfl, by rw [hd]; exact h⟩
  | false =>
    rw [if_neg (by rw [hw]; decide), hd]
    exact h
end
end Go.Proofs.Ytcedcfagfklohaa
