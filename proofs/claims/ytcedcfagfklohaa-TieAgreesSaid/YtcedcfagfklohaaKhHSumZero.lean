/-
  The contract of Zero of the program.
-/
import Derived.Test.YtcedcfagfklohaaKhHSumUns
set_option linter.unusedVariables false
set_option linter.unusedSimpArgs false
namespace Go.Proofs.Ytcedcfagfklohaa.Hd
open Go.RowKit Go.Lib


section
variable {ops : Array Oper} {rest : List Oper} {o : Oper} {a : Act} {w : World} {Q : Exit → Act → World → Prop}
theorem wpList_wanted {P : Program} (hw : Region.wanted o (yielded ops a.tmps) = true) (h : ∀ K : Act → World → Prop, (∀ a w, wpList P ops Q rest a w → K a w) → o.wp P a w K Q) : wpList P ops Q (o :: rest) a w :=
  wpList_step fun K hK => by rw [if_pos hw]; exact h K hK
end

theorem zero_yes {zs : List Int} (h : zs.length = 512) : M.zero zs = (zs == nils 512) := by
  unfold M.zero
  rw [decide_eq_true h, Bool.true_and, Bool.eq_iff_iff, List.all_eq_true, beq_iff_eq]
  constructor
  · intro ha
    have := List.eq_replicate_iff.2 ⟨h, fun b hb => by simpa using ha b hb⟩
    exact this
  · intro e x hx
    rw [e] at hx
    simpa using (List.mem_replicate.1 hx).2

end Go.Proofs.Ytcedcfagfklohaa.Hd
