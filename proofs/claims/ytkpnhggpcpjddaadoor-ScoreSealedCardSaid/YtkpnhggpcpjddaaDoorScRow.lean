/-
  The magics, out of what is laid, where something else is laid first.
-/
import Derived.Test.YtkpnhggpcpjddaaDoorHdRow
set_option linter.unusedVariables false
set_option linter.unusedSimpArgs false
namespace Go.Proofs.YtkpnhggpcpjddaaDoor
open Go.RowKit Go.WideShapes Go.ChangeShapes

/-- The magics, out of what is laid. -/
theorem mg_of1 (w : World) (laid rest : List (String × DataW Unit)) (a : String × DataW Unit)
    (hl : laid = a :: ("mudlark/head.magics", .agg (([[0, 0, 0, 0, 0, 0, 0, 0], [117, 115, 116, 97, 114, 0, 48, 48], [117, 115, 116, 97, 114, 32, 32, 0]] : List (List UInt8)).map fun s => .lit (.string s))) :: rest)
    (hn : (laid.all fun x => x.2.handleName?.isNone) = true) (h : laidMetH Tryd.prog laid w) : MG w := by
  rw [MakeChecks.laidMetH_plain _ _ _ hn, hl] at h
  replace h := laidMet.tail h
  obtain ⟨ps, ⟨g', t', cs, fuel, p, q, hg', ht', hvar, hd, _, _⟩, _⟩ := h
  have hg : Tryd.prog.globalNamed "mudlark/head.magics" = some 0 := by kernel_rfl
  have hty : (Tryd.prog.globals[0]?).map (·.type) = some 88 := by kernel_rfl
  obtain rfl := Option.some.inj (hg.symm.trans hg')
  obtain rfl := Option.some.inj (hty.symm.trans ht')
  have hcs := cells_of_texts Tryd.underlying88 Tryd.underlying9 (by kernel_rfl) (by kernel_rfl) hd
  have hc := fun off => World.var?_cell hg hvar off
  have hx := fun off => (hc off).trans (show cs[off]? = _ by rw [← Array.getElem?_toList, hcs])
  exact ⟨(hx 0).trans rfl, (hx 1).trans rfl, (hx 2).trans rfl⟩
end Go.Proofs.YtkpnhggpcpjddaaDoor
