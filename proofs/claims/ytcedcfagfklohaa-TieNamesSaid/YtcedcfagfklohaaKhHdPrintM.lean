/-
  head.Print: how it is left; printParts.
-/
import Derived.Test.YtcedcfagfklohaaKhHdMathQ
import Derived.Test.YtcedcfagfklohaaKhHSumMake
import Derived.LoopN
import Derived.LoopTactic
set_option linter.unusedVariables false
set_option linter.unusedSimpArgs false
namespace Go.Proofs.Ytcedcfagfklohaa.Hd
open Go.RowKit Go.Lib

/-! Print's deferred function. -/
/-! Parts that came in. -/
def PartsB (w : World) (B : Nat) (pv : Value) (l : List (Int × Int)) : Prop :=
  ∃ A c, pv = .slice A l.length c ∧ l.length ≤ c ∧ (0 < l.length → ∃ b off, A = some ⟨b, off, none⟩ ∧ b < B ∧ ∀ (j : Nat) (p : Int × Int), l[j]? = some p → w.cell? ⟨b, off + 2 * j, none⟩ = some (.int .i64 p.1) ∧ w.cell? ⟨b, off + 2 * j + 1, none⟩ = some (.int .i64 p.2))
theorem PartsIs.in_ {w : World} {base : Nat} {pv : Value} {l : List (Int × Int)} (h : PartsIs w base pv l) : PartsB w w.heap.size pv l := by
  obtain ⟨A, c, rfl, h1, h2⟩ := h
  exact ⟨A, c, rfl, h1, fun hl => let ⟨b, off, e, _, h4, h5⟩ := h2 hl; ⟨b, off, e, h4, h5⟩⟩
theorem PartsB.below {w w' : World} {B : Nat} {pv : Value} {l : List (Int × Int)} (h : PartsB w B pv l) (hb : Below B w w') : PartsB w' B pv l := by
  obtain ⟨A, c, rfl, h1, h2⟩ := h
  exact ⟨A, c, rfl, h1, fun hl => let ⟨b, off, e, h4, h5⟩ := h2 hl; ⟨b, off, e, h4, fun j p hp => ⟨(hb.cell (p := ⟨b, off + 2 * j, none⟩) h4).trans (h5 j p hp).1, (hb.cell (p := ⟨b, off + 2 * j + 1, none⟩) h4).trans (h5 j p hp).2⟩⟩⟩
end Go.Proofs.Ytcedcfagfklohaa.Hd
