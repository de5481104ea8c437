/-
  head.Parse: how it is left, by a stop or at its end.
-/
import Derived.Test.YtcedcfagfklohaaKhFieldZ
import Derived.Test.YtcedcfagfklohaaKhHdArr
set_option linter.unusedVariables false
set_option linter.unusedSimpArgs false
namespace Go.Proofs.Ytcedcfagfklohaa.Hd
open Go.RowKit Go.Lib

/-- A row of parts in memory, in a block that is not below base. -/
def PartsIs (w : World) (base : Nat) (pv : Value) (l : List (Int × Int)) : Prop :=
  ∃ A c, pv = .slice A l.length c ∧ l.length ≤ c ∧ (0 < l.length → ∃ b off, A = some ⟨b, off, none⟩ ∧ base ≤ b ∧ b < w.heap.size ∧ ∀ (j : Nat) (p : Int × Int), l[j]? = some p → w.cell? ⟨b, off + 2 * j, none⟩ = some (.int .i64 p.1) ∧ w.cell? ⟨b, off + 2 * j + 1, none⟩ = some (.int .i64 p.2))
theorem PartsIs.nil (w : World) (base : Nat) : PartsIs w base (.slice none 0 0) [] := ⟨none, 0, rfl, Nat.le_refl _, fun h => absurd h (by decide)⟩
theorem PartsIs.lower {w : World} {base base' : Nat} {pv : Value} {l : List (Int × Int)} (h : PartsIs w base pv l) (hb : base' ≤ base) : PartsIs w base' pv l := by
  obtain ⟨A, c, rfl, h1, h2⟩ := h
  exact ⟨A, c, rfl, h1, fun hl => let ⟨b, off, e, h3, h4, h5⟩ := h2 hl; ⟨b, off, e, Nat.le_trans hb h3, h4, h5⟩⟩
theorem PartsIs.keep {w w' : World} {base : Nat} {pv : Value} {l : List (Int × Int)} (h : PartsIs w base pv l) (hs : w.heap.size ≤ w'.heap.size) (hk : ∀ a : Addr, base ≤ a.block → a.block < w.heap.size → w'.cell? a = w.cell? a) : PartsIs w' base pv l := by
  obtain ⟨A, c, rfl, h1, h2⟩ := h
  refine ⟨A, c, rfl, h1, fun hl => ?_⟩
  obtain ⟨b, off, e, h3, h4, h5⟩ := h2 hl
  exact ⟨b, off, e, h3, Nat.lt_of_lt_of_le h4 hs, fun j p hp => ⟨(hk _ h3 h4).trans (h5 j p hp).1, (hk _ h3 h4).trans (h5 j p hp).2⟩⟩
theorem PartsIs.later {w w' : World} {base : Nat} {pv : Value} {l : List (Int × Int)} (h : PartsIs w base pv l) (hb : Below w.heap.size w w') : PartsIs w' base pv l := h.keep hb.size fun a _ ha => hb.cell ha
theorem PartsIs.set {w : World} {base : Nat} {pv : Value} {l : List (Int × Int)} (h : PartsIs w base pv l) (a : Addr) (ha : a.block < base) (v : Value) : PartsIs (w.setCell a v) base pv l :=
  h.keep (by simp) fun q hq _ => World.cell?_setCell_other w a q v (fun e => by subst e; omega)
theorem PartsIs.row {w : World} {base : Nat} {pv : Value} {l : List (Int × Int)} (h : PartsIs w base pv l) (g : Nat) (hg : g < base) (cs : Array Value) : PartsIs (w.setRow g cs) base pv l :=
  h.keep (by simp) fun q hq _ => cell_setRow_other w g cs q (by omega)
/-- What Parse answers: the error's number, the header. -/
def ParseIs (n : Int) (h : M.Hdr) (w0 : World) (e : Ending) (w' : World) : Prop :=
  ∃ pv, e = .returned (.tuple #[.agg (hcells h pv), .int .u16 n]) ∧ PartsIs w' w0.heap.size pv h.parts ∧ Below w0.heap.size w0 w'

end Go.Proofs.Ytcedcfagfklohaa.Hd
