/-
  The arrays of fields.
-/
import Derived.Test.YtcedcfagfklohaaKhHdSmall
import Derived.StillTailTactics
import Derived.IntWalk
set_option linter.unusedVariables false
set_option linter.unusedSimpArgs false
namespace Go.Proofs.Ytcedcfagfklohaa.Hd
open Go.RowKit Go.Lib

/-- The fields of texts, and of numbers, of the header in block g. -/
def textsV (g : Nat) (v : Int) : Array Value :=
  #[.int .i64 0, .int .i64 100, .bool true, .pointer (some ⟨g, 0, none⟩),
    .int .i64 157, .int .i64 100, .bool true, .pointer (some ⟨g, 7, none⟩),
    .int .i64 265, .int .i64 32, .bool (v != 0), .pointer (some ⟨g, 9, none⟩),
    .int .i64 297, .int .i64 32, .bool (v != 0), .pointer (some ⟨g, 10, none⟩),
    .int .i64 345, .int .i64 155, .bool (v == 1), .pointer (some ⟨g, 13, none⟩)]
theorem textsV_one (g : Nat) (v : Int) : (textsV g v).all (·.oneCell') = true := by simp [textsV, Value.oneCell']
theorem below_setRow {B : Nat} {w0 w : World} (h : Below B w0 w) {g : Nat} (hg : B ≤ g) (cs : Array Value) : Below B w0 (w.setRow g cs) :=
  h.trans ⟨rfl, rfl, rfl, by simp, fun k hk => setRow_other w g k cs (by omega)⟩
/-- A result that is a whole block. -/
theorem results_row {f : Func} {k : Nat} {t : TypeId} {d : TypeDesc} (hf : f.results = #[ResultVar.cell k t]) (hd : (match d with | .struct _ | .array _ _ => true | _ => false) = true) (hu : Try.prog.underlying t = some d)
    {tmps : Array Value} {g : Nat} {cs : Array Value} {e : TypeId} {w : World} (hk : tmps.getD k undef = .pointer (some ⟨g, 0, none⟩)) (hb : w.heap[g]? = some (.cells cs e (0, 0)))
    (hs : (Try.prog.info? t).map (·.size) = some cs.size) : (results f tmps).run Try.prog w = .ok (.agg cs) w := by
  rw [Array.getD_eq_getD_getElem?] at hk
  have hl := run_loadVar_row (P := Try.prog) w g e t cs (0, 0) d hb hu (by cases d <;> first | rfl | cases hd) hs
  simp [results, hf, hk, asAddr, hl]
def numbersV (g : Nat) (k v : Int) : Array Value :=
  #[.int .i64 100, .int .i64 8, .bool true, .int .i64 0, .int .i64 4611686018427387904, .pointer (some ⟨g, 1, none⟩),
    .int .i64 108, .int .i64 8, .bool true, .int .i64 0, .int .i64 4611686018427387904, .pointer (some ⟨g, 2, none⟩),
    .int .i64 116, .int .i64 8, .bool true, .int .i64 0, .int .i64 4611686018427387904, .pointer (some ⟨g, 3, none⟩),
    .int .i64 124, .int .i64 12, .bool true, .int .i64 0, .int .i64 1099511627776, .pointer (some ⟨g, 4, none⟩),
    .int .i64 136, .int .i64 12, .bool true, .int .i64 (-4611686018427387904), .int .i64 4611686018427387904, .pointer (some ⟨g, 5, none⟩),
    .int .i64 329, .int .i64 8, .bool (v != 0), .int .i64 0, .int .i64 4611686018427387904, .pointer (some ⟨g, 11, none⟩),
    .int .i64 337, .int .i64 8, .bool (v != 0), .int .i64 0, .int .i64 4611686018427387904, .pointer (some ⟨g, 12, none⟩),
    .int .i64 483, .int .i64 12, .bool (k == 83 && v == 2), .int .i64 0, .int .i64 1099511627776, .pointer (some ⟨g, 16, none⟩)]
theorem numbersV_one (g : Nat) (k v : Int) : (numbersV g k v).all (·.oneCell') = true := by simp [numbersV, Value.oneCell']
/-- A part in block g, whose numbers stand from a on. -/
def pairV (g : Nat) (a : Int) : Array Value :=
  #[.int .i64 a, .int .i64 12, .bool true, .int .i64 0, .int .i64 4611686018427387904, .pointer (some ⟨g, 0, none⟩),
    .int .i64 (a + 12), .int .i64 12, .bool true, .int .i64 0, .int .i64 4611686018427387904, .pointer (some ⟨g, 1, none⟩)]
theorem pairV_one (g : Nat) (a : Int) : (pairV g a).all (·.oneCell') = true := by simp [pairV, Value.oneCell']
end Go.Proofs.Ytcedcfagfklohaa.Hd
