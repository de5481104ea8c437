/-
  'make([]byte, 512)': a block of noughts; what the document puts lies in a block of its own.
-/
import Derived.Test.YtcedcfagfklohaaKhHdZero
import Derived.Test.YtcedcfagfklohaaKhNumPut
set_option linter.unusedVariables false
set_option linter.unusedSimpArgs false
namespace Go.Proofs.Ytcedcfagfklohaa.Hd
open Go.RowKit Go.Lib

theorem madeBlk : (madeCells #[Value.int .u8 0] 512) = (bcells (nils 512)).toArray := by kernel_rfl
theorem run_make512 (w : World) : (Instr.makeSlice 22 (.int .i64 512) (.int .i64 512)).run Try.prog w = .ok (.slice (some ⟨w.heap.size, 0, none⟩) 512 512) (w.alloc (.cells (bcells (nils 512)).toArray 5)) := by
  have h := run_make_row' (P := Try.prog) 22 5 (.int .u8 0) 1 Try.underlying22 u8_info rfl .i64 .i64 512 (by omega) (by omega) w
  rw [madeBlk, show ((512 : Nat) : Int) = 512 from rfl] at h
  exact h
/-- What is put, in the block that is made first. -/
def PutNew (w : World) (N : Nat) (zs : List Int) (e : Ending) (w' : World) : Prop :=
  e = .returned (.tuple #[.slice (some ⟨w.heap.size, 0, none⟩) N N, .bool true]) ∧ Rd w' w'.heap.size (some ⟨w.heap.size, 0, none⟩) N zs ∧ Below w.heap.size w w'
end Go.Proofs.Ytcedcfagfklohaa.Hd
