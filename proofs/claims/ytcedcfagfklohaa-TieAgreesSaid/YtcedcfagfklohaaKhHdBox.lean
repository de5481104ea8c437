/-
  Variables that hold a header: laid at once, loaded whole.
-/
import Derived.Test.YtcedcfagfklohaaKhHdParse
set_option linter.unusedVariables false
set_option linter.unusedSimpArgs false
namespace Go.Proofs.Ytcedcfagfklohaa.Hd
open Go.RowKit Go.Lib

theorem store_row (w : World) (g : Nat) (C : Array Value) (t : TypeId) (D : List Value) (hb : w.heap[g]? = some (.cells C t (0, 0))) (hs : D.length = C.size) (h1 : ∀ v ∈ D, v.oneCell' = true) :
    Sem.run Try.prog (storeCells ⟨g, 0, none⟩ D) w = .ok () (w.setRow g D.toArray) := by
  have h := run_storeCells_at Try.prog g 0 t D 0 C w hb (by omega) h1
  have e : C.toList.take (0 + 0) ++ D ++ C.toList.drop (0 + 0 + D.length) = D := by
    rw [show (0 : Nat) + 0 = 0 from rfl, List.take_zero, Nat.zero_add, hs, List.drop_of_length_le (by simp)]
    simp
  rw [e] at h
  exact h
/-- A header is laid into its new variable. -/
theorem store_new (w : World) (h : M.Hdr) (A : Option Addr) (n c : Nat) :
    Sem.run Try.prog (storeCells ⟨w.heap.size, 0, none⟩ (hcells h (.slice A n c)).toList)
      (w.alloc (.cells #[.string ⟨#[]⟩, .int .i64 0, .int .i64 0, .int .i64 0, .int .i64 0, .int .i64 0, .int .u8 0, .string ⟨#[]⟩, .int .i64 0, .string ⟨#[]⟩, .string ⟨#[]⟩, .int .i64 0, .int .i64 0, .string ⟨#[]⟩, .slice none 0 0, .bool false, .int .i64 0] 28)) =
      .ok () (w.alloc (.cells (hcells h (.slice A n c)) 28)) := by
  have e := store_row (w.alloc (.cells (hcells {} (.slice none 0 0)) 28)) w.heap.size _ 28 (hcells h (.slice A n c)).toList (HB.new w {} (.slice none 0 0)) rfl (by
    intro v hv
    have := hcells_one h (pv := .slice A n c) rfl
    rw [Array.all_eq_true'] at this
    exact this v (by simpa using hv))
  rw [show (hcells h (.slice A n c)).toList.toArray = hcells h (.slice A n c) from rfl] at e
  rw [World.setRow_alloc_new] at e
  exact e
/-- A header loaded whole. -/
theorem HB.load {w : World} {g : Nat} {h : M.Hdr} {pv : Value} (hb : HB w g h pv) : Sem.run Try.prog (loadVar 28 ⟨g, 0, none⟩) w = .ok (.agg (hcells h pv)) w :=
  run_loadVar_row (P := Try.prog) w g 28 28 (hcells h pv) (0, 0) _ hb Try.underlying28 rfl hdr_size
end Go.Proofs.Ytcedcfagfklohaa.Hd
