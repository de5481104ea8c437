/-
  The contracts of the document's Told, Right and Seal.
-/
import Derived.Test.YtkpnhggpcpjddaaDoorHSumRef
import Derived.Test.YtkpnhggpcpjddaaDoorHMg
set_option linter.unusedVariables false
set_option linter.unusedSimpArgs false
namespace Go.Proofs.YtkpnhggpcpjddaaDoor
open Go.RowKit Go.Lib

/-- 's[148:156]' of 512 bytes. -/
theorem Rd.field {w : World} {B c : Nat} {A : Option Addr} {zs : List Int} (h : Rd w B A 512 zs) (hc : 512 ≤ c) : ∃ b off, A = some ⟨b, off, none⟩ ∧ Rd w B (some ⟨b, off + 148, none⟩) 8 (M.fld zs) := by
  obtain ⟨b, off, rfl, hb, hcell⟩ := h.2.2 (by decide)
  refine ⟨b, off, rfl, by unfold M.fld; rw [List.length_take, List.length_drop, h.len]; decide, fun z hz => h.bd z (List.mem_of_mem_drop (List.mem_of_mem_take hz)), fun _ => ⟨b, off + 148, rfl, hb, fun j z hj => ?_⟩⟩
  unfold M.fld at hj
  rw [List.getElem?_take] at hj
  split at hj
  · rw [List.getElem?_drop] at hj
    rw [Nat.add_assoc]
    exact hcell _ z hj
  · cases hj

end Go.Proofs.YtkpnhggpcpjddaaDoor
