/-
  'string(b)' of bytes that read as a list.
-/
import Derived.Test.YtjaopghpopmmdaaSumMem
import Derived.Laws.BytesString
import Derived.Laws.IdiomStrings
namespace Go.Proofs.Ytjaopghpopmmdaa
open Go.RowKit Go.Lib

/-- The text of bytes. -/
def strOf (zs : List Int) : ByteArray := zs.foldl (fun r n => r.push (UInt8.ofNat n.toNat)) ByteArray.empty

theorem run_str {w : World} {B n : Nat} {A : Option Addr} {zs : List Int} (h : Rd w B A n zs) (c : Nat) :
    (convert 22 9 (.slice A n c)).run Try.prog w = .ok (.string (strOf zs)) w := by
  rw [run_convert_bytes_string w 22 9 5 A n c Try.underlying22 Try.underlying5 Try.underlying9]
  have hlen := h.len
  cases A with
  | none =>
    have h0 : n = 0 := by
      rcases Nat.eq_zero_or_pos n with h0 | h0
      · exact h0
      · obtain ⟨b, off, e, _⟩ := h.2.2 h0
        cases e
    subst h0
    have hz : zs = [] := List.eq_nil_of_length_eq_zero hlen
    subst hz
    simp [Conv.bytesToString, strOf]
  | some a =>
    subst hlen
    have hl := run_loadCells_list (P := Try.prog) w a (zs.map (Value.int .u8)) (fun j v hj => by
      rw [List.getElem?_map] at hj
      cases hz : zs[j]? with
      | none => rw [hz] at hj; cases hj
      | some z =>
        rw [hz] at hj
        injection hj with hj
        subst hj
        have hlt : j < zs.length := (List.getElem?_eq_some_iff.1 hz).1
        obtain ⟨b, off, e, _, hc⟩ := h.2.2 (by omega)
        injection e with e
        subst e
        have hcj := hc j z hz
        unfold Addr.add
        split
        · rename_i h0
          subst h0
          exact hcj
        · exact hcj)
    simp only [List.length_map] at hl
    exact run_bytesToString w a zs.length c zs hl
end Go.Proofs.Ytjaopghpopmmdaa
