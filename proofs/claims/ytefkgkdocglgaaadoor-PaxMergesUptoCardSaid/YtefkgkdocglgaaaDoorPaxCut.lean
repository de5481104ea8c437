/-
  bytes.CutSuffix of a line feed, bytes.Cut at '=': over bytes that read as a list.
-/
import Derived.Test.YtefkgkdocglgaaaDoorPaxApp
import Derived.Test.YtefkgkdocglgaaaDoorPaxParseM
import Derived.Test.YtefkgkdocglgaaaDoorShelf
namespace Go.Proofs.YtefkgkdocglgaaaDoor
open Go.RowKit Go.Shelf

theorem bytesOf_ints (l : List UInt8) : Lib.bytesOf (ints l) = l := by
  unfold Lib.bytesOf ints
  rw [List.map_map]
  conv => rhs; rw [← List.map_id l]
  refine List.map_congr_left fun b _ => ?_
  simp
theorem Rd.bytesIn {w : World} {B n : Nat} {A : Option Addr} {zs : List Int} (h : Rd w B A n zs) : Lib.BytesIn w A n zs := fun hn => by
  obtain ⟨b, off, e, _, hc⟩ := h.2.2 hn
  have hl := h.len
  exact ⟨b, off, e, fun i hi => hc i _ (by rw [List.getD_eq_getElem?_getD, List.getElem?_eq_getElem (by omega), Option.getD_some])⟩

theorem isSuffix_one (l : List UInt8) (c : UInt8) : [c].isSuffixOf l = decide (l.getLast? = some c) := by
  rw [Bool.eq_iff_iff, List.isSuffixOf_iff_suffix, decide_eq_true_iff, List.getLast?_eq_some_iff]
  exact ⟨fun ⟨t, h⟩ => ⟨t, h.symm⟩, fun ⟨t, h⟩ => ⟨t, h.symm⟩⟩

namespace M
def ended (l : List UInt8) : Bool := decide (l.getLast? = some 10)
def trimmed (l : List UInt8) : List UInt8 := if ended l = true then l.dropLast else l
def keyOf (l : List UInt8) : List UInt8 := l.takeWhile fun c => !(c == 61)
def valOf (l : List UInt8) : List UInt8 := l.drop ((keyOf l).length + 1)
theorem keyOf_le (l : List UInt8) : (keyOf l).length ≤ l.length := by
  unfold keyOf
  exact (List.takeWhile_sublist _).length_le
theorem keyOf_take (l : List UInt8) : l.take (keyOf l).length = keyOf l := by
  unfold keyOf
  exact (List.prefix_iff_eq_take.1 (List.takeWhile_prefix _)).symm
theorem recAt_eq (b : List UInt8) (i W : Nat) : recAt b i W = if W < i + 1 ∨ b.length < W then none else if ended ((b.take W).drop (i + 1)) = true then
    (if (keyOf (trimmed ((b.take W).drop (i + 1)))).length < (trimmed ((b.take W).drop (i + 1))).length ∧ right (keyOf (trimmed ((b.take W).drop (i + 1))), valOf (trimmed ((b.take W).drop (i + 1)))) = true ∧
      lineLen (keyOf (trimmed ((b.take W).drop (i + 1))), valOf (trimmed ((b.take W).drop (i + 1)))) = W then some (keyOf (trimmed ((b.take W).drop (i + 1))), valOf (trimmed ((b.take W).drop (i + 1)))) else none) else none := by
  unfold recAt
  dsimp only
  split
  · rfl
  · by_cases he : ended ((b.take W).drop (i + 1)) = true
    · have hg : ((b.take W).drop (i + 1)).getLast? = some 10 := by unfold ended at he; simpa using he
      rw [if_pos hg, if_pos he]
      have ht : trimmed ((b.take W).drop (i + 1)) = ((b.take W).drop (i + 1)).dropLast := by unfold trimmed; rw [if_pos he]
      rw [ht]
      rfl
    · have hg : ¬ ((b.take W).drop (i + 1)).getLast? = some 10 := by unfold ended at he; simpa using he
      rw [if_neg hg, if_neg he]
end M

/-- The first place of a byte. -/
theorem indexByte_key : ∀ (l : List UInt8), ((M.keyOf l).length < l.length ∧ Lib.indexByte l 61 = ((M.keyOf l).length : Int)) ∨ ((M.keyOf l).length = l.length ∧ Lib.indexByte l 61 = -1)
  | [] => .inr ⟨rfl, rfl⟩
  | c :: l => by
    have e : Lib.indexByte (c :: l) 61 = if c == 61 then 0 else if Lib.indexByte l 61 == -1 then -1 else Lib.indexByte l 61 + 1 := rfl
    have ih := indexByte_key l
    unfold M.keyOf at ih ⊢
    rw [e, List.takeWhile_cons]
    clear e
    cases hc : (c == 61) with
    | true => exact .inl ⟨by simp, rfl⟩
    | false =>
      simp only [Bool.not_false, if_true, List.length_cons, Bool.false_eq_true, if_false]
      rcases ih with ⟨h1, h2⟩ | ⟨h1, h2⟩
      · left
        rw [h2]
        have h3 : (((l.takeWhile fun c => !(c == 61)).length : Int) == -1) = false := by simp
        rw [h3]
        exact ⟨by omega, by simp⟩
      · right
        rw [h2]
        exact ⟨by omega, by simp⟩

section
variable {w : World} {B : Nat} {A : Option Addr} {c g : Nat} {l : List UInt8}
theorem cutSuffix_any (h : Rd w B A l.length (ints l)) (hc : l.length ≤ c) (hl : l.length ≤ 10000000) (hA : A ≠ none) (hz : w.cell? ⟨g, 0, none⟩ = some (.int .u8 10)) :
    Calls Tryd.prog 41 #[.slice A l.length c, .slice (some ⟨g, 0, none⟩) 1 1] w fun e w' => e = .returned (.tuple #[.slice A (M.trimmed l).length c, .bool (M.ended l)]) ∧ w = w' := by
  have hc1 := Tryd.bytes_CutSuffix_all A (some ⟨g, 0, none⟩) l.length c 1 1 (ints l) [10] w (ints_length l) rfl hc (by omega) h.bytesIn (fun _ => ⟨g, 0, rfl, fun i hi => match i, hi with | 0, _ => hz⟩)
  have hs : Lib.hasSuffix (Lib.bytesOf (ints l)) (Lib.bytesOf [10]) = M.ended l := by
    rw [bytesOf_ints]
    show [(10 : UInt8)].isSuffixOf l = _
    rw [isSuffix_one]; rfl
  refine hc1.mono ?_
  rintro e w' ⟨rfl, rfl⟩
  refine ⟨?_, rfl⟩
  rw [hs]
  have hv : Lib.trimSuffixV A l.length c (ints l) [10] = .slice A (M.trimmed l).length c := by
    cases A with
    | none => exact absurd rfl hA
    | some a =>
      rcases Nat.eq_zero_or_pos l.length with h0 | h0
      · obtain rfl : l = [] := List.eq_nil_of_length_eq_zero h0
        obtain ⟨b, o, s⟩ := a
        cases s with
        | none => rfl
        | some s => rfl
      · obtain ⟨b, o, e, _⟩ := h.2.2 h0
        injection e with e
        subst e
        show Lib.bytesTrimSuffix b o l.length c (ints l) [10] = _
        unfold Lib.bytesTrimSuffix
        rw [hs]
        unfold M.trimmed
        split
        · rw [List.length_dropLast]; rfl
        · rfl
  rw [hv]

theorem index_eq (h : Rd w B A l.length (ints l)) (hA : A ≠ none) (hz : w.cell? ⟨g, 0, none⟩ = some (.int .u8 61)) :
    Calls Tryd.prog 53 #[.slice A l.length c, .slice (some ⟨g, 0, none⟩) 1 1] w fun e w' => e = .returned (.int .i64 (Lib.indexByte l 61)) ∧ ∃ q, w' = w.drewN q := by
  cases A with
  | none => exact absurd rfl hA
  | some a =>
    rcases Nat.eq_zero_or_pos l.length with h0 | h0
    · obtain rfl : l = [] := List.eq_nil_of_length_eq_zero h0
      exact (Tryd.bytes_Index_one_at a 0 c g 0 1 [] 61 _ rfl (fun i hi => absurd hi (by omega)) hz).mono fun e w' ⟨he, hw⟩ => ⟨he, 0, hw⟩
    · obtain ⟨b, off, e, hbb, hcell⟩ := h.2.2 h0
      injection e with e
      subst e
      have := Tryd.bytes_Index_one b off l.length c g 0 1 (ints l) 61 w (ints_length l) (fun i hi => by
        have hi' : i < (ints l).length := by rw [ints_length]; exact hi
        rw [hcell i _ (List.getElem?_eq_getElem hi'), List.getD_eq_getElem?_getD, List.getElem?_eq_getElem hi', Option.getD_some]) hz
      rw [bytesOf_ints] at this
      exact this.mono fun e w' ⟨he, hw⟩ => ⟨he, 0, hw⟩

/-- What bytes.Cut at '=' answers. -/
def CutIs (A : Option Addr) (c B : Nat) (l : List UInt8) (w : World) (e : Ending) (w' : World) : Prop :=
  ∃ A2 c2, e = .returned (.tuple #[.slice A (M.keyOf l).length c, .slice A2 (M.valOf l).length c2, .bool (decide ((M.keyOf l).length < l.length))]) ∧ Rd w' B A2 (M.valOf l).length (ints (M.valOf l)) ∧ Rd w' B A (M.keyOf l).length (ints (M.keyOf l)) ∧ Below w.heap.size w w'

theorem cut_any (h : Rd w B A l.length (ints l)) (hc : l.length ≤ c) (hl : l.length ≤ 10000000) (hA : A ≠ none) (hz : w.cell? ⟨g, 0, none⟩ = some (.int .u8 61)) :
    Calls Tryd.prog 42 #[.slice A l.length c, .slice (some ⟨g, 0, none⟩) 1 1] w (CutIs A c B l w) := by
  have hix := indexByte_key l
  have hidx := index_eq (c := c) h hA hz
  have hcut := Tryd.bytes_Cut_of A (some ⟨g, 0, none⟩) l.length c 1 1 _ w hc (by omega) (fun _ => by omega) (by omega) hidx
  refine hcut.mono ?_
  rintro e w' ⟨rfl, q, rfl⟩
  have hkey : Rd (w.drewN q) B A (M.keyOf l).length (ints (M.keyOf l)) := by
    have := (h.drewN q).front (M.keyOf_le l)
    rwa [ints_take, M.keyOf_take] at this
  rcases hix with ⟨h1, h2⟩ | ⟨h1, h2⟩
  · refine ⟨cutA A c ((M.keyOf l).length + 1), c - ((M.keyOf l).length + 1), ?_, ?_, hkey, below_drewN' (Below.refl _ _) q⟩
    · rw [h2, decide_eq_true h1]
      unfold Lib.cutV
      rw [if_pos (by omega), Int.toNat_natCast]
      unfold Lib.fromV cutA M.valOf
      rw [List.length_drop]
    · have := (h.drewN q).cut (c := c) (k := (M.keyOf l).length + 1) (by omega) hc
      rw [ints_drop] at this
      unfold M.valOf
      rw [List.length_drop]
      exact this
  · have hv : M.valOf l = [] := by unfold M.valOf; exact List.drop_of_length_le (by omega)
    refine ⟨none, 0, ?_, ?_, hkey, below_drewN' (Below.refl _ _) q⟩
    · rw [h2, hv, decide_eq_false (by omega), h1]
      rfl
    · rw [hv]; exact Rd.none_
end
end Go.Proofs.YtefkgkdocglgaaaDoor
