/-
  Expand: the program's answer.
-/
import Derived.Test.YtjpflljmeaihgaaDoorSpCheck
import Derived.Deep.RegionLaw
namespace Go.Proofs.YtjpflljmeaihgaaDoor
open Go.RowKit Go.Lib

namespace M
def expandE (l : List Pt) (m real : Int) : Int := if check l m real ≠ 0 then check l m real else if 1048576 < real then 3 else 0
def expandB (l : List Pt) (d : List Int) (real : Int) : List Int := if expandE l d.length real = 0 then file real.toNat l d else []
theorem expandE_bad {l : List Pt} {m real : Int} (h : check l m real ≠ 0) : expandE l m real = check l m real := by unfold expandE; rw [if_pos h]
theorem expandE_long {l : List Pt} {m real : Int} (h : check l m real = 0) (h2 : 1048576 < real) : expandE l m real = 3 := by unfold expandE; rw [if_neg (by simpa using h), if_pos h2]
theorem expandE_ok {l : List Pt} {m real : Int} (h : check l m real = 0) (h2 : ¬ 1048576 < real) : expandE l m real = 0 := by unfold expandE; rw [if_neg (by simpa using h), if_neg h2]
theorem expandB_no {l : List Pt} {d : List Int} {real : Int} (h : expandE l d.length real ≠ 0) : expandB l d real = [] := by unfold expandB; rw [if_neg h]
theorem expandB_ok {l : List Pt} {d : List Int} {real : Int} (h : expandE l d.length real = 0) : expandB l d real = file real.toNat l d := by unfold expandB; rw [if_pos h]
/-- What a good check tells. -/
theorem check_ok {l : List Pt} {m real : Int} (h : check l m real = 0) : l.length ≤ 1000 ∧ 0 ≤ real ∧ real ≤ 1099511627776 ∧ ∃ e, walk real 0 0 l = some (e, m) := by
  unfold check at h
  split at h
  · cases h
  · split at h
    · cases h
    · rename_i h1 h2
      refine ⟨by omega, by omega, by omega, ?_⟩
      cases hw : walk real 0 0 l with
      | none => rw [hw] at h; cases h
      | some p =>
        rw [hw] at h
        unfold checkW at h
        simp only at h
        split at h
        · rename_i h3; exact ⟨p.1, by rw [← h3]⟩
        · cases h
theorem splice_zeros {E x : List Int} {e a q R : Nat} (hE : E.length = e) (h1 : e ≤ a) (h2 : a + q ≤ R) (hx : x.length = q) :
    splice (E ++ zeros (R - e)) a x = E ++ zeros (a - e) ++ x ++ zeros (R - (a + q)) := by
  unfold splice zeros
  have e1 : List.take a (E ++ List.replicate (R - e) (0 : Int)) = E ++ List.replicate (a - e) 0 := by
    rw [List.take_append, List.take_of_length_le (by omega), List.take_replicate, hE]
    congr 2
    omega
  have e2 : List.drop (a + x.length) (E ++ List.replicate (R - e) (0 : Int)) = List.replicate (R - (a + q)) 0 := by
    rw [List.drop_append, List.drop_of_length_le (by omega), List.drop_replicate, hE, List.nil_append]
    congr 1
    omega
  rw [e1, e2]
  simp
theorem zeros_len (n : Nat) : (zeros n).length = n := by simp [zeros]
theorem zeros_u8 (n : Nat) : ∀ z ∈ zeros n, 0 ≤ z ∧ z ≤ 255 := by
  intro z hz
  have := List.eq_of_mem_replicate hz
  omega
theorem fileAt_len {R : Nat} : ∀ {l : List Pt} {e s : Nat} {ef m : Int} {d : List Int}, walk R e s l = some (ef, m) → e ≤ R → (d.length : Int) = m - s → (fileAt R e l d).length = R - e
  | [], e, s, ef, m, d, h, he, hd => by simp [fileAt, zeros]
  | p :: l, e, s, ef, m, d, h, he, hd => by
    unfold walk at h
    split at h
    · cases h
    · obtain ⟨a, ha⟩ : ∃ a : Nat, p.1 = a := ⟨p.1.toNat, by omega⟩
      obtain ⟨q, hq⟩ : ∃ q : Nat, p.2 = q := ⟨p.2.toNat, by omega⟩
      have hb := walk_bd (by omega) (by omega) h
      have ih := fileAt_len (l := l) (e := a + q) (s := s + q) (ef := ef) (m := m) (d := d.drop q) (by rw [← h, ha, hq]; congr 1) (by omega) (by rw [List.length_drop]; omega)
      unfold fileAt
      rw [ha, hq]
      simp only [Int.toNat_natCast, List.length_append, ih, zeros_len, List.length_take]
      omega
theorem fileAt_u8 {R : Nat} : ∀ {l : List Pt} {e : Nat} {d : List Int}, (∀ z ∈ d, 0 ≤ z ∧ z ≤ 255) → ∀ z ∈ fileAt R e l d, 0 ≤ z ∧ z ≤ 255
  | [], e, d, hd, z, hz => zeros_u8 _ z hz
  | p :: l, e, d, hd, z, hz => by
    unfold fileAt at hz
    rw [List.mem_append, List.mem_append] at hz
    rcases hz with (hz | hz) | hz
    · exact zeros_u8 _ z hz
    · exact hd z (List.mem_of_mem_take hz)
    · exact fileAt_u8 (l := l) (fun z hz => hd z (List.mem_of_mem_drop hz)) z hz
theorem expandB_u8 {l : List Pt} {d : List Int} {real : Int} (hd : ∀ z ∈ d, 0 ≤ z ∧ z ≤ 255) : ∀ z ∈ expandB l d real, 0 ≤ z ∧ z ≤ 255 := by
  unfold expandB
  split
  · exact fileAt_u8 hd
  · intro z hz; cases hz
/-- k parts are laid: E is there, d2 is left. -/
structure Laid (R : Nat) (l : List Pt) (d : List Int) (k e s : Nat) (E d2 : List Int) : Prop where
  walk_ : walk R 0 0 l = walk R e s (l.drop k)
  file_ : file R l d = E ++ fileAt R e (l.drop k) d2
  len : E.length = e
  le : e ≤ R
  left : d2.length + s = d.length
theorem Laid.start (R : Nat) (l : List Pt) (d : List Int) : Laid R l d 0 0 0 [] d := ⟨rfl, rfl, rfl, Nat.zero_le _, by omega⟩
theorem Laid.more {R : Nat} {l : List Pt} {d : List Int} {k e s : Nat} {E d2 : List Int} (h : Laid R l d k e s E d2) {ef : Int} (hw : walk R 0 0 l = some (ef, (d.length : Int))) {p : Pt} (hp : l[k]? = some p) :
    ∃ a q : Nat, p = ((a : Int), (q : Int)) ∧ e ≤ a ∧ a + q ≤ R ∧ q ≤ d2.length ∧ Laid R l d (k + 1) (a + q) (s + q) (E ++ zeros (a - e) ++ d2.take q) (d2.drop q) ∧
      splice (E ++ zeros (R - e)) a (d2.take q) = (E ++ zeros (a - e) ++ d2.take q) ++ zeros (R - (a + q)) := by
  obtain ⟨hk, rfl⟩ := List.getElem?_eq_some_iff.1 hp
  have h1 := h.walk_
  have h2 := h.file_
  have hle := h.le
  have hleft := h.left
  have hlen := h.len
  rw [List.drop_eq_getElem_cons hk] at h1 h2
  rw [hw] at h1
  unfold walk at h1
  split at h1
  · cases h1
  · rename_i hc
    obtain ⟨a, ha⟩ : ∃ a : Nat, l[k].1 = a := ⟨l[k].1.toNat, by omega⟩
    obtain ⟨q, hq⟩ : ∃ q : Nat, l[k].2 = q := ⟨l[k].2.toNat, by omega⟩
    have hb := walk_bd (by omega) (by omega) h1.symm
    have hqd : q ≤ d2.length := by omega
    refine ⟨a, q, by rw [← ha, ← hq], by omega, by omega, hqd, ⟨?_, ?_, ?_, by omega, by rw [List.length_drop]; omega⟩, splice_zeros h.len (by omega) (by omega) (by rw [List.length_take]; omega)⟩
    · rw [hw, h1, ha, hq]; congr 1
    · rw [h2, fileAt, ha, hq]
      simp
    · simp only [List.length_append, zeros_len, List.length_take]; omega
theorem Laid.done {R : Nat} {l : List Pt} {d : List Int} {e s : Nat} {E d2 : List Int} (h : Laid R l d l.length e s E d2) : file R l d = E ++ zeros (R - e) := by
  rw [h.file_, List.drop_length]; rfl
end M
end Go.Proofs.YtjpflljmeaihgaaDoor
