/-
  What is told of a member: which records there are, and when. No program.
-/
import Derived.Test.YtbhpedhdhgjkoaaGreatDoorMtBack
set_option linter.unusedVariables false
set_option linter.unusedSimpArgs false
namespace Go.Proofs.YtbhpedhdhgjkoaaGreatDoor
namespace M
open Px (tl R2 ltB ltB_ord)
open Px.M (Rc find merge Rising)

theorem rec_found {m : Met} (R : Right m) {r : Rc} (hr : r ∈ recsOf m) (hk : isKey r.1 = true) : find (gives m) r.1 ≠ none := by
  have h := Px.M.find_mem_rising ltB_ord (Px.M.merge_rising ltB_ord _ _) hr
  have h' := find_recs R hk
  unfold recsOf at h h'
  rw [h] at h'
  intro e
  rw [e] at h'
  cases h'
theorem rec_path {m : Met} (R : Right m) {r : Rc} (hr : r ∈ recsOf m) (hk : r.1 = tl kPath) : 100 < m.name.size := by
  have h := rec_found R hr (by rw [hk]; decide)
  rw [hk, find_path] at h
  split at h
  · exact absurd rfl h
  · rename_i h1
    exact long_name (by simpa using h1)
theorem rec_user {m : Met} (R : Right m) {r : Rc} (hr : r ∈ recsOf m) (hk : r.1 = tl kUser) : 32 < m.user.size := by
  have h := rec_found R hr (by rw [hk]; decide)
  rw [hk, find_user] at h
  split at h
  · exact absurd rfl h
  · omega
theorem fits8 {n : Int} (h0 : 0 ≤ n) (h1 : n ≤ 2097151) : fits n 8 = true := by
  unfold fits Nm.M.octFits Nm.M.most
  have e : (8 : Int) ^ ((8 : Int).toNat - 1) = 2097152 := by decide
  rw [e]
  simp only [Bool.and_eq_true, decide_eq_true_eq]
  refine ⟨⟨⟨⟨by decide, by decide⟩, h0⟩, by omega⟩, by omega⟩
theorem rec_uid {m : Met} (R : Right m) {r : Rc} (hr : r ∈ recsOf m) (hk : r.1 = tl kUid) : 2097151 < m.uid := by
  have h := rec_found R hr (by rw [hk]; decide)
  rw [hk, find_uid] at h
  split at h
  · exact absurd rfl h
  · rename_i h1
    have := R.uid
    apply Int.not_le.1
    intro h2
    exact h1 (fits8 this.1 h2)
theorem rising_at {l : List Rc} (h : Rising ltB l) {k : Nat} (hk : k + 1 < l.length) : ltB (l[k]).1 (l[k + 1]).1 = true := by
  induction l generalizing k with
  | nil => simp at hk
  | cons r l ih =>
    cases k with
    | zero =>
      have h0 : 0 < l.length := by simpa using hk
      have : l[0] ∈ l := List.getElem_mem h0
      exact h.1 _ this
    | succ k => exact ih h.2 (by simpa using hk)
/-- What is told by whatever may be read has keys that rise. -/
theorem recs_rising (m : Met) : Rising ltB (recsOf m) := Px.M.merge_rising ltB_ord _ _

/-! What is extra. -/
theorem from_toE {h : Hdr} {recs : List Rc} {names links : List ByteArray} {more : List (Int × Int)} (hE : fromE h recs names links more = 0) : toE (fromM h recs names links more) = 0 := by
  unfold fromM
  rw [if_pos hE]
  unfold fromE at hE
  split at hE
  · cases hE
  · cases hk : known h recs names links more with
    | none => rw [hk] at hE; cases hE
    | some m => rw [hk] at hE; exact hE

/-! A file of a name alone. -/
/-- The two pieces of a name have room. -/
theorem split_room (s : ByteArray) : (split s).1.size ≤ 155 ∧ (split s).2.1.size ≤ 100 := by
  unfold split
  by_cases hs : s.size ≤ 100
  · rw [if_pos hs]
    exact ⟨by show (0 : Nat) ≤ 155; omega, hs⟩
  · rw [if_neg hs]
    cases hc : cutPlace (tl s) with
    | none =>
      refine ⟨by show (0 : Nat) ≤ 155; omega, ?_⟩
      show (s.extract 0 100).size ≤ 100
      rw [ByteArray.size_extract]; omega
    | some i =>
      have hi := cutPlace_some hc
      unfold cutsAt at hi
      simp only [Bool.and_eq_true, decide_eq_true_eq, beq_iff_eq] at hi
      obtain ⟨⟨⟨⟨h1, h2⟩, h3⟩, h4⟩, h5⟩ := hi
      rw [Px.tl_len] at h5
      refine ⟨?_, ?_⟩
      · show (s.extract 0 i).size ≤ 155
        rw [ByteArray.size_extract]; omega
      · show (s.extract (i + 1) s.size).size ≤ 100
        rw [ByteArray.size_extract]; omega
end M
end Go.Proofs.YtbhpedhdhgjkoaaGreatDoor
