/-
  What is told of a member: which records there are, and when. No program.
-/
import Derived.Test.YtbpangofobkmfaaGreatDoorMtBack
set_option linter.unusedVariables false
set_option linter.unusedSimpArgs false
namespace Go.Proofs.YtbpangofobkmfaaGreatDoor
namespace M
open Px (tl R2 ltB ltB_ord)
open Px.M (Rc find merge Rising)

theorem rec_found {m : Met} (R : Right m) {r : Rc} (hr : r ∈ recsOf m) (hk : isKey r.1 = true) : find (gives m) r.1 ≠ none := by
  have h := Px.M.find_mem_rising ltB_ord (Px.M.merge_rising ltB_ord _ _) hr
  have h' := find_recs R hk
  unfold recsOf at h h'
  rw [h] at h'
  intro e
  rw [e] at h'
  cases h'
theorem rec_path {m : Met} (R : Right m) {r : Rc} (hr : r ∈ recsOf m) (hk : r.1 = tl kPath) : 100 < m.name.size := by
  have h := rec_found R hr (by rw [hk]; decide)
  rw [hk, find_path] at h
  split at h
  · exact absurd rfl h
  · rename_i h1
    exact long_name (by simpa using h1)
theorem rec_user {m : Met} (R : Right m) {r : Rc} (hr : r ∈ recsOf m) (hk : r.1 = tl kUser) : 32 < m.user.size := by
  have h := rec_found R hr (by rw [hk]; decide)
  rw [hk, find_user] at h
  split at h
  · exact absurd rfl h
  · omega
theorem fits8 {n : Int} (h0 : 0 ≤ n) (h1 : n ≤ 2097151) : fits n 8 = true := by
  unfold fits Nm.M.octFits Nm.M.most
  have e : (8 : Int) ^ ((8 : Int).toNat - 1) = 2097152 := by decide
  rw [e]
  simp only [Bool.and_eq_true, decide_eq_true_eq]
  refine ⟨⟨⟨⟨by decide, by decide⟩, h0⟩, by omega⟩, by omega⟩
theorem rec_uid {m : Met} (R : Right m) {r : Rc} (hr : r ∈ recsOf m) (hk : r.1 = tl kUid) : 2097151 < m.uid := by
  have h := rec_found R hr (by rw [hk]; decide)
  rw [hk, find_uid] at h
  split at h
  · exact absurd rfl h
  · rename_i h1
    have := R.uid
    apply Int.not_le.1
    intro h2
    exact h1 (fits8 this.1 h2)
theorem rising_at {l : List Rc} (h : Rising ltB l) {k : Nat} (hk : k + 1 < l.length) : ltB (l[k]).1 (l[k + 1]).1 = true := by
  induction l generalizing k with
  | nil => simp at hk
  | cons r l ih =>
    cases k with
    | zero =>
      have h0 : 0 < l.length := by simpa using hk
      have : l[0] ∈ l := List.getElem_mem h0
      exact h.1 _ this
    | succ k => exact ih h.2 (by simpa using hk)
/-- What is told by whatever may be read has keys that rise. -/
theorem recs_rising (m : Met) : Rising ltB (recsOf m) := Px.M.merge_rising ltB_ord _ _

/-! What is extra. -/
theorem from_extra {h : Hdr} {recs : List Rc} {names links : List ByteArray} {more : List (Int × Int)} (hE : fromE h recs names links more = 0) :
    (fromM h recs names links more).extra = ((merge ltB recs []).filter fun r => !isKey r.1).map mk := by
  unfold fromM
  rw [if_pos hE]
  unfold fromE at hE
  split at hE
  · cases hE
  · cases hk : known h recs names links more with
    | none => rw [hk] at hE; cases hE
    | some m =>
      unfold known at hk
      rw [Option.map_eq_some_iff] at hk
      obtain ⟨x, _, rfl⟩ := hk
      rfl
theorem from_toE {h : Hdr} {recs : List Rc} {names links : List ByteArray} {more : List (Int × Int)} (hE : fromE h recs names links more = 0) : toE (fromM h recs names links more) = 0 := by
  unfold fromM
  rw [if_pos hE]
  unfold fromE at hE
  split at hE
  · cases hE
  · cases hk : known h recs names links more with
    | none => rw [hk] at hE; cases hE
    | some m => rw [hk] at hE; exact hE

/-! A file of a name alone. -/
def named (s : ByteArray) : Met := { name := s, kind := 48 }
theorem named_right {s : ByteArray} (h1 : 1 ≤ s.size) (h2 : s.size ≤ 4096) (h3 : noNul (tl s) = true) (h4 : slash (tl s) = false) : wrong (named s) = 0 := by
  have k1 : within (s.size : Int) 1 4096 = true := within_iff.2 (by omega)
  have k2 : within 48 48 54 = true := by decide
  unfold wrong
  have a1 : hasTexts (named s) = true := by
    unfold hasTexts isText named
    simp only
    rw [h4, k1, h3]
    rfl
  have a2 : hasNumbers (named s) = true := by
    have n1 : St.M.norm ((named s).sec, (named s).nan) = ((named s).sec, (named s).nan) := by
      show St.M.norm (0, 0) = (0, 0)
      decide
    unfold hasNumbers
    rw [n1]
    simp only [decide_true]
    rfl
  rw [a1, a2]
  show (if within 48 48 54 = false then 31 else if true = false then 33 else if true = false then 32 else if isExtra [] [] = false ∨ (false = true ∧ hasHoles (named s) = false) then 34 else 0) = 0
  rw [k2]
  simp [isExtra]
theorem named_gives (s : ByteArray) : gives (named s) = gName (named s) := by
  have e1 : fits 0 8 = true := by decide
  have e2 : fits 0 12 = true := by decide
  have e3 : timeFits (named s) = true := by
    unfold timeFits named
    simp only
    rw [e2]; rfl
  unfold gives
  have g1 : gText kLink (named s).link 100 = [] := rfl
  have g2 : gText kUser (named s).user 32 = [] := rfl
  have g3 : gText kGroup (named s).group 32 = [] := rfl
  have g4 : gNum kUid (named s).uid 8 = [] := by unfold gNum; exact if_pos e1
  have g5 : gNum kGid (named s).gid 8 = [] := by unfold gNum; exact if_pos e1
  have g6 : gNum kSize (named s).size 12 = [] := by unfold gNum; exact if_pos e2
  have g7 : gTime (named s) = [] := by unfold gTime; exact if_pos e3
  have g8 : gHoles (named s) = [] := rfl
  rw [g1, g2, g3, g4, g5, g6, g7, g8]
  simp
theorem named_recs {s : ByteArray} (h1 : 1 ≤ s.size) : recsOf (named s) = if (split s).2.2 = true then [] else [(tl kPath, tl s)] := by
  unfold recsOf
  rw [named_gives]
  show merge ltB (if (split s).2.2 = true then [] else [(tl kPath, tl s)]) [] = _
  by_cases h : (split s).2.2 = true
  · rw [if_pos h]; rfl
  · rw [if_neg h]
    refine (Px.M.merge_self ltB_ord (m := [(tl kPath, tl s)]) (show (∀ x ∈ ([] : List Rc), ltB (tl kPath) x.1 = true) ∧ True from ⟨by simp, trivial⟩) ?_).1
    intro r hr
    rw [List.mem_singleton] at hr
    subst hr
    intro e
    have : s.size = 0 := congrArg List.length e
    omega

theorem named_toE {s : ByteArray} (h1 : 1 ≤ s.size) (h2 : s.size ≤ 4096) (h3 : noNul (tl s) = true) (h4 : slash (tl s) = false) : toE (named s) = 0 := by
  unfold toE
  rw [named_right h1 h2 h3 h4, if_neg (by simp), named_recs h1]
  by_cases h : (split s).2.2 = true
  · rw [if_pos h]; rfl
  · rw [if_neg h]
    have hr : Px.M.right (tl kPath, tl s) = true := by
      unfold Px.M.right
      have a1 : (tl kPath).all Px.M.keyOk = true := by decide
      have a2 : (tl kPath).isEmpty = false := by decide
      show ((tl kPath).all Px.M.keyOk && (tl s).all (fun c => !(c == 0)) && !(tl kPath).isEmpty) = true
      rw [a1, a2]
      show (true && noNul (tl s) && !false) = true
      rw [h3]; rfl
    have hb : (Px.M.body (tl kPath, tl s)).length ≤ 4103 := by
      rw [Px.M.body_length]
      show (tl kPath).length + (tl s).length + 3 ≤ 4103
      rw [show (tl s).length = s.size from rfl, show (tl kPath).length = 4 from rfl]
      omega
    have hl : (Px.M.lines [(tl kPath, tl s)]).length ≤ 5000 := by
      have e : Px.M.lines [(tl kPath, tl s)] = Px.M.line (tl kPath, tl s) := by simp [Px.M.lines]
      rw [e, Px.M.line_length (by omega)]
      unfold Px.M.lineLen
      have := (Px.M.wid_spec (L := (Px.M.body (tl kPath, tl s)).length) (by omega)).2.1
      omega
    unfold Px.M.printE
    rw [if_neg (by rw [List.all_cons, hr]; simp), if_neg]
    rintro (h5 | h5)
    · simp at h5
    · omega
/-- The two pieces of a name have room. -/
theorem split_room (s : ByteArray) : (split s).1.size ≤ 155 ∧ (split s).2.1.size ≤ 100 := by
  unfold split
  by_cases hs : s.size ≤ 100
  · rw [if_pos hs]
    exact ⟨by show (0 : Nat) ≤ 155; omega, hs⟩
  · rw [if_neg hs]
    cases hc : cutPlace (tl s) with
    | none =>
      refine ⟨by show (0 : Nat) ≤ 155; omega, ?_⟩
      show (s.extract 0 100).size ≤ 100
      rw [ByteArray.size_extract]; omega
    | some i =>
      have hi := cutPlace_some hc
      unfold cutsAt at hi
      simp only [Bool.and_eq_true, decide_eq_true_eq, beq_iff_eq] at hi
      obtain ⟨⟨⟨⟨h1, h2⟩, h3⟩, h4⟩, h5⟩ := hi
      rw [Px.tl_len] at h5
      refine ⟨?_, ?_⟩
      · show (s.extract 0 i).size ≤ 155
        rw [ByteArray.size_extract]; omega
      · show (s.extract (i + 1) s.size).size ≤ 100
        rw [ByteArray.size_extract]; omega
end M
end Go.Proofs.YtbpangofobkmfaaGreatDoor
