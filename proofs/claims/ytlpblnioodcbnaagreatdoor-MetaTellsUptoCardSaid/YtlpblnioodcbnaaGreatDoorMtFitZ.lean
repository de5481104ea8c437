/-
  Texts of one chapter, merged.
-/
import Derived.Test.YtlpblnioodcbnaaGreatDoorMtBack
set_option linter.unusedVariables false
set_option linter.unusedSimpArgs false
namespace Go.Proofs.YtlpblnioodcbnaaGreatDoor
namespace M
open Px (tl R2 ltB ltB_ord)
open Px.M (Rc find merge Rising)

theorem split_room (s : ByteArray) : (split s).1.size ≤ 155 ∧ (split s).2.1.size ≤ 100 := by
  unfold split
  by_cases hs : s.size ≤ 100
  · rw [if_pos hs]
    exact ⟨by show (0 : Nat) ≤ 155; omega, hs⟩
  · rw [if_neg hs]
    cases hc : cutPlace (tl s) with
    | none =>
      refine ⟨by show (0 : Nat) ≤ 155; omega, ?_⟩
      show (s.extract 0 100).size ≤ 100
      rw [ByteArray.size_extract]; omega
    | some i =>
      have hi := cutPlace_some hc
      unfold cutsAt at hi
      simp only [Bool.and_eq_true, decide_eq_true_eq, beq_iff_eq] at hi
      obtain ⟨⟨⟨⟨h1, h2⟩, h3⟩, h4⟩, h5⟩ := hi
      rw [Px.tl_len] at h5
      refine ⟨?_, ?_⟩
      · show (s.extract 0 i).size ≤ 155
        rw [ByteArray.size_extract]; omega
      · show (s.extract (i + 1) s.size).size ≤ 100
        rw [ByteArray.size_extract]; omega
end M
end Go.Proofs.YtlpblnioodcbnaaGreatDoor

namespace Go.Proofs.YtlpblnioodcbnaaGreatDoor
namespace M
open Px (tl R2 ltB ltB_ord)
open Px.M (Rc find merge Rising)

def exM : Met := { name := ⟨#[97]⟩, kind := 48, uid := 3000000 }
theorem ex_itoa : Lib.itoa 3000000 = [51, 48, 48, 48, 48, 48, 48] := by
  have h := Lib.itoa_nonneg 3000000
  rw [show ((3000000 : Nat) : Int) = 3000000 from rfl] at h
  rw [h]
  rw [Lib.decDigits, dif_neg (by decide), Lib.decDigits, dif_neg (by decide), Lib.decDigits, dif_neg (by decide), Lib.decDigits, dif_neg (by decide), Lib.decDigits, dif_neg (by decide), Lib.decDigits, dif_neg (by decide), Lib.decDigits, dif_pos (by decide)]
  rfl
theorem ex_gives : gives exM = [(tl kUid, [51, 48, 48, 48, 48, 48, 48])] := by
  have e1 : fits 0 8 = true := by decide
  have e2 : fits 0 12 = true := by decide
  have e4 : fits 3000000 8 = false := by decide
  have e3 : timeFits exM = true := by
    unfold timeFits exM
    simp only
    rw [e2]; rfl
  unfold gives
  have g0 : gName exM = [] := rfl
  have g1 : gText kLink exM.link 100 = [] := rfl
  have g2 : gText kUser exM.user 32 = [] := rfl
  have g3 : gText kGroup exM.group 32 = [] := rfl
  have g4 : gNum kUid exM.uid 8 = [(tl kUid, [51, 48, 48, 48, 48, 48, 48])] := by
    unfold gNum
    show (if fits 3000000 8 = true then [] else [(tl kUid, Lib.itoa 3000000)]) = _
    rw [e4, if_neg (by decide), ex_itoa]
  have g5 : gNum kGid exM.gid 8 = [] := by unfold gNum; exact if_pos e1
  have g6 : gNum kSize exM.size 12 = [] := by unfold gNum; exact if_pos e2
  have g7 : gTime exM = [] := by unfold gTime; exact if_pos e3
  have g8 : gHoles exM = [] := rfl
  rw [g0, g1, g2, g3, g4, g5, g6, g7, g8]
  rfl
theorem ex_recs : recsOf exM = [(tl kUid, [51, 48, 48, 48, 48, 48, 48])] := by
  unfold recsOf
  rw [ex_gives]
  rfl
theorem ex_wrong : wrong exM = 0 := by
  have a1 : hasTexts exM = true := by rfl
  have a2 : hasNumbers exM = true := by
    have n1 : St.M.norm (exM.sec, exM.nan) = (exM.sec, exM.nan) := by
      show St.M.norm (0, 0) = (0, 0)
      decide
    unfold hasNumbers
    rw [n1]
    simp only [decide_true]
    rfl
  unfold wrong
  rw [a1, a2]
  show (if within 48 48 54 = false then 31 else if true = false then 33 else if true = false then 32 else if isExtra [] [] = false ∨ (false = true ∧ hasHoles exM = false) then 34 else 0) = 0
  rw [show within 48 48 54 = true from by decide]
  simp [isExtra]
theorem ex_toE : toE exM = 0 := by
  unfold toE
  rw [ex_wrong, if_neg (by simp), ex_recs]
  have hr : Px.M.right (tl kUid, [51, 48, 48, 48, 48, 48, 48]) = true := by decide
  have hb : (Px.M.body (tl kUid, [51, 48, 48, 48, 48, 48, 48])).length = 13 := rfl
  have hl : (Px.M.lines [(tl kUid, [51, 48, 48, 48, 48, 48, 48])]).length ≤ 5000 := by
    have e : Px.M.lines [(tl kUid, [51, 48, 48, 48, 48, 48, 48])] = Px.M.line (tl kUid, [51, 48, 48, 48, 48, 48, 48]) := by simp [Px.M.lines]
    rw [e, Px.M.line_length (by omega)]
    unfold Px.M.lineLen
    have := (Px.M.wid_spec (L := (Px.M.body (tl kUid, [51, 48, 48, 48, 48, 48, 48])).length) (by omega)).2.1
    omega
  unfold Px.M.printE
  rw [if_neg (by rw [List.all_cons, hr]; simp), if_neg]
  rintro (h5 | h5)
  · simp at h5
  · omega
theorem ex_head : (toH exM).uid = 0 ∧ toR exM = [(tl kUid, [51, 48, 48, 48, 48, 48, 48])] := by
  unfold toH toR
  rw [if_pos ex_toE, if_pos ex_toE]
  refine ⟨?_, ex_recs⟩
  show (if fits 3000000 8 = true then (3000000 : Int) else 0) = 0
  rw [show fits 3000000 8 = false from by decide]
  rfl
end M
end Go.Proofs.YtlpblnioodcbnaaGreatDoor

namespace Go.Proofs.YtlpblnioodcbnaaGreatDoor
namespace M
open Px (tl R2 ltB ltB_ord)
open Px.M (Rc find merge)

theorem nDigits_le : ∀ (k n : Nat), n < 10 ^ k → 1 ≤ k → Lib.nDigits n ≤ k := by
  intro k
  induction k with
  | zero => intro n _ h; omega
  | succ k ih =>
    intro n h _
    by_cases h1 : n < 10
    · rw [Lib.nDigits_small h1]; omega
    · rw [Lib.nDigits, dif_neg h1]
      have hk : 1 ≤ k := by
        rcases Nat.eq_zero_or_pos k with h0 | h0
        · subst h0; simp at h; omega
        · exact h0
      have := ih (n / 10) (by rw [Nat.pow_succ] at h; omega) hk
      omega
theorem itoa_len {n : Int} (h0 : 0 ≤ n) (h1 : n ≤ 9223372036854775807) : (Lib.itoa n).length ≤ 19 := by
  obtain ⟨k, rfl⟩ := Int.eq_ofNat_of_zero_le h0
  rw [Lib.itoa_nonneg, Lib.decDigits_length]
  exact nDigits_le 19 k (by omega) (by decide)
theorem trim0_len (l : List UInt8) : (St.M.trim0 l).length ≤ l.length := by
  unfold St.M.trim0
  rw [List.length_reverse]
  have h := (List.dropWhile_sublist (fun c => c == (48 : UInt8)) (l := l.reverse)).length_le
  rw [List.length_reverse] at h
  exact h
theorem pr_len (t : St.M.Tm) : (St.M.pr (St.M.norm t)).length ≤ 100 := by
  have ok := St.M.norm_ok t
  generalize St.M.norm t = u at *
  obtain ⟨p1, p2, p3, p4, _⟩ := St.M.sgn_parts ok
  unfold St.M.pr
  rw [List.length_append, List.length_append, Lib.decDigits_length]
  have h1 : (if St.M.below0 u = true then ([45] : List UInt8) else []).length ≤ 1 := by split <;> simp
  have h2 := nDigits_le 16 (St.M.sgn (St.M.below0 u) u).1.toNat (by omega) (by decide)
  have h3 : (St.M.fracText (St.M.sgn (St.M.below0 u) u).2.toNat).length ≤ 20 := by
    unfold St.M.fracText
    split
    · simp
    · rw [List.length_cons]
      have h4 := trim0_len (St.M.pad9 (St.M.sgn (St.M.below0 u) u).2.toNat)
      have h5 : (St.M.pad9 (St.M.sgn (St.M.below0 u) u).2.toNat).length ≤ 18 := by
        unfold St.M.pad9
        rw [List.length_append, List.length_replicate, Lib.decDigits_length]
        have := nDigits_le 9 (St.M.sgn (St.M.below0 u) u).2.toNat (by omega) (by decide)
        omega
      omega
  omega
theorem layout_len {l : List (Int × Int)} (h : l.length ≤ 1000) : (layout l).length ≤ 30000 := by
  unfold layout
  split
  · simp
  · have := Sp.M.print_len l
    omega
def shortR (r : Rc) : Prop := r.1.length ≤ 100 ∧ r.2.length ≤ 1000000
theorem short_if {c : Prop} [Decidable c] {k v : List UInt8} (hk : k.length ≤ 100) (hv : v.length ≤ 1000000) : ∀ r ∈ (if c then [] else [(k, v)] : List Rc), shortR r := by
  intro r hr
  split at hr
  · simp at hr
  · rw [List.mem_singleton] at hr
    subst hr
    exact ⟨hk, hv⟩
theorem gives_short {m : Met} (R : Right m) : ∀ r ∈ gives m, shortR r := by
  have hl : m.link.size ≤ 4096 := by
    have := R.link
    split at this <;> omega
  have hsz : m.size ≤ 1099511627776 := by
    have := R.size.2
    split at this <;> omega
  intro r hr
  unfold gives at hr
  simp only [List.mem_append] at hr
  rcases hr with h | h | h | h | h | h | h | h | h
  · unfold gName at h; exact short_if (by decide) (by have := R.name.2; show m.name.size ≤ _; omega) r h
  · unfold gText at h; exact short_if (by decide) (show m.link.size ≤ _ by omega) r h
  · unfold gText at h; exact short_if (by decide) (by have := R.user; show m.user.size ≤ _; omega) r h
  · unfold gText at h; exact short_if (by decide) (by have := R.group; show m.group.size ≤ _; omega) r h
  · unfold gNum at h; exact short_if (by decide) (Nat.le_trans (itoa_len R.uid.1 (by have := R.uid.2; omega)) (by decide)) r h
  · unfold gNum at h; exact short_if (by decide) (Nat.le_trans (itoa_len R.gid.1 (by have := R.gid.2; omega)) (by decide)) r h
  · unfold gNum at h; exact short_if (by decide) (Nat.le_trans (itoa_len R.size.1 (by omega)) (by decide)) r h
  · unfold gTime at h; exact short_if (by decide) (Nat.le_trans (pr_len _) (by decide)) r h
  · unfold gHoles at h
    split at h
    · rename_i hh
      obtain ⟨_, _, h3⟩ := R.holes hh
      obtain ⟨c1, c2, c3, _⟩ := check_facts h3
      simp only [List.mem_cons, List.not_mem_nil, or_false] at h
      rcases h with rfl | rfl
      · exact ⟨show (tl kMap).length ≤ 100 by decide, Nat.le_trans (layout_len c1) (by decide)⟩
      · exact ⟨show (tl kReal).length ≤ 100 by decide, Nat.le_trans (itoa_len c2 (by omega)) (by decide)⟩
    · simp at h
theorem gives_len (m : Met) : (gives m).length ≤ 10 := by
  unfold gives
  simp only [List.length_append]
  have one : ∀ (c : Prop) [Decidable c] (x : Rc), (if c then [] else [x] : List Rc).length ≤ 1 := by intro c _ x; split <;> simp
  have h1 : (gName m).length ≤ 1 := by unfold gName; exact one _ _
  have h2 : (gText kLink m.link 100).length ≤ 1 := by unfold gText; exact one _ _
  have h3 : (gText kUser m.user 32).length ≤ 1 := by unfold gText; exact one _ _
  have h4 : (gText kGroup m.group 32).length ≤ 1 := by unfold gText; exact one _ _
  have h5 : (gNum kUid m.uid 8).length ≤ 1 := by unfold gNum; exact one _ _
  have h6 : (gNum kGid m.gid 8).length ≤ 1 := by unfold gNum; exact one _ _
  have h7 : (gNum kSize m.size 12).length ≤ 1 := by unfold gNum; exact one _ _
  have h8 : (gTime m).length ≤ 1 := by unfold gTime; exact one _ _
  have h9 : (gHoles m).length ≤ 2 := by unfold gHoles; split <;> simp
  omega
theorem merge_mem {l o : List Rc} {r : Rc} (h : r ∈ merge ltB l o) : r ∈ l ∨ r ∈ o := by
  have h1 := Px.M.find_mem_rising ltB_ord (Px.M.merge_rising ltB_ord l o) h
  rw [Px.M.find_merge ltB_ord] at h1
  cases ho : find o r.1 with
  | some v =>
    rw [ho] at h1
    right
    have : v = r.2 := by
      cases v with
      | nil => cases h1
      | cons c t => exact Option.some.inj h1
    subst this
    exact Px.M.mem_of_find ho
  | none =>
    rw [ho] at h1
    left
    cases hl : find l r.1 with
    | none => rw [hl] at h1; cases h1
    | some v =>
      rw [hl] at h1
      have : v = r.2 := by
        cases v with
        | nil => cases h1
        | cons c t => exact Option.some.inj h1
      subst this
      exact Px.M.mem_of_find hl
end M
end Go.Proofs.YtlpblnioodcbnaaGreatDoor
