/-
  The chapter's example. No program.
-/
import Derived.Test.YtbhpedhdhgjkoaaGreatDoorMtWhat
set_option linter.unusedVariables false
set_option linter.unusedSimpArgs false
namespace Go.Proofs.YtbhpedhdhgjkoaaGreatDoor
namespace M
open Px (tl R2 ltB ltB_ord)
open Px.M (Rc find merge Rising)

def exM : Met := { name := ⟨#[97]⟩, kind := 48, uid := 3000000 }
theorem ex_itoa : Lib.itoa 3000000 = [51, 48, 48, 48, 48, 48, 48] := by
  have h := Lib.itoa_nonneg 3000000
  rw [show ((3000000 : Nat) : Int) = 3000000 from rfl] at h
  rw [h]
  rw [Lib.decDigits, dif_neg (by decide), Lib.decDigits, dif_neg (by decide), Lib.decDigits, dif_neg (by decide), Lib.decDigits, dif_neg (by decide), Lib.decDigits, dif_neg (by decide), Lib.decDigits, dif_neg (by decide), Lib.decDigits, dif_pos (by decide)]
  rfl
theorem ex_gives : gives exM = [(tl kUid, [51, 48, 48, 48, 48, 48, 48])] := by
  have e1 : fits 0 8 = true := by decide
  have e2 : fits 0 12 = true := by decide
  have e4 : fits 3000000 8 = false := by decide
  have e3 : timeFits exM = true := by
    unfold timeFits exM
    simp only
    rw [e2]; rfl
  unfold gives
  have g0 : gName exM = [] := rfl
  have g1 : gText kLink exM.link 100 = [] := rfl
  have g2 : gText kUser exM.user 32 = [] := rfl
  have g3 : gText kGroup exM.group 32 = [] := rfl
  have g4 : gNum kUid exM.uid 8 = [(tl kUid, [51, 48, 48, 48, 48, 48, 48])] := by
    unfold gNum
    show (if fits 3000000 8 = true then [] else [(tl kUid, Lib.itoa 3000000)]) = _
    rw [e4, if_neg (by decide), ex_itoa]
  have g5 : gNum kGid exM.gid 8 = [] := by unfold gNum; exact if_pos e1
  have g6 : gNum kSize exM.size 12 = [] := by unfold gNum; exact if_pos e2
  have g7 : gTime exM = [] := by unfold gTime; exact if_pos e3
  have g8 : gHoles exM = [] := rfl
  rw [g0, g1, g2, g3, g4, g5, g6, g7, g8]
  rfl
theorem ex_recs : recsOf exM = [(tl kUid, [51, 48, 48, 48, 48, 48, 48])] := by
  unfold recsOf
  rw [ex_gives]
  rfl
theorem ex_wrong : wrong exM = 0 := by
  have a1 : hasTexts exM = true := by rfl
  have a2 : hasNumbers exM = true := by
    have n1 : St.M.norm (exM.sec, exM.nan) = (exM.sec, exM.nan) := by
      show St.M.norm (0, 0) = (0, 0)
      decide
    unfold hasNumbers
    rw [n1]
    simp only [decide_true]
    rfl
  unfold wrong
  rw [a1, a2]
  show (if within 48 48 54 = false then 31 else if true = false then 33 else if true = false then 32 else if isExtra [] [] = false ∨ (false = true ∧ hasHoles exM = false) then 34 else 0) = 0
  rw [show within 48 48 54 = true from by decide]
  simp [isExtra]
theorem ex_toE : toE exM = 0 := by
  unfold toE
  rw [ex_wrong, if_neg (by simp), ex_recs]
  have hr : Px.M.right (tl kUid, [51, 48, 48, 48, 48, 48, 48]) = true := by decide
  have hb : (Px.M.body (tl kUid, [51, 48, 48, 48, 48, 48, 48])).length = 13 := rfl
  have hl : (Px.M.lines [(tl kUid, [51, 48, 48, 48, 48, 48, 48])]).length ≤ 5000 := by
    have e : Px.M.lines [(tl kUid, [51, 48, 48, 48, 48, 48, 48])] = Px.M.line (tl kUid, [51, 48, 48, 48, 48, 48, 48]) := by simp [Px.M.lines]
    rw [e, Px.M.line_length (by omega)]
    unfold Px.M.lineLen
    have := (Px.M.wid_spec (L := (Px.M.body (tl kUid, [51, 48, 48, 48, 48, 48, 48])).length) (by omega)).2.1
    omega
  unfold Px.M.printE
  rw [if_neg (by rw [List.all_cons, hr]; simp), if_neg]
  rintro (h5 | h5)
  · simp at h5
  · omega
theorem ex_head : (toH exM).uid = 0 ∧ toR exM = [(tl kUid, [51, 48, 48, 48, 48, 48, 48])] := by
  unfold toH toR
  rw [if_pos ex_toE, if_pos ex_toE]
  refine ⟨?_, ex_recs⟩
  show (if fits 3000000 8 = true then (3000000 : Int) else 0) = 0
  rw [show fits 3000000 8 = false from by decide]
  rfl
end M
end Go.Proofs.YtbhpedhdhgjkoaaGreatDoor
