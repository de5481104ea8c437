/-
  What records tell, a field at a time; what meta.From tells, case by case.
-/
import Derived.Test.YtbhpedhdhgjkoaaGreatDoorMtDig
import Derived.Test.YtbhpedhdhgjkoaaGreatDoorMtDelR
set_option linter.unusedVariables false
set_option linter.unusedSimpArgs false
namespace Go.Proofs.YtbhpedhdhgjkoaaGreatDoor
open Go.RowKit Go.Lib
open Px (R2 tl)

/-- A field is taken from the last record of its key, if there is one. -/
def stepM (r : List Px.M.Rc) (i : Nat) (m : M.Met) : Option M.Met :=
  match Px.M.find r (tl (key i)) with
  | none => some m
  | some v => if takeOk ⟨v.toArray⟩ i = true then some (takeM ⟨v.toArray⟩ m i) else none
def steps (r : List Px.M.Rc) : Nat → M.Met → Option M.Met
  | 0, m => some m
  | i + 1, m => (steps r i m).bind (stepM r i)
theorem tl_back (v : List UInt8) : tl ⟨v.toArray⟩ = v := by simp [tl, Px.tl]
theorem step0 (r : List Px.M.Rc) (m : M.Met) : stepM r 0 m = some { m with name := M.textR r M.kPath m.name } := by
  unfold stepM M.textR key
  cases Px.M.find r (tl M.kPath) <;> rfl
theorem step1 (r : List Px.M.Rc) (m : M.Met) : stepM r 1 m = some { m with link := M.textR r M.kLink m.link } := by
  unfold stepM M.textR key
  cases Px.M.find r (tl M.kLink) <;> rfl
theorem step2 (r : List Px.M.Rc) (m : M.Met) : stepM r 2 m = some { m with user := M.textR r M.kUser m.user } := by
  unfold stepM M.textR key
  cases Px.M.find r (tl M.kUser) <;> rfl
theorem step3 (r : List Px.M.Rc) (m : M.Met) : stepM r 3 m = some { m with group := M.textR r M.kGroup m.group } := by
  unfold stepM M.textR key
  cases Px.M.find r (tl M.kGroup) <;> rfl
theorem step4 (r : List Px.M.Rc) (m : M.Met) : stepM r 4 m = (M.numR r M.kUid 4611686018427387904 m.uid).map fun n => { m with uid := n } := by
  unfold stepM M.numR key
  cases Px.M.find r (tl M.kUid) with
  | none => rfl
  | some v =>
    simp only [takeOk, takeM, tl_back]
    cases M.dec v 4611686018427387904 <;> simp
theorem step5 (r : List Px.M.Rc) (m : M.Met) : stepM r 5 m = (M.numR r M.kGid 4611686018427387904 m.gid).map fun n => { m with gid := n } := by
  unfold stepM M.numR key
  cases Px.M.find r (tl M.kGid) with
  | none => rfl
  | some v =>
    simp only [takeOk, takeM, tl_back]
    cases M.dec v 4611686018427387904 <;> simp
theorem step6 (r : List Px.M.Rc) (m : M.Met) : stepM r 6 m = (M.numR r M.kSize 1099511627776 m.size).map fun n => { m with size := n } := by
  unfold stepM M.numR key
  cases Px.M.find r (tl M.kSize) with
  | none => rfl
  | some v =>
    simp only [takeOk, takeM, tl_back]
    cases M.dec v 1099511627776 <;> simp
theorem step7 (r : List Px.M.Rc) (m : M.Met) : stepM r 7 m = (M.timeR r M.kTime (m.sec, m.nan)).map fun t => { m with sec := t.1, nan := t.2 } := by
  unfold stepM M.timeR key
  cases Px.M.find r (tl M.kTime) with
  | none => rfl
  | some v =>
    simp only [takeOk, takeM, tl_back]
    cases St.M.parse v <;> simp
theorem steps_taken (r : List Px.M.Rc) (m : M.Met) : steps r 8 m = M.taken r m := by
  unfold M.taken
  simp only [steps, step0, step1, step2, step3, step4, Option.bind_some]
  cases M.numR r M.kUid 4611686018427387904 m.uid with
  | none => rfl
  | some u =>
    simp only [Option.map_some, Option.bind_some, step5]
    cases M.numR r M.kGid 4611686018427387904 m.gid with
    | none => rfl
    | some g =>
      simp only [Option.map_some, Option.bind_some, step6]
      cases M.numR r M.kSize 1099511627776 m.size with
      | none => rfl
      | some s =>
        simp only [Option.map_some, Option.bind_some, step7]
        cases M.timeR r M.kTime (m.sec, m.nan) with
        | none => rfl
        | some t => rfl
/-- Once nothing is told, nothing is. -/
theorem steps_none {r : List Px.M.Rc} {m : M.Met} {i : Nat} (h : steps r i m = none) : ∀ k, steps r (i + k) m = none
  | 0 => h
  | k + 1 => by
    have ih := steps_none h k
    show (steps r (i + k) m).bind _ = none
    rw [ih]
    rfl
theorem taken_none {r : List Px.M.Rc} {m m' : M.Met} {i : Nat} (hi : i < 8) (h : steps r i m = some m') (h2 : stepM r i m' = none) : M.taken r m = none := by
  have h1 : steps r (i + 1) m = none := by
    show (steps r i m).bind _ = none
    rw [h]
    exact h2
  have h3 := steps_none h1 (7 - i)
  rw [show i + 1 + (7 - i) = 8 by omega] at h3
  rw [← steps_taken]
  exact h3
theorem steps_next {r : List Px.M.Rc} {m m' m2 : M.Met} {i : Nat} (h : steps r i m = some m') (h2 : stepM r i m' = some m2) : steps r (i + 1) m = some m2 := by
  show (steps r i m).bind _ = _
  rw [h]
  exact h2
end Go.Proofs.YtbhpedhdhgjkoaaGreatDoor
