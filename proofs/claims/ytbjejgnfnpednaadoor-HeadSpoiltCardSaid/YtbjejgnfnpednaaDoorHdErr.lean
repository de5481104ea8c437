/-
  Which error Print answers, and when it answers none.
-/
import Derived.Test.YtbjejgnfnpednaaDoorHdBackM
namespace Go.Proofs.YtbjejgnfnpednaaDoor
open Go.RowKit Go.Lib
namespace M
def tOk (m : Nat) (s : ByteArray) : Bool := (S.M.put s.data.toList m).isSome
def nOk (m : Nat) (there : Bool) (lo up x : Int) : Bool := if there = true then putOk x m lo up else decide (x = 0)
def pOk : List (Int × Int) → Bool
  | [] => true
  | p :: l => !(p.1 == 0 && p.2 == 0) && (putOk p.1 12 0 most && (putOk p.2 12 0 most && pOk l))
def st (b : Bool) (e r : Int) : Int := if b = true then r else e
theorem putT_isSome (zs : List Int) (a m : Nat) (s : ByteArray) : (putT zs a m s).isSome = tOk m s := by
  unfold putT tOk
  cases S.M.put s.data.toList m <;> rfl
theorem putN_isSome (zs : List Int) (a m : Nat) (there : Bool) (lo up x : Int) : (putN zs a m there lo up x).isSome = nOk m there lo up x := by
  unfold putN nOk
  cases there
  · by_cases hx : x = 0 <;> simp [hx]
  · cases putOk x m lo up <;> rfl
theorem pputs_isSome : ∀ (l : List (Int × Int)) (zs : List Int) (i : Nat), (pputs zs i l).isSome = pOk l
  | [], _, _ => rfl
  | p :: l, zs, i => by
    by_cases h : p.1 = 0 ∧ p.2 = 0
    · simp [pputs_zero h, pOk, h.1, h.2]
    · have e : (p.1 == 0 && p.2 == 0) = false := by simpa using h
      cases h1 : putOk p.1 12 0 most with
      | false => rw [pputs_bad1 h h1]; simp [pOk, e, h1]
      | true =>
        cases h2 : putOk p.2 12 0 most with
        | false => rw [pputs_bad2 h h1 h2]; simp [pOk, e, h1, h2]
        | true => rw [pputs_next h h1 h2, pputs_isSome l]; simp [pOk, e, h1, h2]
theorem putP_isSome (zs : List Int) (l : List (Int × Int)) : (putP zs l).isSome = (decide (l.length ≤ 4) && pOk l) := by
  unfold putP
  by_cases h : l.length ≤ 4
  · rw [if_pos h, pputs_isSome]; simp [h]
  · rw [if_neg h]; simp [h]
theorem bnd_err {o : Option (List Int)} {b : Bool} {e r : Int} {f : List Int → Int × List Int} (ho : o.isSome = b) (h : ∀ z, (f z).1 = r) : (bnd o e f).1 = st b e r := by
  subst ho
  cases o with
  | none => rfl
  | some z => exact h z
theorem chk_err {b : Bool} {e r : Int} {q : Int × List Int} (h : q.1 = r) : (chk b e q).1 = st b e r := by
  cases b
  · rfl
  · exact h
/-- The error's number. -/
def herr (h : Hdr) : Int :=
  st (known h.kind && may h.kind h.way) 31 <| st (tOk 100 h.name) 33 <| st (tOk 100 h.link) 33 <| st (tOk 32 h.user) 33 <| st (tOk 32 h.group) 33 <| st (tOk 155 h.pre) 33 <|
  st (bare h) 32 <| st (isWay h.way) 32 <| st (nOk 8 true 0 most h.mode) 32 <| st (nOk 8 true 0 most h.uid) 32 <| st (nOk 8 true 0 most h.gid) 32 <| st (nOk 12 true 0 maxSize h.size) 32 <|
  st (nOk 12 true (-most) most h.mtime) 32 <| st (nOk 8 (h.way != 0) 0 most h.major) 32 <| st (nOk 8 (h.way != 0) 0 most h.minor) 32 <| st (nOk 12 (h.kind == 83 && h.way == 2) 0 maxSize h.real) 32 <|
  st (flat h) 32 <| st (decide (h.parts.length ≤ 4) && pOk h.parts) 32 0
theorem hprint_err (h : Hdr) : (hprint h).1 = herr h :=
  chk_err <| bnd_err (putT_isSome _ _ _ _) fun _ => bnd_err (putT_isSome _ _ _ _) fun _ => bnd_err (putT_isSome _ _ _ _) fun _ => bnd_err (putT_isSome _ _ _ _) fun _ => bnd_err (putT_isSome _ _ _ _) fun _ =>
  chk_err <| chk_err <| bnd_err (putN_isSome _ _ _ _ _ _ _) fun _ => bnd_err (putN_isSome _ _ _ _ _ _ _) fun _ => bnd_err (putN_isSome _ _ _ _ _ _ _) fun _ => bnd_err (putN_isSome _ _ _ _ _ _ _) fun _ =>
  bnd_err (putN_isSome _ _ _ _ _ _ _) fun _ => bnd_err (putN_isSome _ _ _ _ _ _ _) fun _ => bnd_err (putN_isSome _ _ _ _ _ _ _) fun _ => bnd_err (putN_isSome _ _ _ _ _ _ _) fun _ =>
  chk_err <| bnd_err (putP_isSome _ _) fun _ => rfl
theorem st_ne {b : Bool} {e r : Int} (he : e ≠ 0) (h : st b e r = 0) : b = true ∧ r = 0 := by
  cases b
  · exact absurd h he
  · exact ⟨rfl, h⟩
/-- An error, and nothing: or no error. -/
theorem chk_nil {b : Bool} {e : Int} {q : Int × List Int} (he : e ≠ 0) (h : q.1 ≠ 0 → q.2 = []) : (chk b e q).1 ≠ 0 → (chk b e q).2 = [] := by
  cases b
  · exact fun _ => rfl
  · exact h
/-- One of HeadKinds. -/
def kindH (k s : Int) : Hdr := { name := ⟨#[97]⟩, kind := k, way := 1, size := s }
theorem size_ok (s : Int) (h0 : 0 ≤ s) (h1 : s ≤ 65535) : nOk 12 true 0 maxSize s = true := by
  have : octFits s 12 = true := by
    unfold octFits
    have e : s / 8 ^ ((12 : Int).toNat - 1) = 0 := by
      rw [show (8 : Int) ^ ((12 : Int).toNat - 1) = 8589934592 from by decide]
      omega
    rw [e]
    simp only [Bool.and_eq_true, decide_eq_true_eq]
    exact ⟨⟨⟨⟨by decide, by decide⟩, h0⟩, Int.le_trans h1 (by decide)⟩, trivial⟩
  unfold nOk putOk putFits
  rw [if_pos rfl, show ((12 : Nat) : Int) = 12 from rfl, this]
  simp only [Bool.true_or, Bool.true_and, Bool.and_eq_true, decide_eq_true_eq]
  exact ⟨h0, Int.le_trans h1 (by decide)⟩
theorem kindH_no (k s : Int) (h : known k = false ∨ k = 83) : hprint (kindH k s) = (31, []) := by
  have : (known (kindH k s).kind && may (kindH k s).kind (kindH k s).way) = false := by
    rcases h with h | h
    · show (known k && may k 1) = false
      rw [h]; rfl
    · subst h; rfl
  unfold hprint
  rw [this]; rfl
theorem kindH_yes (k s : Int) (hk : known k = true) (h83 : k ≠ 83) (h0 : 0 ≤ s) (h1 : s ≤ 65535) : (hprint (kindH k s)).1 = 0 := by
  rw [hprint_err]
  have e1 : (known k && may k 1) = true := by rw [hk]; simp [may, h83]
  have e2 : tOk 100 ⟨#[97]⟩ = true := by decide +kernel
  have e3 : tOk 100 ⟨#[]⟩ = true := by decide +kernel
  have e4 : tOk 32 ⟨#[]⟩ = true := by decide +kernel
  have e5 : tOk 155 ⟨#[]⟩ = true := by decide +kernel
  have e6 : nOk 8 true 0 most 0 = true := by decide +kernel
  have e7 : nOk 12 true (-most) most 0 = true := by decide +kernel
  have e8 : (k == 83 && (1 : Int) == 2) = false := by simp
  have e9 : flat (kindH k s) = true := by simp [flat, kindH]
  have e10 : bare (kindH k s) = true := by rfl
  have e11 : isWay 1 = true := by decide
  unfold herr
  rw [e9, e10]
  dsimp only [kindH]
  rw [e1, e2, e3, e4, e5, e6, e7, e8, e11, size_ok s h0 h1, show ((1 : Int) != 0) = true from rfl, e6]
  rfl
end M
end Go.Proofs.YtbjejgnfnpednaaDoor
