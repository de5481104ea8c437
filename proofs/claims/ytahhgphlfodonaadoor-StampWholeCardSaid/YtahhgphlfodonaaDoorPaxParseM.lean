/-
  Plain mathematics of reading lines: what a reader that goes digit by digit finds is the first line.
-/
import Derived.Test.YtahhgphlfodonaaDoorPaxMath
namespace Go.Proofs.YtahhgphlfodonaaDoor
namespace M
open Go.Lib (decDigits nDigits)

theorem num_ge (t : List UInt8) : ∀ a, a ≤ num t a := by
  induction t with
  | nil => intro a; exact Nat.le_refl _
  | cons c t ih => intro a; exact Nat.le_trans (by omega) (ih _)
theorem num_prefix_le (D E : List UInt8) : num D 0 ≤ num (D ++ E) 0 := by rw [num_app]; exact num_ge _ _
theorem num_snoc (D : List UInt8) (c : UInt8) (a : Nat) : num (D ++ [c]) a = 10 * num D a + (c.toNat - 48) := by rw [num_app]; rfl

theorem isDig_iff (c : UInt8) : isDig c = true ↔ 48 ≤ c.toNat ∧ c.toNat ≤ 57 := by unfold isDig; simp

/-- Digits that are as many as their number has are that number's. -/
theorem dec_of_num : ∀ (n : Nat) (D : List UInt8), D.length = n → D ≠ [] → D.all isDig = true → D.length = nDigits (num D 0) → D = decDigits (num D 0) := by
  intro n
  induction n with
  | zero => intro D h hne; exact absurd (List.eq_nil_of_length_eq_zero h) hne
  | succ n ih =>
    intro D hl hne hall hnd
    obtain ⟨E, c, rfl⟩ : ∃ E c, D = E ++ [c] := ⟨D.dropLast, D.getLast hne, (List.dropLast_concat_getLast hne).symm⟩
    rw [List.all_append, Bool.and_eq_true] at hall
    have hc : isDig c = true := by have := hall.2; simpa using this
    rw [isDig_iff] at hc
    have hd : UInt8.ofNat (48 + (c.toNat - 48)) = c := by
      rw [show 48 + (c.toNat - 48) = c.toNat by omega]
      exact UInt8.ofNat_toNat
    by_cases hE : E = []
    · subst hE
      rw [num_snoc]
      simp only [num]
      rw [show 10 * 0 + (c.toNat - 48) = c.toNat - 48 by omega, decDigits, dif_pos (by omega), hd]
      rfl
    · have hEl : 0 < E.length := List.length_pos_iff.2 hE
      rw [num_snoc] at hnd ⊢
      rw [List.length_append, List.length_singleton] at hnd hl
      have hbig : ¬ 10 * num E 0 + (c.toNat - 48) < 10 := by
        intro hlt
        rw [Lib.nDigits_small hlt] at hnd
        omega
      have hdiv : (10 * num E 0 + (c.toNat - 48)) / 10 = num E 0 := by omega
      have hmod : (10 * num E 0 + (c.toNat - 48)) % 10 = c.toNat - 48 := by omega
      rw [Lib.nDigits_big (by omega), hdiv] at hnd
      have e := ih E (by omega) hE hall.1 (by omega)
      rw [decDigits, dif_neg hbig, hdiv, hmod, ← e, hd]

/-- What a line begins with. -/
theorem one_form {b : List UInt8} {r : Rc} {n : Nat} (h : one b = some (r, n)) (hb : b.length ≤ 10000000) :
    ∃ t, b = decDigits n ++ 32 :: (r.1 ++ 61 :: (r.2 ++ 10 :: t)) ∧ right r = true ∧ n = lineLen r ∧ n ≤ b.length ∧ (decDigits n).length = wid (body r).length := by
  obtain ⟨h1, h2, h3, h4⟩ := one_some h
  have hbl : (body r).length ≤ 10000000 := by
    have := congrArg List.length h2
    rw [line_eq, List.length_append, List.length_take] at this
    omega
  have hn : n = lineLen r := by
    have := congrArg List.length h2
    rw [line_length (by omega), List.length_take] at this
    omega
  have hd8 : (decDigits (lineLen r)).length = wid (body r).length := by rw [Lib.decDigits_length]; exact (wid_spec (by omega)).2.2.1
  refine ⟨b.drop n, ?_, h1, hn, h4, by rw [hn]; exact hd8⟩
  conv => lhs; rw [← List.take_append_drop n b, ← h2, line_eq, ← hn]
  simp [body]

section
variable {b : List UInt8} {i : Nat}
/-- All before place i are digits. -/
def digs (b : List UInt8) (i : Nat) : Prop := (b.take i).all isDig = true

theorem digs_le_wid {r : Rc} {n : Nat} (hi : i < b.length) (hd : digs b i) (h : one b = some (r, n)) (hb : b.length ≤ 10000000) : i ≤ (decDigits n).length ∧ b.take i = (decDigits n).take i := by
  obtain ⟨t, e, hr, hn, hle, hw⟩ := one_form h hb
  have hk : i ≤ (decDigits n).length := by
    rcases Nat.lt_or_ge (decDigits n).length i with hlt | hge
    · exfalso
      unfold digs at hd
      have hm : (32 : UInt8) ∈ b.take i := by
        rw [e, List.take_append]
        refine List.mem_append_right _ ?_
        obtain ⟨m, hm⟩ : ∃ m, i - (decDigits n).length = m + 1 := ⟨i - (decDigits n).length - 1, by omega⟩
        rw [hm, List.take_succ_cons]
        exact List.mem_cons_self
      have := List.all_eq_true.1 hd _ hm
      rw [isDig_blank] at this
      cases this
    · exact hge
  refine ⟨hk, ?_⟩
  conv => lhs; rw [e]
  rw [List.take_append_of_le_length hk]

theorem none_of {α : Type} {x : Option α} (h : ∀ y, x = some y → False) : x = none := by
  cases x with
  | none => rfl
  | some y => exact (h y rfl).elim

/-- Neither digit nor blank: no line. -/
theorem one_odd (hi : i < b.length) (hb : b.length ≤ 10000000) (hd : digs b i) (h1 : isDig b[i] = false) (h2 : b[i] ≠ 32) : one b = none := by
  refine none_of fun ⟨r, n⟩ h => ?_
  obtain ⟨hk, htk⟩ := digs_le_wid hi hd h hb
  obtain ⟨t, e, hr, hn, hle, hw⟩ := one_form h hb
  have hg : b[i] = (decDigits n ++ 32 :: (r.1 ++ 61 :: (r.2 ++ 10 :: t)))[i]'(by rw [← e]; exact hi) := by congr 1
  rcases Nat.lt_or_ge i (decDigits n).length with hlt | hge
  · rw [List.getElem_append_left hlt] at hg
    have := decDigits_dig n _ (List.getElem_mem hlt)
    rw [← hg, h1] at this
    cases this
  · have : i = (decDigits n).length := by omega
    subst this
    rw [List.getElem_append_right (Nat.le_refl _)] at hg
    simp at hg
    exact h2 hg

/-- A number that is beyond the bytes, and no blank yet: no line. -/
theorem one_beyond (hi : i < b.length) (hb : b.length ≤ 10000000) (hd : digs b i) (h1 : b.length < num (b.take i) 0) : one b = none := by
  refine none_of fun ⟨r, n⟩ h => ?_
  obtain ⟨hk, htk⟩ := digs_le_wid hi hd h hb
  obtain ⟨t, e, hr, hn, hle, hw⟩ := one_form h hb
  have := num_prefix_le ((decDigits n).take i) ((decDigits n).drop i)
  rw [List.take_append_drop, num_decDigits, ← htk] at this
  omega

/-- Digits alone: no line. -/
theorem one_digits (hb : b.length ≤ 10000000) (hd : digs b b.length) : one b = none := by
  refine none_of fun ⟨r, n⟩ h => ?_
  obtain ⟨t, e, hr, hn, hle, hw⟩ := one_form h hb
  unfold digs at hd
  rw [List.take_length] at hd
  have := List.all_eq_true.1 hd 32 (by rw [e]; simp)
  rw [isDig_blank] at this
  cases this

/-- The record of a line that is said to be so wide, whose blank stands at place i. -/
def recAt (b : List UInt8) (i W : Nat) : Option Rc :=
  if W < i + 1 ∨ b.length < W then none
  else
    let x := (b.take W).drop (i + 1)
    if x.getLast? = some 10 then
      let T := x.dropLast
      let key := T.takeWhile fun c => !(c == 61)
      let r : Rc := (key, T.drop (key.length + 1))
      if key.length < T.length ∧ right r = true ∧ lineLen r = W then some r else none
    else none

theorem takeWhile_form {T : List UInt8} (h : (T.takeWhile fun c => !(c == 61)).length < T.length) :
    T = (T.takeWhile fun c => !(c == 61)) ++ 61 :: T.drop ((T.takeWhile fun c => !(c == 61)).length + 1) := by
  induction T with
  | nil => simp at h
  | cons c T ih =>
    by_cases hc : c = 61
    · subst hc; simp
    · have hc' : (!(c == 61)) = true := by simpa using hc
      rw [List.takeWhile_cons, hc'] at h ⊢
      simp only [if_true, List.length_cons] at h ⊢
      rw [List.cons_append, List.drop_succ_cons]
      congr 1
      exact ih (by omega)

/-- At a blank behind digits the first line is what is found so. -/
theorem one_recAt (hi : i < b.length) (hb : b.length ≤ 10000000) (hd : digs b i) (h32 : b[i] = 32) : one b = (recAt b i (num (b.take i) 0)).map (fun r => (r, num (b.take i) 0)) := by
  obtain ⟨W, hW⟩ : ∃ W, num (b.take i) 0 = W := ⟨_, rfl⟩
  rw [hW]
  cases hr : recAt b i W with
  | none =>
    refine none_of fun ⟨r, n⟩ h => ?_
    obtain ⟨hk, htk⟩ := digs_le_wid hi hd h hb
    obtain ⟨t, e, hrr, hn, hle, hw⟩ := one_form h hb
    have hil : i = (decDigits n).length := by
      rcases Nat.lt_or_ge i (decDigits n).length with hlt | hge
      · have hg : b[i] = (decDigits n ++ 32 :: (r.1 ++ 61 :: (r.2 ++ 10 :: t)))[i]'(by rw [← e]; exact hi) := by congr 1
        rw [List.getElem_append_left hlt] at hg
        have := decDigits_dig n _ (List.getElem_mem hlt)
        rw [← hg, h32, isDig_blank] at this
        cases this
      · omega
    have hWn : W = n := by rw [← hW, htk, hil, List.take_length, num_decDigits]
    subst hWn
    have hbl := body_length r
    have hnl : W = (body r).length + (decDigits W).length := by rw [hw]; exact hn
    have hx : (b.take W).drop (i + 1) = r.1 ++ 61 :: (r.2 ++ [10]) := by
      have e2 : b = (decDigits W ++ 32 :: (r.1 ++ 61 :: (r.2 ++ [10]))) ++ t := by rw [e]; simp
      have hl2 : (decDigits W ++ 32 :: (r.1 ++ 61 :: (r.2 ++ [10]))).length = W := by simp; omega
      rw [e2, List.take_append_of_le_length (by omega), List.take_of_length_le (by omega), hil, List.drop_append, List.drop_of_length_le (by omega), List.nil_append, show (decDigits W).length + 1 - (decDigits W).length = 1 by omega]
      rfl
    unfold recAt at hr
    dsimp only at hr
    rw [if_neg (by omega), hx] at hr
    have hx2 : r.1 ++ 61 :: (r.2 ++ [10]) = (r.1 ++ 61 :: r.2) ++ [10] := by simp
    rw [hx2, List.getLast?_concat, if_pos rfl, List.dropLast_concat, takeWhile_app (keys_no_eq hrr) (by decide)] at hr
    have hv : (r.1 ++ 61 :: r.2).drop (r.1.length + 1) = r.2 := by rw [List.drop_append, List.drop_of_length_le (by omega)]; simp
    rw [hv, if_pos ⟨by simp, hrr, hn.symm⟩] at hr
    cases hr
  | some r =>
    unfold recAt at hr
    dsimp only at hr
    split at hr
    · cases hr
    rename_i h1
    split at hr
    case isFalse => cases hr
    rename_i h2
    split at hr
    case isFalse => cases hr
    rename_i h3
    injection hr with hr
    obtain ⟨h4, h5, h6⟩ := h3
    rw [hr] at h5 h6
    have hT := takeWhile_form h4
    have hx : ((b.take W).drop (i + 1)) = ((b.take W).drop (i + 1)).dropLast ++ [10] := by
      obtain ⟨ys, hys⟩ := List.getLast?_eq_some_iff.1 h2
      rw [hys, List.dropLast_concat]
    have hr1 : r.1 = (((b.take W).drop (i + 1)).dropLast.takeWhile fun c => !(c == 61)) := by rw [← hr]
    have hr2 : r.2 = ((b.take W).drop (i + 1)).dropLast.drop ((((b.take W).drop (i + 1)).dropLast.takeWhile fun c => !(c == 61)).length + 1) := by rw [← hr]
    rw [← hr2, ← hr1] at hT
    rw [hT] at hx
    have hbt : b.take W = b.take i ++ body r := by
      conv => lhs; rw [← List.take_append_drop (i + 1) (b.take W), hx, List.take_take, Nat.min_eq_left (by omega), List.take_succ_eq_append_getElem hi, h32]
      simp [body]
    have hlb : (b.take i).length + (body r).length = W := by
      have := congrArg List.length hbt
      rw [List.length_append, List.length_take] at this
      omega
    have hll : lineLen r = (body r).length + wid (body r).length := rfl
    have hsp := wid_spec (L := (body r).length) (by omega)
    have hiw : (b.take i).length = wid (body r).length := by omega
    have hD : b.take i = decDigits W := by
      have := dec_of_num _ (b.take i) rfl (by intro e; rw [e] at hiw; simp at hiw; omega) hd (by rw [hW, ← h6, hll, hiw]; exact hsp.2.2.1.symm)
      rw [hW] at this
      exact this
    have hline : line r = b.take W := by rw [hbt, hD, line_eq, h6]
    have := one_line h5 (by omega) (b.drop W)
    rw [hline, List.take_append_drop, h6] at this
    rw [this]
    rfl
end

/-- Why some bytes are no records; 0: they are. -/
def parseE (b : List UInt8) : Nat :=
  if 1048576 < b.length then 3 else match recs b with
    | none => 34
    | some l => if 1000 < l.length then 3 else 0
def parseL (b : List UInt8) : List Rc := if parseE b = 0 then (recs b).getD [] else []
theorem parseL_no {b : List UInt8} (h : parseE b ≠ 0) : parseL b = [] := by unfold parseL; rw [if_neg h]
theorem parseE_long {b : List UInt8} (h : 1048576 < b.length) : parseE b = 3 := by unfold parseE; rw [if_pos h]
theorem parseE_none {b : List UInt8} (h : ¬ 1048576 < b.length) (h2 : recs b = none) : parseE b = 34 := by unfold parseE; rw [if_neg h, h2]
theorem parseE_many {b : List UInt8} {l : List Rc} (h : ¬ 1048576 < b.length) (h2 : recs b = some l) (h3 : 1000 < l.length) : parseE b = 3 := by unfold parseE; rw [if_neg h, h2]; dsimp only; rw [if_pos h3]
theorem parseE_some {b : List UInt8} {l : List Rc} (h : ¬ 1048576 < b.length) (h2 : recs b = some l) (h3 : ¬ 1000 < l.length) : parseE b = 0 ∧ parseL b = l := by
  have e : parseE b = 0 := by unfold parseE; rw [if_neg h, h2]; dsimp only; rw [if_neg h3]
  exact ⟨e, by unfold parseL; rw [if_pos e, h2]; rfl⟩

/-- What has been read, and what is left. -/
def AtRest (b done : List UInt8) (l : List Rc) (rest : List UInt8) : Prop := b = done ++ rest ∧ recs b = (recs rest).map (l ++ ·)
theorem AtRest.start (b : List UInt8) : AtRest b [] [] b := ⟨rfl, by cases recs b <;> simp⟩
theorem AtRest.none_ {b done rest : List UInt8} {l : List Rc} (h : AtRest b done l rest) (hne : rest ≠ []) (h1 : one rest = none) : recs b = none := by
  rw [h.2, recs_step hne, h1]; rfl
theorem AtRest.end_ {b done : List UInt8} {l : List Rc} (h : AtRest b done l []) : recs b = some l := by rw [h.2, recs_nil]; simp
theorem AtRest.step {b done rest : List UInt8} {l : List Rc} {r : Rc} {n : Nat} (h : AtRest b done l rest) (hne : rest ≠ []) (h1 : one rest = some (r, n)) : AtRest b (done ++ rest.take n) (l ++ [r]) (rest.drop n) := by
  refine ⟨by rw [List.append_assoc, List.take_append_drop]; exact h.1, ?_⟩
  rw [h.2, recs_step hne, h1]
  dsimp only
  cases recs (rest.drop n) <;> simp
end M
end Go.Proofs.YtahhgphlfodonaaDoor
