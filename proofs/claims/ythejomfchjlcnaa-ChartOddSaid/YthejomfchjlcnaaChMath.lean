/-
  Spans of classes, as plain mathematics: no program is spoken of.
-/
import Derived.ProofKit
set_option linter.unusedVariables false
set_option linter.unusedSimpArgs false
namespace Go.Proofs.Ythejomfchjlcnaa
namespace C
/-- A span: from, to, class. -/
abbrev Sp := Int × Int × Int
/-- The spans of what is left, where one of class c began at f and has come as far as t. -/
def go : List Int → Nat → Int → Nat → List Sp
  | [], f, c, t => [((f : Int), (t : Int), c)]
  | x :: r, f, c, t => if x = c then go r f c (t + 1) else ((f : Int), (t : Int), c) :: go r t x (t + 1)
def spans : List Int → List Sp
  | [] => []
  | x :: r => go r 0 x 1
theorem go_same {r : List Int} {f t : Nat} {c : Int} : go (c :: r) f c t = go r f c (t + 1) := by simp [go]
theorem go_other {r : List Int} {f t : Nat} {c x : Int} (h : x ≠ c) : go (x :: r) f c t = ((f : Int), (t : Int), c) :: go r t x (t + 1) := by simp [go, h]
theorem go_len (r : List Int) : ∀ (f : Nat) (c : Int) (t : Nat), 1 ≤ (go r f c t).length ∧ (go r f c t).length ≤ r.length + 1 := by
  induction r with
  | nil => intro f c t; simp [go]
  | cons x r ih =>
    intro f c t
    unfold go
    split
    · have := ih f c (t + 1); simp only [List.length_cons]; omega
    · have := ih t x (t + 1); simp only [List.length_cons]; omega
theorem spans_len (l : List Int) : (spans l).length ≤ l.length := by
  cases l with
  | nil => simp [spans]
  | cons x r => exact (go_len r 0 x 1).2
theorem spans_some {l : List Int} (h : 0 < l.length) : 0 < (spans l).length := by
  cases l with
  | nil => simp at h
  | cons x r => exact (go_len r 0 x 1).1
/-- How many changes there are. -/
def nx (x c : Int) : Nat := if x = c then 0 else 1
def chg : Int → List Int → Nat
  | _, [] => 0
  | c, x :: r => nx x c + chg x r
theorem go_chg (r : List Int) : ∀ (f : Nat) (c : Int) (t : Nat), (go r f c t).length = 1 + chg c r := by
  induction r with
  | nil => intro f c t; simp [go, chg]
  | cons x r ih =>
    intro f c t
    unfold go chg
    split
    · rename_i h; subst h; rw [ih]; simp [nx]
    · rename_i h; rw [List.length_cons, ih]; simp [nx, h]; omega
def changes : List Int → Nat
  | [] => 0
  | x :: r => 1 + chg x r
theorem spans_changes (l : List Int) : (spans l).length = changes l := by
  cases l with
  | nil => rfl
  | cons x r => exact go_chg r 0 x 1
theorem chg_snoc (r : List Int) : ∀ (c x : Int), ∀ d, (c :: r).getLast? = some d → chg c (r ++ [x]) = chg c r + nx x d := by
  induction r with
  | nil => intro c x d h; simp at h; subst h; simp [chg]
  | cons y r ih =>
    intro c x d h
    have := ih y x d (by simpa using h)
    simp only [List.cons_append, chg, this]; omega
theorem changes_snoc {l : List Int} {x d : Int} (h : l.getLast? = some d) : changes (l ++ [x]) = changes l + nx x d := by
  cases l with
  | nil => simp at h
  | cons z r =>
    show 1 + chg z (r ++ [x]) = 1 + chg z r + _
    rw [chg_snoc r z x d h]; omega
theorem changes_step {l : List Int} {i : Nat} {x y : Int} (hx : l[i + 1]? = some x) (hy : l[i]? = some y) : changes (l.take (i + 2)) = changes (l.take (i + 1)) + nx x y := by
  obtain ⟨hi, rfl⟩ := List.getElem?_eq_some_iff.1 hx
  obtain ⟨hj, rfl⟩ := List.getElem?_eq_some_iff.1 hy
  rw [← List.take_append_getElem hi]
  refine changes_snoc ?_
  rw [List.getLast?_eq_getElem?, List.length_take, Nat.min_eq_left (by omega)]
  simp [hj]
theorem changes_one {l : List Int} (h : 0 < l.length) : changes (l.take 1) = 1 := by
  cases l with
  | nil => simp at h
  | cons x r => rfl
/-- Do they cover? -/
def cov : Int → Int → List Sp → Int → Bool
  | at_, _, [], n => decide (at_ = n)
  | at_, c0, s :: r, n => if s.1 = at_ ∧ s.1 < s.2.1 ∧ 1 ≤ s.2.2 ∧ s.2.2 ≤ 9 ∧ s.2.2 ≠ c0 then cov s.2.1 s.2.2 r n else false
def Cls (l : List Int) : Prop := ∀ x ∈ l, 1 ≤ x ∧ x ≤ 9
theorem cov_go (r : List Int) : ∀ (f : Nat) (c : Int) (t : Nat) (c0 n : Int), f < t → 1 ≤ c → c ≤ 9 → c ≠ c0 → Cls r → cov f c0 (go r f c t) n = decide (((t + r.length : Nat) : Int) = n) := by
  induction r with
  | nil =>
    intro f c t c0 n h1 h2 h3 h4 _
    simp only [go, cov]
    rw [if_pos ⟨trivial, by omega, h2, h3, h4⟩]
    simp
  | cons x r ih =>
    intro f c t c0 n h1 h2 h3 h4 h5
    have hx := h5 x (by simp)
    have hr : Cls r := fun y hy => h5 y (List.mem_cons_of_mem _ hy)
    unfold go
    split
    · rw [ih f c (t + 1) c0 n (by omega) h2 h3 h4 hr, List.length_cons]
      congr 2; omega
    · rename_i hne
      simp only [cov]
      rw [if_pos ⟨trivial, by omega, h2, h3, h4⟩, ih t x (t + 1) c n (by omega) hx.1 hx.2 hne hr, List.length_cons]
      congr 2; omega
theorem cov_spans {l : List Int} (h : Cls l) (n : Int) : cov 0 0 (spans l) n = decide ((l.length : Int) = n) := by
  cases l with
  | nil => rfl
  | cons x r =>
    have hx := h x (by simp)
    have := cov_go r 0 x 1 0 n (by omega) hx.1 hx.2 (by omega) (fun y hy => h y (List.mem_cons_of_mem _ hy))
    rw [show spans (x :: r) = go r 0 x 1 from rfl, List.length_cons, Nat.add_comm r.length 1]
    exact this
theorem cov_yes {at_ c0 n : Int} {s : Sp} {r : List Sp} (h : cov at_ c0 (s :: r) n = true) : (s.1 = at_ ∧ s.1 < s.2.1 ∧ 1 ≤ s.2.2 ∧ s.2.2 ≤ 9 ∧ s.2.2 ≠ c0) ∧ cov s.2.1 s.2.2 r n = true := by
  simp only [cov] at h
  split at h
  · rename_i h1; exact ⟨h1, h⟩
  · cases h
theorem cov_gap : ∀ (l : List Sp) (at_ c0 n m : Int) (i : Nat) (s : Sp), cov at_ c0 l n = true → l[i]? = some s → cov at_ c0 (l.set i (s.1 + 1, s.2)) m = false
  | [], _, _, _, _, i, s, _, hi => by simp at hi
  | x :: l, at_, c0, n, m, 0, s, h, hi => by
    have hx : x = s := by simpa using hi
    subst hx
    obtain ⟨h1, _⟩ := cov_yes h
    simp only [List.set_cons_zero, cov]
    rw [if_neg (by omega)]
  | x :: l, at_, c0, n, m, i + 1, s, h, hi => by
    obtain ⟨h1, h2⟩ := cov_yes h
    simp only [List.set_cons_succ, cov]
    rw [if_pos h1]
    exact cov_gap l _ _ n m i s h2 (by simpa using hi)
theorem cov_odd : ∀ (l : List Sp) (at_ c0 n m d : Int) (i : Nat) (s : Sp), 9 < d → cov at_ c0 l n = true → l[i]? = some s → cov at_ c0 (l.set i (s.1, s.2.1, d)) m = false
  | [], _, _, _, _, _, i, s, _, _, hi => by simp at hi
  | x :: l, at_, c0, n, m, d, 0, s, hd, h, hi => by
    simp only [List.set_cons_zero, cov]
    rw [if_neg (by omega)]
  | x :: l, at_, c0, n, m, d, i + 1, s, hd, h, hi => by
    obtain ⟨h1, h2⟩ := cov_yes h
    simp only [List.set_cons_succ, cov]
    rw [if_pos h1]
    exact cov_odd l _ _ n m d i s hd h2 (by simpa using hi)
/-- The class of a block. -/
def cls (l : List Sp) (i : Int) : Int :=
  match l.find? (fun s => decide (s.1 ≤ i) && decide (i < s.2.1)) with
  | some s => s.2.2
  | none => 0
theorem cls_hit {s : Sp} {r : List Sp} {i : Int} (h : s.1 ≤ i ∧ i < s.2.1) : cls (s :: r) i = s.2.2 := by simp [cls, List.find?, h.1, h.2]
theorem cls_miss {s : Sp} {r : List Sp} {i : Int} (h : ¬ (s.1 ≤ i ∧ i < s.2.1)) : cls (s :: r) i = cls r i := by
  have : (decide (s.1 ≤ i) && decide (i < s.2.1)) = false := by
    rw [← Bool.decide_and, decide_eq_false_iff_not]; exact h
  simp [cls, List.find?, this]
theorem cls_go (r : List Int) : ∀ (f : Nat) (c : Int) (t i : Nat), f < t → f ≤ i → i < t + r.length → (i < t → cls (go r f c t) i = c) ∧ (t ≤ i → ∀ x, r[i - t]? = some x → cls (go r f c t) i = x) := by
  induction r with
  | nil =>
    intro f c t i h0 h1 h2
    simp only [List.length_nil] at h2
    exact ⟨fun h3 => cls_hit ⟨by show (f : Int) ≤ i; omega, by show (i : Int) < t; omega⟩, fun h3 => by omega⟩
  | cons y r ih =>
    intro f c t i h0 h1 h2
    rw [List.length_cons] at h2
    by_cases hy : y = c
    · subst hy
      rw [go_same]
      obtain ⟨k1, k2⟩ := ih f y (t + 1) i (by omega) h1 (by omega)
      refine ⟨fun h3 => k1 (by omega), fun h3 x hx => ?_⟩
      rcases Nat.eq_or_lt_of_le h3 with h4 | h4
      · subst h4
        rw [Nat.sub_self] at hx
        injection hx with hx
        subst hx
        exact k1 (by omega)
      · exact k2 (by omega) x (by rw [← hx, show i - t = (i - (t + 1)) + 1 by omega, List.getElem?_cons_succ])
    · rw [go_other hy]
      refine ⟨fun h3 => cls_hit ⟨by show (f : Int) ≤ i; omega, by show (i : Int) < t; omega⟩, fun h3 x hx => ?_⟩
      rw [cls_miss (by show ¬ ((f : Int) ≤ i ∧ (i : Int) < t); omega)]
      obtain ⟨k1, k2⟩ := ih t y (t + 1) i (by omega) h3 (by omega)
      rcases Nat.eq_or_lt_of_le h3 with h4 | h4
      · subst h4
        rw [Nat.sub_self] at hx
        injection hx with hx
        subst hx
        exact k1 (by omega)
      · exact k2 (by omega) x (by rw [← hx, show i - t = (i - (t + 1)) + 1 by omega, List.getElem?_cons_succ])
theorem cls_spans {l : List Int} {i : Nat} {x : Int} (h : l[i]? = some x) : cls (spans l) i = x := by
  cases l with
  | nil => simp at h
  | cons y r =>
    obtain ⟨k1, k2⟩ := cls_go r 0 y 1 i (by omega) (by omega) (by have := (List.getElem?_eq_some_iff.1 h).1; rw [List.length_cons] at this; omega)
    cases i with
    | zero =>
      injection h with h
      subst h
      exact k1 (by omega)
    | succ i => exact k2 (by omega) x (by rw [← h]; simp)
/-- What all have: bounds. -/
def Fit (n : Nat) (l : List Sp) : Prop := ∀ s ∈ l, 0 ≤ s.1 ∧ s.1 < s.2.1 ∧ s.2.1 ≤ n
theorem go_fit (r : List Int) : ∀ (f : Nat) (c : Int) (t n : Nat), f < t → t + r.length ≤ n → Fit n (go r f c t) := by
  induction r with
  | nil =>
    intro f c t n h1 h2 s hs
    simp only [go, List.mem_singleton] at hs
    subst hs
    simp only [List.length_nil] at h2
    exact ⟨by show (0 : Int) ≤ f; omega, by show (f : Int) < t; omega, by show (t : Int) ≤ n; omega⟩
  | cons x r ih =>
    intro f c t n h1 h2
    rw [List.length_cons] at h2
    unfold go
    split
    · exact ih f c (t + 1) n (by omega) (by omega)
    · intro s hs
      rcases List.mem_cons.1 hs with rfl | hs
      · exact ⟨by show (0 : Int) ≤ f; omega, by show (f : Int) < t; omega, by show (t : Int) ≤ n; omega⟩
      · exact ih t x (t + 1) n (by omega) (by omega) s hs
theorem spans_fit (l : List Int) : Fit l.length (spans l) := by
  cases l with
  | nil => intro s hs; simp [spans] at hs
  | cons x r => exact go_fit r 0 x 1 _ (by omega) (by rw [List.length_cons]; omega)
theorem go_cls (r : List Int) : ∀ (f : Nat) (c : Int) (t : Nat), (∀ x ∈ c :: r, -9223372036854775808 ≤ x ∧ x ≤ 9223372036854775807) → ∀ s ∈ go r f c t, -9223372036854775808 ≤ s.2.2 ∧ s.2.2 ≤ 9223372036854775807 := by
  induction r with
  | nil =>
    intro f c t h s hs
    simp only [go, List.mem_singleton] at hs
    subst hs
    exact h c (by simp)
  | cons x r ih =>
    intro f c t h
    unfold go
    split
    · exact ih f c (t + 1) (fun y hy => h y (by rcases List.mem_cons.1 hy with rfl | hy; simp; simp [hy]))
    · intro s hs
      rcases List.mem_cons.1 hs with rfl | hs
      · exact h c (by simp)
      · exact ih t x (t + 1) (fun y hy => h y (List.mem_cons_of_mem _ hy)) s hs
/-- How many blocks have a class. -/
def cnt (c : Int) : List Sp → Int
  | [] => 0
  | s :: r => (if s.2.2 = c ∧ s.1 < s.2.1 then s.2.1 - s.1 else 0) + cnt c r
theorem cnt_app (c : Int) (a b : List Sp) : cnt c (a ++ b) = cnt c a + cnt c b := by
  induction a with
  | nil => simp [cnt]
  | cons s a ih => simp only [List.cons_append, cnt, ih]; omega
theorem cnt_set {l : List Sp} {i : Nat} {s : Sp} {d : Int} (h : l[i]? = some s) (hd : d ≠ s.2.2) (hs : s.1 < s.2.1) : cnt s.2.2 (l.set i (s.1, s.2.1, d)) = cnt s.2.2 l - (s.2.1 - s.1) := by
  obtain ⟨hi, rfl⟩ := List.getElem?_eq_some_iff.1 h
  have e : l = l.take i ++ l[i] :: l.drop (i + 1) := by rw [List.getElem_cons_drop, List.take_append_drop]
  rw [List.set_eq_take_append_cons_drop, if_pos hi, cnt_app]
  have e2 : cnt l[i].2.2 l = cnt l[i].2.2 (l.take i) + cnt l[i].2.2 (l[i] :: l.drop (i + 1)) := by rw [← cnt_app, ← e]
  rw [e2]
  simp only [cnt]
  rw [if_neg (fun hh => hd hh.1), if_pos ⟨trivial, hs⟩]
  omega
theorem cnt_bound {n : Nat} {c : Int} : ∀ {l : List Sp}, Fit n l → 0 ≤ cnt c l ∧ cnt c l ≤ (l.length : Int) * n
  | [], _ => by simp [cnt]
  | s :: l, h => by
    obtain ⟨h1, h2⟩ := cnt_bound (c := c) (l := l) (fun x hx => h x (List.mem_cons_of_mem _ hx))
    have hs := h s (by simp)
    have e : ((s :: l).length : Int) * n = (l.length : Int) * n + n := by rw [List.length_cons]; push_cast; rw [Int.add_mul]; omega
    rw [e]
    simp only [cnt]
    split <;> omega
/-- The loop of classes: what has been told and what is under way. -/
def At (l : List Int) (pre : List Sp) (f t : Nat) : Prop :=
  (∃ c, l[f]? = some c ∧ f < t ∧ t ≤ l.length ∧ spans l = pre ++ go (l.drop t) f c t) ∨ (t = l.length + 1 ∧ pre = spans l)
theorem at_start (l : List Int) : At l [] 0 1 := by
  cases l with
  | nil => exact .inr ⟨rfl, rfl⟩
  | cons x r => exact .inl ⟨x, rfl, by omega, by rw [List.length_cons]; omega, rfl⟩
theorem at_same {l : List Int} {pre : List Sp} {f t : Nat} {c : Int} (h1 : l[f]? = some c) (h2 : f < t) (h4 : spans l = pre ++ go (l.drop t) f c t) (ht : l[t]? = some c) : At l pre f (t + 1) := by
  obtain ⟨hi, hc⟩ := List.getElem?_eq_some_iff.1 ht
  refine .inl ⟨c, h1, by omega, by omega, ?_⟩
  rw [h4, List.drop_eq_getElem_cons hi, hc, go_same]
theorem at_other {l : List Int} {pre : List Sp} {f t : Nat} {c x : Int} (h1 : l[f]? = some c) (h2 : f < t) (h4 : spans l = pre ++ go (l.drop t) f c t) (ht : l[t]? = some x) (hx : x ≠ c) : At l (pre ++ [((f : Int), (t : Int), c)]) t (t + 1) := by
  obtain ⟨hi, hc⟩ := List.getElem?_eq_some_iff.1 ht
  refine .inl ⟨x, ht, by omega, by omega, ?_⟩
  rw [h4, List.drop_eq_getElem_cons hi, hc, go_other hx, List.append_assoc]; rfl
theorem at_end {l : List Int} {pre : List Sp} {f t : Nat} {c : Int} (h4 : spans l = pre ++ go (l.drop t) f c t) (ht : t = l.length) : At l (pre ++ [((f : Int), (t : Int), c)]) t (t + 1) := by
  subst ht
  rw [List.drop_length] at h4
  exact .inr ⟨rfl, h4.symm⟩
theorem at_prefix {l : List Int} {pre : List Sp} {f t : Nat} {c : Int} (h4 : spans l = pre ++ go (l.drop t) f c t) (h : l[t]? ≠ some c) : (pre ++ [((f : Int), (t : Int), c)]) <+: spans l := by
  rw [h4]
  cases hd : l.drop t with
  | nil => exact ⟨[], by simp [go]⟩
  | cons x r =>
    have hx : x ≠ c := by
      rintro rfl
      apply h
      have := congrArg List.head? hd
      rwa [List.head?_drop] at this
    rw [go_other hx]
    exact ⟨go r t x (t + 1), by simp⟩
end C
end Go.Proofs.Ythejomfchjlcnaa
