/-
  Plain mathematics of timestamps, over lists of bytes: what is read of a text, what is printed of a time, and that the one turns the other back. Nothing of the program is spoken of.
-/
import Derived.Test.YtahhgphlfodonaaDoorPaxParseM
namespace Go.Proofs.YtahhgphlfodonaaDoor
namespace M
open Go.Lib (decDigits nDigits)

theorem num_lt : ∀ (l : List UInt8) (a : Nat), l.all isDig = true → num l a < (a + 1) * 10 ^ l.length
  | [], a, _ => by simp [num]
  | c :: l, a, h => by
    rw [List.all_cons, Bool.and_eq_true, isDig_iff] at h
    have ih := num_lt l (10 * a + (c.toNat - 48)) h.2
    show num l (10 * a + (c.toNat - 48)) < _
    rw [List.length_cons, Nat.pow_succ, Nat.mul_comm (10 ^ l.length) 10, ← Nat.mul_assoc]
    exact Nat.lt_of_lt_of_le ih (Nat.mul_le_mul_right _ (by omega))
theorem num_noughts (k : Nat) (l : List UInt8) : num (List.replicate k 48 ++ l) 0 = num l 0 := by
  induction k with
  | zero => rfl
  | succ k ih => rw [List.replicate_succ, List.cons_append]; exact ih

/-- The number of digits, so many at most. -/
def number (l : List UInt8) (most : Nat) : Option Nat := if l = [] ∨ most < l.length ∨ l.all isDig = false then none else some (num l 0)
theorem number_some {l : List UInt8} {most : Nat} (h1 : l ≠ []) (h2 : l.length ≤ most) (h3 : l.all isDig = true) : number l most = some (num l 0) := by
  unfold number
  rw [if_neg]
  rintro (h | h | h)
  · exact h1 h
  · omega
  · rw [h3] at h; cases h
theorem number_none {l : List UInt8} {most : Nat} (h : l = [] ∨ most < l.length ∨ l.all isDig = false) : number l most = none := by unfold number; rw [if_pos h]
theorem number_lt {l : List UInt8} {most n : Nat} (h : number l most = some n) : n < 10 ^ most := by
  unfold number at h
  split at h
  · cases h
  · rename_i hc
    injection h with h
    have h3 : l.all isDig = true := by cases hx : l.all isDig with
      | true => rfl
      | false => exact absurd (.inr (.inr hx)) hc
    have hlt := num_lt l 0 h3
    have h2 : l.length ≤ most := by
      rcases Nat.lt_or_ge most l.length with hm | hm
      · exact absurd (.inr (.inl hm)) hc
      · exact hm
    rw [Nat.zero_add, Nat.one_mul] at hlt
    rw [← h]
    exact Nat.lt_of_lt_of_le hlt (Nat.pow_le_pow_right (by omega) h2)

def nine : List UInt8 := List.replicate 9 48
theorem nine_len : nine.length = 9 := rfl
/-- The billionths that digits behind a point tell. -/
def billionths (l : List UInt8) : Option Nat := if number l 18 = none then none else some (num ((l ++ nine).take 9) 0)

theorem all_app9 {l : List UInt8} (h : l.all isDig = true) : ((l ++ nine).take 9).all isDig = true := by
  rw [List.all_eq_true] at h ⊢
  intro c hc
  rcases List.mem_append.1 (List.mem_of_mem_take hc) with h1 | h1
  · exact h c h1
  · have := List.eq_of_mem_replicate h1
    subst this
    rfl
theorem number_all {l : List UInt8} {most : Nat} (h : number l most ≠ none) : l ≠ [] ∧ l.length ≤ most ∧ l.all isDig = true := by
  unfold number at h
  split at h
  · exact absurd rfl h
  · rename_i hc
    refine ⟨fun e => hc (.inl e), ?_, ?_⟩
    · rcases Nat.lt_or_ge most l.length with hm | hm
      · exact absurd (.inr (.inl hm)) hc
      · exact hm
    · cases hx : l.all isDig with
      | true => rfl
      | false => exact absurd (.inr (.inr hx)) hc
theorem app9_len (l : List UInt8) : ((l ++ nine).take 9).length = 9 := by rw [List.length_take, List.length_append, nine_len]; omega
/-- As the program asks it: the first nine, with noughts behind, are a number again. -/
theorem billionths_eq (l : List UInt8) : billionths l = if number l 18 = none then none else number ((l ++ nine).take 9) 9 := by
  unfold billionths
  split
  · rfl
  · rename_i h
    have h3 := (number_all h).2.2
    rw [number_some (by intro e; have := app9_len l; rw [e] at this; cases this) (by rw [app9_len]; exact Nat.le_refl _) (all_app9 h3)]
theorem billionths_lt {l : List UInt8} {n : Nat} (h : billionths l = some n) : n < 1000000000 := by
  rw [billionths_eq] at h
  split at h
  · cases h
  · have := number_lt h; omega

/-- A time: seconds and billionths. -/
abbrev Tm := Int × Int
/-- As far on the other side of nought. -/
def opp (t : Tm) : Tm := if t.2 = 0 then (-t.1, 0) else (-t.1 - 1, 1000000000 - t.2)
theorem opp_opp {t : Tm} (h : 0 ≤ t.2) (h2 : t.2 < 1000000000) : opp (opp t) = t := by
  obtain ⟨S, n⟩ := t
  dsimp only at h h2
  unfold opp
  by_cases h0 : n = 0
  · subst h0; simp
  · simp only [h0, if_false]
    rw [if_neg (by omega)]
    simp only [Prod.mk.injEq]
    omega

def ptOf (l : List UInt8) : List UInt8 := l.takeWhile fun c => !(c == 46)
def aftPt (l : List UInt8) : List UInt8 := l.drop ((ptOf l).length + 1)
def frac (t : List UInt8) : Option Nat := if (ptOf t).length < t.length then billionths (aftPt t) else some 0
def minus (l : List UInt8) : Bool := decide (l.head? = some 45)
def noSign (l : List UInt8) : List UInt8 := if minus l = true then l.tail else l
def sgn (b : Bool) (t : Tm) : Tm := if b = true then opp t else t
/-- What is read of a text. -/
def parse (l : List UInt8) : Option Tm :=
  match number (ptOf (noSign l)) 15 with
  | none => none
  | some a => match frac (noSign l) with
    | none => none
    | some b => some (sgn (minus l) (a, b))

theorem ptOf_le (l : List UInt8) : (ptOf l).length ≤ l.length := by
  unfold ptOf
  exact (List.takeWhile_sublist _).length_le
theorem ptOf_take (l : List UInt8) : l.take (ptOf l).length = ptOf l := by
  unfold ptOf
  exact (List.prefix_iff_eq_take.1 (List.takeWhile_prefix _)).symm
theorem dig_not {c : UInt8} (h : isDig c = true) : (!(c == 46)) = true ∧ (c == 45) = false ∧ c ≠ 45 := by
  rw [isDig_iff] at h
  refine ⟨?_, ?_, ?_⟩
  · rw [Bool.not_eq_true', beq_eq_false_iff_ne]; intro e; subst e; exact absurd h (by decide)
  · rw [beq_eq_false_iff_ne]; intro e; subst e; exact absurd h (by decide)
  · intro e; subst e; exact absurd h (by decide)
theorem ptOf_dec {d : List UInt8} (h : d.all isDig = true) : ptOf d = d := takeWhile_all fun x hx => (dig_not (List.all_eq_true.1 h x hx)).1
theorem ptOf_pt {d f : List UInt8} (h : d.all isDig = true) : ptOf (d ++ 46 :: f) = d := takeWhile_app (fun x hx => (dig_not (List.all_eq_true.1 h x hx)).1) rfl
theorem frac_dec {d : List UInt8} (h : d.all isDig = true) : frac d = some 0 := by unfold frac; rw [ptOf_dec h, if_neg (by omega)]
theorem frac_pt {d f : List UInt8} (h : d.all isDig = true) : frac (d ++ 46 :: f) = billionths f := by
  unfold frac aftPt
  rw [ptOf_pt h, if_pos (by rw [List.length_append, List.length_cons]; omega)]
  congr 1
  rw [← List.drop_drop, List.drop_left]
  rfl
theorem minus_dec {d f : List UInt8} (h : d.all isDig = true) (hd : d ≠ []) : minus (d ++ f) = false := by
  cases d with
  | nil => exact absurd rfl hd
  | cons c d =>
    rw [List.all_cons, Bool.and_eq_true] at h
    unfold minus
    rw [decide_eq_false_iff_not]
    simp only [List.cons_append, List.head?_cons, Option.some.injEq]
    exact (dig_not h.1).2.2
theorem noSign_dec {d f : List UInt8} (h : d.all isDig = true) (hd : d ≠ []) : noSign (d ++ f) = d ++ f := by
  unfold noSign
  rw [minus_dec h hd, if_neg (by decide)]
theorem minus_cons (l : List UInt8) : minus (45 :: l) = true := rfl
theorem noSign_cons (l : List UInt8) : noSign (45 :: l) = l := rfl

/-- What is read of digits, with or without a sign ahead and a point and digits behind. -/
theorem parse_form {d : List UInt8} (s : Bool) (h : d.all isDig = true) (hd : d ≠ []) (hl : d.length ≤ 15) :
    parse ((if s = true then [45] else []) ++ d) = some (sgn s (num d 0, 0)) := by
  have hn := number_some (most := 15) hd hl h
  cases s with
  | true =>
    rw [if_pos rfl]
    unfold parse
    rw [List.singleton_append, noSign_cons, minus_cons, ptOf_dec h, hn]
    dsimp only
    rw [frac_dec h]
    rfl
  | false =>
    rw [if_neg (by decide), List.nil_append]
    have h1 := minus_dec (f := []) h hd
    have h2 := noSign_dec (f := []) h hd
    rw [List.append_nil] at h1 h2
    unfold parse
    rw [h2, h1, ptOf_dec h, hn]
    dsimp only
    rw [frac_dec h]
    rfl
theorem parse_form_pt {d f : List UInt8} (s : Bool) (h : d.all isDig = true) (hd : d ≠ []) (hl : d.length ≤ 15) :
    parse ((if s = true then [45] else []) ++ (d ++ 46 :: f)) = match billionths f with
      | none => none
      | some b => some (sgn s (num d 0, b)) := by
  have hn := number_some (most := 15) hd hl h
  cases s with
  | true =>
    rw [if_pos rfl]
    unfold parse
    rw [List.singleton_append, noSign_cons, minus_cons, ptOf_pt h, hn]
    dsimp only
    rw [frac_pt h]
  | false =>
    rw [if_neg (by decide), List.nil_append]
    unfold parse
    rw [noSign_dec h hd, minus_dec h hd, ptOf_pt h, hn]
    dsimp only
    rw [frac_pt h]

/-- Without the noughts behind. -/
def trim0 (l : List UInt8) : List UInt8 := (l.reverse.dropWhile fun c => c == 48).reverse
def pad9 (n : Nat) : List UInt8 := List.replicate (9 - nDigits n) 48 ++ decDigits n
theorem trim0_app (l : List UInt8) : ∃ k, l = trim0 l ++ List.replicate k 48 := by
  have h := List.takeWhile_append_dropWhile (p := fun c : UInt8 => c == 48) (l := l.reverse)
  refine ⟨(l.reverse.takeWhile fun c => c == 48).length, ?_⟩
  have h2 := congrArg List.reverse h
  rw [List.reverse_reverse, List.reverse_append] at h2
  unfold trim0
  conv => lhs; rw [← h2]
  congr 1
  have : l.reverse.takeWhile (fun c => c == 48) = List.replicate (l.reverse.takeWhile fun c => c == 48).length 48 := by
    rw [List.eq_replicate_iff]
    refine ⟨rfl, fun c hc => ?_⟩
    have := List.all_takeWhile (p := fun c : UInt8 => c == 48) (l := l.reverse)
    have h3 := List.all_eq_true.1 this c hc
    simpa using h3
  rw [this, List.reverse_replicate, List.length_replicate]
theorem trim0_last {l : List UInt8} {c : UInt8} (h : (trim0 l).getLast? = some c) : c ≠ 48 := by
  unfold trim0 at h
  rw [List.getLast?_reverse] at h
  have := List.head?_dropWhile_not (p := fun c : UInt8 => c == 48) l.reverse
  rw [h] at this
  simpa using this
theorem dec_len {n k : Nat} (h : n < 10 ^ k) (hk : 0 < k) : nDigits n ≤ k := by
  rcases Nat.lt_or_ge k (nDigits n) with hlt | hge
  · exfalso
    have h1 := num_lt
    obtain ⟨j, rfl⟩ : ∃ j, k = j + 1 := ⟨k - 1, by omega⟩
    clear h1
    have key : ∀ (j n : Nat), n < 10 ^ (j + 1) → nDigits n ≤ j + 1 := by
      intro j
      induction j with
      | zero => intro n hn; rw [Lib.nDigits_small (by omega)]; exact Nat.le_refl _
      | succ j ih =>
        intro n hn
        by_cases h10 : n < 10
        · rw [Lib.nDigits_small h10]; omega
        · rw [Lib.nDigits_big h10]
          have := ih (n / 10) (by rw [Nat.pow_succ] at hn; omega)
          omega
    have := key j n h
    omega
  · exact hge
theorem dec_all (n : Nat) : (decDigits n).all isDig = true := List.all_eq_true.2 (decDigits_dig n)
theorem dec_ne (n : Nat) : decDigits n ≠ [] := by
  intro e
  have h1 := Lib.decDigits_length n
  have h2 := Lib.nDigits_pos n
  rw [e] at h1
  rw [← h1] at h2
  exact absurd h2 (by decide)
theorem pad9_len {n : Nat} (h : n < 1000000000) : (pad9 n).length = 9 := by
  unfold pad9
  have := dec_len (k := 9) (n := n) (by omega) (by omega)
  rw [List.length_append, List.length_replicate, Lib.decDigits_length]
  omega
theorem pad9_all (n : Nat) : (pad9 n).all isDig = true := by
  unfold pad9
  rw [List.all_append, dec_all, Bool.and_true, List.all_eq_true]
  intro c hc
  rw [List.eq_of_mem_replicate hc]
  rfl
theorem pad9_num (n : Nat) : num (pad9 n) 0 = n := by unfold pad9; rw [num_noughts, num_decDigits]
theorem trim_all (n : Nat) : (trim0 (pad9 n)).all isDig = true := by
  obtain ⟨k, hk⟩ := trim0_app (pad9 n)
  have h := pad9_all n
  rw [hk, List.all_append, Bool.and_eq_true] at h
  exact h.1
theorem trim_len {n : Nat} (h : n < 1000000000) : (trim0 (pad9 n)).length ≤ 9 := by
  obtain ⟨k, hk⟩ := trim0_app (pad9 n)
  have h2 := pad9_len h
  rw [hk, List.length_append] at h2
  omega
theorem trim_ne {n : Nat} (h : 0 < n) : trim0 (pad9 n) ≠ [] := by
  intro e
  obtain ⟨k, hk⟩ := trim0_app (pad9 n)
  rw [e, List.nil_append] at hk
  have h1 := pad9_num n
  rw [hk] at h1
  have h2 := num_noughts k []
  rw [List.append_nil] at h2
  rw [h2] at h1
  have : num [] 0 = 0 := rfl
  omega
theorem trim_bill {n : Nat} (h0 : 0 < n) (h : n < 1000000000) : billionths (trim0 (pad9 n)) = some n := by
  have hl := trim_len h
  have hx : number (trim0 (pad9 n)) 18 ≠ none := by rw [number_some (trim_ne h0) (by omega) (trim_all n)]; simp
  unfold billionths
  rw [if_neg hx]
  obtain ⟨k, hk⟩ := trim0_app (pad9 n)
  have h9 := pad9_len h
  have hlen := h9
  rw [hk, List.length_append, List.length_replicate] at hlen
  have e : (trim0 (pad9 n) ++ nine).take 9 = pad9 n := by
    conv => rhs; rw [hk]
    rw [List.take_append, List.take_of_length_le (by omega)]
    congr 1
    unfold nine
    rw [List.take_replicate]
    congr 1
    omega
  rw [e, pad9_num]

/-- What is printed of a time that may be. -/
def fracText (n : Nat) : List UInt8 := if n = 0 then [] else 46 :: trim0 (pad9 n)
def below0 (t : Tm) : Bool := decide (t.1 < 0)
def pr (t : Tm) : List UInt8 := (if below0 t = true then [45] else []) ++ (decDigits (sgn (below0 t) t).1.toNat ++ fracText (sgn (below0 t) t).2.toNat)
def norm (t : Tm) : Tm := (min (max t.1 (-999999999999999)) 999999999999999, min (max t.2 0) 999999999)
structure Ok (t : Tm) : Prop where
  s1 : -999999999999999 ≤ t.1
  s2 : t.1 ≤ 999999999999999
  n1 : 0 ≤ t.2
  n2 : t.2 ≤ 999999999
theorem norm_ok (t : Tm) : Ok (norm t) := by
  obtain ⟨S, n⟩ := t
  constructor <;> (unfold norm; dsimp only; omega)
theorem norm_of {t : Tm} (h : Ok t) : norm t = t := by
  obtain ⟨S, n⟩ := t
  obtain ⟨h1, h2, h3, h4⟩ := h
  dsimp only at h1 h2 h3 h4
  unfold norm
  simp only [Prod.mk.injEq]
  omega
theorem norm_norm (t : Tm) : norm (norm t) = norm t := norm_of (norm_ok t)

/-- The parts of what is printed. -/
theorem sgn_parts {t : Tm} (h : Ok t) : 0 ≤ (sgn (below0 t) t).1 ∧ (sgn (below0 t) t).1 ≤ 999999999999999 ∧ 0 ≤ (sgn (below0 t) t).2 ∧ (sgn (below0 t) t).2 ≤ 999999999 ∧ ((sgn (below0 t) t).2 = 0 ↔ t.2 = 0) := by
  obtain ⟨S, n⟩ := t
  obtain ⟨h1, h2, h3, h4⟩ := h
  dsimp only at h1 h2 h3 h4
  unfold sgn below0
  by_cases hs : S < 0
  · rw [if_pos (by rw [decide_eq_true_eq]; exact hs)]
    unfold opp
    by_cases h0 : n = 0
    · subst h0; simp; omega
    · rw [if_neg h0]
      show 0 ≤ -S - 1 ∧ -S - 1 ≤ 999999999999999 ∧ 0 ≤ 1000000000 - n ∧ 1000000000 - n ≤ 999999999 ∧ (1000000000 - n = 0 ↔ n = 0)
      omega
  · rw [if_neg (by rw [decide_eq_true_eq]; exact hs)]
    dsimp only
    omega
theorem sgn_sgn {t : Tm} (h : Ok t) (b : Bool) : sgn b (sgn b t) = t := by
  unfold sgn
  cases b with
  | true => rw [if_pos rfl, if_pos rfl]; exact opp_opp h.n1 (by have := h.n2; omega)
  | false => rfl

/-- What is printed is read as it was. -/
theorem parse_pr {t : Tm} (h : Ok t) : parse (pr t) = some t := by
  obtain ⟨p1, p2, p3, p4, p5⟩ := sgn_parts h
  have hb := sgn_sgn h (below0 t)
  unfold pr
  generalize below0 t = b at *
  generalize hq : sgn b t = q at *
  obtain ⟨a, n⟩ := q
  dsimp only at p1 p2 p3 p4 p5 ⊢
  obtain ⟨A, rfl⟩ : ∃ A : Nat, a = A := ⟨a.toNat, by omega⟩
  obtain ⟨n', rfl⟩ : ∃ n' : Nat, n = n' := ⟨n.toNat, by omega⟩
  rw [Int.toNat_natCast, Int.toNat_natCast]
  have hl : (decDigits A).length ≤ 15 := by rw [Lib.decDigits_length]; exact dec_len (by omega) (by omega)
  unfold fracText
  by_cases h0 : n' = 0
  · subst h0
    rw [if_pos rfl, List.append_nil, parse_form b (dec_all A) (dec_ne A) hl, num_decDigits]
    rw [← hb]; rfl
  · rw [if_neg h0, parse_form_pt b (dec_all A) (dec_ne A) hl, trim_bill (by omega) (by omega), num_decDigits]
    show some (sgn b ((A : Int), (n' : Int))) = some t
    rw [hb]
end M
end Go.Proofs.YtahhgphlfodonaaDoor
