/-
  Plain mathematics of pax records, over lists of bytes: lines, their lengths, what lines are and what they are not. Nothing of the program is spoken of.
-/
import Derived.Lib.ItoaNum
namespace Go.Proofs.YtahhgphlfodonaaDoor
namespace M
open Go.Lib (decDigits nDigits)

/-- A record: its key, its value. -/
abbrev Rc := List UInt8 × List UInt8

def keyOk (c : UInt8) : Bool := decide (33 ≤ c.toNat) && decide (c.toNat ≤ 126) && !(decide (c.toNat = 61))
/-- May a record be? -/
def right (r : Rc) : Bool := r.1.all keyOk && r.2.all (fun c => !(c == 0)) && !r.1.isEmpty
/-- A line but for its length. -/
def body (r : Rc) : List UInt8 := 32 :: (r.1 ++ 61 :: (r.2 ++ [10]))

theorem body_length (r : Rc) : (body r).length = r.1.length + r.2.length + 3 := by simp [body]; omega

/-- How many digits the length of a line has, whose rest has L bytes: the least that may be (up to eight). -/
def wid (L : Nat) : Nat :=
  if L + 1 < 10 then 1 else if L + 2 < 100 then 2 else if L + 3 < 1000 then 3 else if L + 4 < 10000 then 4 else if L + 5 < 100000 then 5 else if L + 6 < 1000000 then 6 else if L + 7 < 10000000 then 7 else 8

/-- A line. -/
def line (r : Rc) : List UInt8 := decDigits ((body r).length + wid (body r).length) ++ body r

theorem nDigits_ge {u k : Nat} (h : 10 ^ k ≤ u) : k + 1 ≤ nDigits u := by
  induction k generalizing u with
  | zero => exact Lib.nDigits_pos u
  | succ k ih =>
    have h1 : 10 ≤ 10 ^ (k + 1) := by rw [Nat.pow_succ]; have : 0 < 10 ^ k := Nat.pow_pos (by omega); omega
    rw [Lib.nDigits_big (by omega)]
    have := ih (u := u / 10) (by rw [Nat.pow_succ] at h; omega)
    omega

/-- The length of a line tells how long it is; fewer digits don't do. -/
theorem wid_spec {L : Nat} (h : L + 8 < 100000000) : 1 ≤ wid L ∧ wid L ≤ 8 ∧ nDigits (L + wid L) = wid L ∧ ∀ d, 1 ≤ d → d < wid L → nDigits (L + d) ≠ d := by
  have big : ∀ d, 10 ^ d ≤ L + d → nDigits (L + d) ≠ d := fun d hd => by have := nDigits_ge hd; omega
  unfold wid
  by_cases h1 : L + 1 < 10
  · rw [if_pos h1]; exact ⟨by omega, by omega, Lib.nDigits_small (by omega), fun d a b => by omega⟩
  rw [if_neg h1]
  by_cases h2 : L + 2 < 100
  · rw [if_pos h2]
    refine ⟨by omega, by omega, Lib.nDigits_unique 1 _ (by omega) (by omega), fun d a b => big d ?_⟩
    have e : d = 1 := by omega
    subst e
    omega
  rw [if_neg h2]
  have b1 : 10 ^ 1 ≤ L + 1 := by omega
  have b2 : 10 ^ 2 ≤ L + 2 := by omega
  by_cases h3 : L + 3 < 1000
  · rw [if_pos h3]
    refine ⟨by omega, by omega, Lib.nDigits_unique 2 _ (by omega) (by omega), fun d a b => big d ?_⟩
    have : d = 1 ∨ d = 2 := by omega
    rcases this with rfl | rfl <;> assumption
  rw [if_neg h3]
  have b3 : 10 ^ 3 ≤ L + 3 := by omega
  by_cases h4 : L + 4 < 10000
  · rw [if_pos h4]
    refine ⟨by omega, by omega, Lib.nDigits_unique 3 _ (by omega) (by omega), fun d a b => big d ?_⟩
    have : d = 1 ∨ d = 2 ∨ d = 3 := by omega
    rcases this with rfl | rfl | rfl <;> assumption
  rw [if_neg h4]
  have b4 : 10 ^ 4 ≤ L + 4 := by omega
  by_cases h5 : L + 5 < 100000
  · rw [if_pos h5]
    refine ⟨by omega, by omega, Lib.nDigits_unique 4 _ (by omega) (by omega), fun d a b => big d ?_⟩
    have : d = 1 ∨ d = 2 ∨ d = 3 ∨ d = 4 := by omega
    rcases this with rfl | rfl | rfl | rfl <;> assumption
  rw [if_neg h5]
  have b5 : 10 ^ 5 ≤ L + 5 := by omega
  by_cases h6 : L + 6 < 1000000
  · rw [if_pos h6]
    refine ⟨by omega, by omega, Lib.nDigits_unique 5 _ (by omega) (by omega), fun d a b => big d ?_⟩
    have : d = 1 ∨ d = 2 ∨ d = 3 ∨ d = 4 ∨ d = 5 := by omega
    rcases this with rfl | rfl | rfl | rfl | rfl <;> assumption
  rw [if_neg h6]
  have b6 : 10 ^ 6 ≤ L + 6 := by omega
  by_cases h7 : L + 7 < 10000000
  · rw [if_pos h7]
    refine ⟨by omega, by omega, Lib.nDigits_unique 6 _ (by omega) (by omega), fun d a b => big d ?_⟩
    have : d = 1 ∨ d = 2 ∨ d = 3 ∨ d = 4 ∨ d = 5 ∨ d = 6 := by omega
    rcases this with rfl | rfl | rfl | rfl | rfl | rfl <;> assumption
  rw [if_neg h7]
  have b7 : 10 ^ 7 ≤ L + 7 := by omega
  refine ⟨by omega, by omega, Lib.nDigits_unique 7 _ (by omega) (by omega), fun d a b => big d ?_⟩
  have : d = 1 ∨ d = 2 ∨ d = 3 ∨ d = 4 ∨ d = 5 ∨ d = 6 ∨ d = 7 := by omega
  rcases this with rfl | rfl | rfl | rfl | rfl | rfl | rfl <;> assumption

/-- Digits. -/
def isDig (c : UInt8) : Bool := decide (48 ≤ c.toNat) && decide (c.toNat ≤ 57)
def num : List UInt8 → Nat → Nat
  | [], a => a
  | c :: l, a => num l (10 * a + (c.toNat - 48))
theorem num_app (l t : List UInt8) (a : Nat) : num (l ++ t) a = num t (num l a) := by
  induction l generalizing a with
  | nil => rfl
  | cons c l ih => exact ih _

theorem dig_byte {k : Nat} (h : k < 10) : (UInt8.ofNat (48 + k)).toNat = 48 + k := by
  rw [UInt8.toNat_ofNat']; omega
theorem decDigits_dig (u : Nat) : ∀ c ∈ decDigits u, isDig c = true := by
  induction u using Nat.strongRecOn with
  | _ u ih =>
    have key : ∀ k, k < 10 → isDig (UInt8.ofNat (48 + k)) = true := fun k hk => by unfold isDig; rw [dig_byte hk]; simp; omega
    by_cases h : u < 10
    · rw [decDigits, dif_pos h]
      intro c hc
      rw [List.mem_singleton] at hc
      subst hc
      exact key u h
    · rw [decDigits, dif_neg h]
      intro c hc
      rcases List.mem_append.1 hc with hc | hc
      · exact ih (u / 10) (by omega) c hc
      · rw [List.mem_singleton] at hc
        subst hc
        exact key _ (by omega)
theorem num_decDigits (u : Nat) : num (decDigits u) 0 = u := by
  induction u using Nat.strongRecOn with
  | _ u ih =>
    by_cases h : u < 10
    · rw [decDigits, dif_pos h]
      simp only [num]
      rw [dig_byte h]; omega
    · rw [decDigits, dif_neg h, num_app, ih (u / 10) (by omega)]
      simp only [num]
      rw [dig_byte (by omega)]; omega

theorem takeWhile_app {p : UInt8 → Bool} {a t : List UInt8} {c : UInt8} (ha : ∀ x ∈ a, p x = true) (hc : p c = false) : (a ++ c :: t).takeWhile p = a := by
  induction a with
  | nil => simp [hc]
  | cons x a ih =>
    rw [List.cons_append, List.takeWhile_cons, ha x (by simp)]
    simp only [if_true]
    rw [ih fun y hy => ha y (List.mem_cons_of_mem _ hy)]

theorem takeWhile_all {p : UInt8 → Bool} {a : List UInt8} (ha : ∀ x ∈ a, p x = true) : a.takeWhile p = a := by
  induction a with
  | nil => rfl
  | cons x a ih =>
    rw [List.takeWhile_cons, ha x (by simp)]
    simp only [if_true]
    rw [ih fun y hy => ha y (List.mem_cons_of_mem _ hy)]

/-- The length of a line. -/
def lineLen (r : Rc) : Nat := (body r).length + wid (body r).length

theorem line_eq (r : Rc) : line r = decDigits (lineLen r) ++ body r := rfl
theorem line_length {r : Rc} (h : (body r).length + 8 < 100000000) : (line r).length = lineLen r := by
  have hw := wid_spec h
  rw [line_eq, List.length_append, Lib.decDigits_length]
  unfold lineLen
  omega

/-- The first line of some bytes: its record, and how many bytes it has. -/
def one (b : List UInt8) : Option (Rc × Nat) :=
  let ds := (b.take 8).takeWhile isDig
  let n := num ds 0
  if n ≤ ds.length ∨ b.length < n then none
  else
    let u := ((b.take n).drop (ds.length + 1)).dropLast
    let key := u.takeWhile fun c => !(c == 61)
    let r : Rc := (key, u.drop (key.length + 1))
    if key.length < u.length ∧ right r = true ∧ line r = b.take n then some (r, n) else none

theorem keys_no_eq {r : Rc} (h : right r = true) : ∀ c ∈ r.1, (!(c == 61)) = true := by
  intro c hc
  unfold right at h
  simp only [Bool.and_eq_true, List.all_eq_true] at h
  have := h.1.1 c hc
  unfold keyOk at this
  simp only [Bool.and_eq_true, Bool.not_eq_true', decide_eq_true_eq, decide_eq_false_iff_not] at this
  have h2 : c ≠ 61 := by rintro rfl; exact this.2 rfl
  simpa using h2

theorem isDig_blank : isDig 32 = false := by decide

/-- What begins with a line. -/
theorem one_line {r : Rc} (hr : right r = true) (hl : (body r).length + 8 < 100000000) (t : List UInt8) : one (line r ++ t) = some (r, lineLen r) := by
  have hw := wid_spec hl
  have hlen := line_length hl
  have hd8 : (decDigits (lineLen r)).length = wid (body r).length := by rw [Lib.decDigits_length]; exact hw.2.2.1
  have hds : ((line r ++ t).take 8).takeWhile isDig = decDigits (lineLen r) := by
    rw [line_eq, List.append_assoc, List.take_append, List.take_of_length_le (by rw [hd8]; omega)]
    have hbody : body r = 32 :: (r.1 ++ 61 :: (r.2 ++ [10])) := rfl
    rcases Nat.lt_or_ge (decDigits (lineLen r)).length 8 with h8 | h8
    · obtain ⟨m, hm⟩ : ∃ m, 8 - (decDigits (lineLen r)).length = m + 1 := ⟨7 - (decDigits (lineLen r)).length, by omega⟩
      rw [hm, hbody, List.cons_append, List.take_succ_cons]
      exact takeWhile_app (decDigits_dig _) isDig_blank
    · rw [show 8 - (decDigits (lineLen r)).length = 0 by omega, List.take_zero, List.append_nil]
      exact takeWhile_all (decDigits_dig (lineLen r))
  unfold one
  dsimp only
  rw [hds, num_decDigits]
  have hb3 := body_length r
  rw [if_neg (by rw [hd8, List.length_append, hlen]; unfold lineLen; omega)]
  have htk : (line r ++ t).take (lineLen r) = line r := by rw [List.take_append_of_le_length (by omega), List.take_of_length_le (by omega)]
  rw [htk]
  have hu : ((line r).drop ((decDigits (lineLen r)).length + 1)).dropLast = r.1 ++ 61 :: r.2 := by
    rw [line_eq, List.drop_append, List.drop_of_length_le (by omega), List.nil_append, show (decDigits (lineLen r)).length + 1 - (decDigits (lineLen r)).length = 1 by omega]
    show (r.1 ++ 61 :: (r.2 ++ [10])).dropLast = _
    rw [show r.1 ++ 61 :: (r.2 ++ [10]) = (r.1 ++ 61 :: r.2) ++ [10] by simp, List.dropLast_concat]
  rw [hu]
  have hk : (r.1 ++ 61 :: r.2).takeWhile (fun c => !(c == 61)) = r.1 := takeWhile_app (keys_no_eq hr) (by decide)
  rw [hk]
  have hv : (r.1 ++ 61 :: r.2).drop (r.1.length + 1) = r.2 := by rw [List.drop_append, List.drop_of_length_le (by omega)]; simp
  rw [hv, if_pos ⟨by simp, hr, rfl⟩]

theorem one_some {b : List UInt8} {r : Rc} {n : Nat} (h : one b = some (r, n)) : right r = true ∧ line r = b.take n ∧ 0 < n ∧ n ≤ b.length := by
  unfold one at h
  dsimp only at h
  split at h
  · cases h
  · rename_i h1
    split at h
    · rename_i h2
      injection h with h
      injection h with h3 h4
      subst h3
      subst h4
      exact ⟨h2.2.1, h2.2.2, by omega, by omega⟩
    · cases h

/-- The records whose lines some bytes are (fuel: how many bytes). -/
def recsN : Nat → List UInt8 → Option (List Rc)
  | _, [] => some []
  | 0, _ => none
  | k + 1, b => match one b with
    | none => none
    | some (r, n) => (recsN k (b.drop n)).map (r :: ·)
def recs (b : List UInt8) : Option (List Rc) := recsN b.length b

theorem recsN_fuel : ∀ (k m : Nat) (b : List UInt8), b.length ≤ k → b.length ≤ m → recsN k b = recsN m b
  | 0, m, b, h, _ => by
    obtain rfl : b = [] := List.eq_nil_of_length_eq_zero (by omega)
    cases m <;> rfl
  | k + 1, 0, b, _, h => by
    obtain rfl : b = [] := List.eq_nil_of_length_eq_zero (by omega)
    rfl
  | k + 1, m + 1, [], _, _ => rfl
  | k + 1, m + 1, c :: b, h1, h2 => by
    simp only [recsN]
    cases ho : one (c :: b) with
    | none => rfl
    | some rn =>
      obtain ⟨r, n⟩ := rn
      have hn := one_some ho
      have e : recsN k ((c :: b).drop n) = recsN m ((c :: b).drop n) := recsN_fuel k m _ (by rw [List.length_drop]; omega) (by rw [List.length_drop]; omega)
      simp only [e]

theorem recs_nil : recs [] = some [] := rfl
theorem recs_step {b : List UInt8} (h : b ≠ []) : recs b = match one b with
    | none => none
    | some (r, n) => (recs (b.drop n)).map (r :: ·) := by
  cases b with
  | nil => exact absurd rfl h
  | cons c b =>
    unfold recs
    simp only [List.length_cons, recsN]
    cases ho : one (c :: b) with
    | none => rfl
    | some rn =>
      obtain ⟨r, n⟩ := rn
      have hn := one_some ho
      have e : recsN b.length ((c :: b).drop n) = recsN ((c :: b).drop n).length ((c :: b).drop n) := recsN_fuel _ _ _ (by rw [List.length_drop]; simp at hn ⊢; omega) (Nat.le_refl _)
      simp only [e]

/-- Lines, one behind the other. -/
def lines (l : List Rc) : List UInt8 := (l.map line).flatten
theorem lines_cons (r : Rc) (l : List Rc) : lines (r :: l) = line r ++ lines l := rfl
theorem lines_app (l m : List Rc) : lines (l ++ m) = lines l ++ lines m := by simp [lines]

/-- What was printed is parsed. -/
theorem recs_lines : ∀ (l : List Rc), (∀ r ∈ l, right r = true ∧ (body r).length + 8 < 100000000) → recs (lines l) = some l
  | [], _ => rfl
  | r :: l, h => by
    obtain ⟨h1, h2⟩ := h r (by simp)
    have hne : lines (r :: l) ≠ [] := by
      intro e
      have h3 := congrArg List.length e
      rw [lines_cons, List.length_append, line_length h2, List.length_nil] at h3
      have h4 := body_length r
      unfold lineLen at h3
      omega
    rw [recs_step hne, lines_cons, one_line h1 h2]
    have hd : (line r ++ lines l).drop (lineLen r) = lines l := by rw [List.drop_append, line_length h2, Nat.sub_self, List.drop_of_length_le (by rw [line_length h2]; exact Nat.le_refl _)]; rfl
    simp only [hd, recs_lines l (fun x hx => h x (List.mem_cons_of_mem _ hx))]
    rfl

/-- What is parsed was printed so. -/
theorem recs_some : ∀ (n : Nat) (b : List UInt8), b.length ≤ n → ∀ l, recs b = some l → b = lines l ∧ ∀ r ∈ l, right r = true
  | _, [], _, l, h => by
    rw [recs_nil] at h
    injection h with h
    subst h
    exact ⟨rfl, fun r hr => by cases hr⟩
  | 0, _ :: _, h, _, _ => by simp at h
  | n + 1, c :: b, hl, l, h => by
    rw [recs_step (by simp)] at h
    cases ho : one (c :: b) with
    | none => rw [ho] at h; cases h
    | some rn =>
      obtain ⟨r, k⟩ := rn
      rw [ho] at h
      obtain ⟨h1, h2, h3, h4⟩ := one_some ho
      dsimp only at h
      cases hr : recs ((c :: b).drop k) with
      | none => rw [hr] at h; cases h
      | some m =>
        rw [hr] at h
        injection h with h
        subst h
        obtain ⟨g1, g2⟩ := recs_some n ((c :: b).drop k) (by rw [List.length_drop]; omega) m hr
        refine ⟨?_, fun x hx => ?_⟩
        · rw [lines_cons, h2, ← g1, List.take_append_drop]
        · rcases List.mem_cons.1 hx with rfl | hx
          · exact h1
          · exact g2 x hx

end M
end Go.Proofs.YtahhgphlfodonaaDoor
