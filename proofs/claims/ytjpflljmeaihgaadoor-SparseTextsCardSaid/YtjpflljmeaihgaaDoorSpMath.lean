/-
  Plain mathematics of parts, of texts of numbers, and of files with holes: nothing of the program is spoken of.
-/
import Derived.Lib.AtoiAll
import Derived.Lib.ItoaNum
import Derived.Lib.ItoaMem
namespace Go.Proofs.YtjpflljmeaihgaaDoor
namespace M
abbrev Pt := Int × Int

/-! May parts be? -/
def walk (real : Int) : Int → Int → List Pt → Option (Int × Int)
  | e, s, [] => some (e, s)
  | e, s, p :: l => if p.1 < e ∨ p.2 < 0 ∨ real - p.1 < p.2 then none else walk real (p.1 + p.2) (s + p.2) l
def checkW (real stored : Int) : Option (Int × Int) → Int
  | none => 11
  | some (_, s) => if s = stored then 0 else 11
def check (l : List Pt) (stored real : Int) : Int :=
  if 1000 < l.length then 3 else if real < 0 ∨ 1099511627776 < real then 11 else checkW real stored (walk real 0 0 l)

theorem walk_bd {real : Int} : ∀ {l : List Pt} {e s e' s' : Int}, 0 ≤ e → e ≤ real → walk real e s l = some (e', s') → e ≤ e' ∧ e' ≤ real ∧ s ≤ s' ∧ s' - s ≤ e' - e
  | [], e, s, e', s', h0, h1, h => by
    injection h with h; injection h with h2 h3; omega
  | p :: l, e, s, e', s', h0, h1, h => by
    unfold walk at h
    split at h
    · cases h
    · have := walk_bd (l := l) (by omega) (by omega) h
      omega

/-- Their numbers are an int's. -/
def i64s (l : List Pt) : Prop := ∀ p ∈ l, (-9223372036854775808 ≤ p.1 ∧ p.1 ≤ 9223372036854775807) ∧ (-9223372036854775808 ≤ p.2 ∧ p.2 ≤ 9223372036854775807)

/-! Texts of numbers. -/
theorem parse_snoc : ∀ (l : List UInt8) (a u : Nat) (c : UInt8), Lib.parseUint10 a l = .ok u → Lib.parseUint10 a (l ++ [c]) = Lib.parseUint10 u [c]
  | [], a, u, c, h => by
    simp only [Lib.parseUint10] at h
    injection h with h; subst h; rfl
  | d :: l, a, u, c, h => by
    rw [List.cons_append]
    unfold Lib.parseUint10 at h ⊢
    split at h
    · rename_i h1
      rw [if_pos h1]
      split at h
      · cases h
      · rename_i h2
        rw [if_neg h2]
        split at h
        · cases h
        · rename_i h3
          rw [if_neg h3]
          exact parse_snoc l _ u c h
    · cases h
theorem digit_nat {d : Nat} (h : d < 10) : (UInt8.ofNat (48 + d)).toNat = 48 + d := by
  rw [UInt8.toNat_ofNat']; omega
theorem parse_dec (n : Nat) (hn : n < 9223372036854775808) : Lib.parseUint10 0 (Lib.decDigits n) = .ok n := by
  induction n using Nat.strongRecOn with
  | ind n ih =>
    by_cases h : n < 10
    · rw [Lib.decDigits_one h]
      unfold Lib.parseUint10
      rw [digit_nat h, if_pos (by omega), if_neg (by omega), if_neg (by omega)]
      simp [Lib.parseUint10]
    · rw [Lib.decDigits, dif_neg h, parse_snoc _ _ _ _ (ih (n / 10) (by omega) (by omega))]
      unfold Lib.parseUint10
      rw [digit_nat (by omega), if_pos (by omega), if_neg (by omega), if_neg (by omega)]
      simp only [Lib.parseUint10]
      congr 1
      omega
theorem dec_bytes (n : Nat) : ∀ c ∈ Lib.decDigits n, 48 ≤ c.toNat ∧ c.toNat ≤ 57 := by
  induction n using Nat.strongRecOn with
  | ind n ih =>
    intro c hc
    by_cases h : n < 10
    · rw [Lib.decDigits_one h] at hc
      obtain rfl := List.mem_singleton.1 hc
      rw [digit_nat h]; omega
    · rw [Lib.decDigits, dif_neg h, List.mem_append] at hc
      rcases hc with hc | hc
      · exact ih (n / 10) (by omega) c hc
      · obtain rfl := List.mem_singleton.1 hc
        rw [digit_nat (by omega)]; omega
theorem dec_ne (n : Nat) : Lib.decDigits n ≠ [] := by
  rw [Lib.decDigits]
  split <;> simp
theorem atoi_dec (n : Nat) (hn : n < 9223372036854775808) : Lib.atoiAll (Lib.decDigits n) = .ok (n : Int) := by
  have h1 := dec_bytes n
  have h2 := dec_ne n
  have h3 := parse_dec n hn
  revert h1 h2 h3
  generalize Lib.decDigits n = l
  intro h1 h2 h3
  cases l with
  | nil => exact absurd rfl h2
  | cons c r =>
    have hc := h1 c (by simp)
    unfold Lib.atoiAll
    simp only
    rw [if_neg (by omega)]
    unfold Lib.parseMag
    rw [if_neg (by simp), h3]
    simp only
    rw [if_neg (by omega), if_neg (by omega), if_neg (by omega)]
/-- What a text of one number tells. -/
def numE (t : List UInt8) : Lib.NumEnd Int → Option Int
  | .ok v => if t.length ≤ 13 ∧ 0 ≤ v ∧ Lib.itoa v = t then some v else none
  | _ => none
theorem numE_ok (t : List UInt8) (v : Int) : numE t (.ok v) = if t.length ≤ 13 ∧ 0 ≤ v ∧ Lib.itoa v = t then some v else none := rfl
def numOf (t : List UInt8) : Option Int := numE t (Lib.atoiAll t)
theorem numOf_long {t : List UInt8} (h : 13 < t.length) : numOf t = none := by
  unfold numOf numE
  split
  · rw [if_neg (by omega)]
  · rfl
theorem nDigits_le13 {n : Nat} (h : n < 10 ^ 13) : Lib.nDigits n ≤ 13 := by
  have key : ∀ (k n : Nat), n < 10 ^ k → 1 ≤ k → Lib.nDigits n ≤ k := by
    intro k
    induction k with
    | zero => intro n _ h; omega
    | succ k ih =>
      intro n h _
      by_cases h1 : n < 10
      · rw [Lib.nDigits_small h1]; omega
      · rw [Lib.nDigits, dif_neg h1]
        have hk : 1 ≤ k := by
          rcases Nat.eq_zero_or_pos k with h0 | h0
          · subst h0; simp at h; omega
          · exact h0
        have := ih (n / 10) (by rw [Nat.pow_succ] at h; omega) hk
        omega
  exact key 13 n h (by decide)
theorem numOf_itoa {v : Int} (h0 : 0 ≤ v) (h1 : v ≤ 9999999999999) : numOf (Lib.itoa v) = some v := by
  obtain ⟨n, rfl⟩ : ∃ n : Nat, v = n := ⟨v.toNat, by omega⟩
  unfold numOf
  rw [Lib.itoa_nonneg, atoi_dec n (by omega)]
  rw [numE_ok, if_pos ⟨by rw [Lib.decDigits_length]; exact nDigits_le13 (by omega), h0, Lib.itoa_nonneg n⟩]
theorem numOf_bd {t : List UInt8} {v : Int} (h : numOf t = some v) : 0 ≤ v ∧ v ≤ 9223372036854775807 := by
  unfold numOf numE at h
  split at h
  · rename_i u hu
    split at h
    · rename_i h2
      injection h with h
      subst h
      refine ⟨h2.2.1, ?_⟩
      unfold Lib.atoiAll at hu
      split at hu
      · cases hu
      · simp only at hu
        split at hu
        · cases hu
        · cases hu
        · split at hu
          · cases hu
          · split at hu
            · cases hu
            · injection hu with hu
              split at hu <;> omega
    · cases h
  · cases h

/-- What lies between commas. -/
def cuts : List UInt8 → List (List UInt8)
  | [] => [[]]
  | c :: l => if c = 44 then [] :: cuts l else match cuts l with
    | [] => [[c]]
    | p :: ps => (c :: p) :: ps
theorem cuts_ne (l : List UInt8) : cuts l ≠ [] := by
  cases l with
  | nil => simp [cuts]
  | cons c l =>
    unfold cuts
    split
    · simp
    · split <;> simp
theorem cuts_one {l : List UInt8} (h : ∀ c ∈ l, c ≠ 44) : cuts l = [l] := by
  induction l with
  | nil => rfl
  | cons c l ih =>
    have := ih (fun x hx => h x (List.mem_cons_of_mem _ hx))
    simp [cuts, h c, this]
theorem cuts_cut {p l : List UInt8} (h : ∀ c ∈ p, c ≠ 44) : cuts (p ++ 44 :: l) = p :: cuts l := by
  induction p with
  | nil => simp [cuts]
  | cons c p ih =>
    have := ih (fun x hx => h x (List.mem_cons_of_mem _ hx))
    simp [cuts, h c, this]
theorem cuts_app (p l : List UInt8) : cuts (p ++ 44 :: l) = cuts p ++ cuts l := by
  induction p with
  | nil => simp [cuts]
  | cons c p ih =>
    by_cases hc : c = 44
    · subst hc
      simp [cuts, ih]
    · rw [List.cons_append, cuts, if_neg hc, ih, cuts, if_neg hc]
      have := cuts_ne p
      revert this
      cases cuts p with
      | nil => intro h; exact absurd rfl h
      | cons a as => intro _; rfl
theorem cuts_len (l : List UInt8) : (cuts l).length ≤ l.length + 1 := by
  induction l with
  | nil => simp [cuts]
  | cons c l ih =>
    unfold cuts
    split
    · simp; omega
    · split
      · simp
      · rename_i p ps h
        rw [h] at ih
        simp at ih ⊢; omega

/-- Numbers, each of a text; none: one is none. -/
def nums : List (List UInt8) → Option (List Int)
  | [] => some []
  | t :: ts => match numOf t with
    | none => none
    | some v => (nums ts).map (v :: ·)
theorem nums_app : ∀ (a b : List (List UInt8)), nums (a ++ b) = (nums a).bind fun x => (nums b).map (x ++ ·)
  | [], b => by simp [nums]
  | t :: a, b => by
    rw [List.cons_append, nums, nums]
    cases numOf t with
    | none => rfl
    | some v =>
      simp only
      rw [nums_app a b]
      cases nums a with
      | none => rfl
      | some x => cases nums b <;> simp
theorem nums_len : ∀ {a : List (List UInt8)} {x : List Int}, nums a = some x → x.length = a.length
  | [], x, h => by injection h with h; subst h; rfl
  | t :: a, x, h => by
    unfold nums at h
    split at h
    · cases h
    · obtain ⟨y, hy, rfl⟩ := Option.map_eq_some_iff.1 h
      simp [nums_len hy]
/-- Two by two. -/
def pairs : List Int → List Pt
  | a :: b :: l => (a, b) :: pairs l
  | _ => []
theorem pairs_app : ∀ (l : List Int) (m : List Int), l.length % 2 = 0 → pairs (l ++ m) = pairs l ++ pairs m
  | [], m, _ => rfl
  | [a], m, h => by simp at h
  | a :: b :: l, m, h => by
    rw [List.cons_append, List.cons_append, pairs, pairs, pairs_app l m (by simp at h; omega)]; rfl
theorem pairs_len : ∀ (l : List Int), (pairs l).length = l.length / 2
  | [] => rfl
  | [a] => by simp [pairs]
  | a :: b :: l => by rw [pairs, List.length_cons, pairs_len l, List.length_cons, List.length_cons]; omega
theorem pairs_flat : ∀ (l : List Pt), pairs (l.flatMap fun p => [p.1, p.2]) = l
  | [] => rfl
  | p :: l => by
    rw [List.flatMap_cons]
    show (p.1, p.2) :: pairs (l.flatMap fun p => [p.1, p.2]) = _
    rw [pairs_flat l]
def parseN : Option (List Int) → Option (List Pt)
  | none => none
  | some ns => if ns.length % 2 = 1 ∨ 2000 < ns.length then none else some (pairs ns)
theorem parseN_some (ns : List Int) : parseN (some ns) = if ns.length % 2 = 1 ∨ 2000 < ns.length then none else some (pairs ns) := rfl
/-- Parts of a text. -/
def parse (s : List UInt8) : Option (List Pt) := if s = [] then some [] else parseN (nums (cuts s))

/-! Numbers told. -/
def clip13 (n : Int) : Int := min (max n 0) 9999999999999
def numT (n : Int) : List UInt8 := Lib.itoa (clip13 n)
def ptT (p : Pt) : List UInt8 := numT p.1 ++ 44 :: numT p.2
def print : List Pt → List UInt8
  | [] => []
  | [p] => ptT p
  | p :: q :: l => ptT p ++ 44 :: print (q :: l)
theorem print_snoc : ∀ (l : List Pt) (p : Pt), print (l ++ [p]) = if l = [] then ptT p else print l ++ 44 :: ptT p
  | [], p => by simp [print]
  | [q], p => by simp [print]
  | q :: r :: l, p => by
    have ih := print_snoc (r :: l) p
    rw [if_neg (by simp)] at ih
    rw [if_neg (by simp), List.cons_append]
    show ptT q ++ 44 :: print ((r :: l) ++ [p]) = (ptT q ++ 44 :: print (r :: l)) ++ 44 :: ptT p
    rw [ih]; simp
theorem numT_plain (n : Int) : ∀ c ∈ numT n, c ≠ 44 := by
  intro c hc
  unfold numT at hc
  obtain ⟨k, hk⟩ : ∃ k : Nat, clip13 n = k := ⟨(clip13 n).toNat, by unfold clip13; omega⟩
  rw [hk, Lib.itoa_nonneg] at hc
  have := dec_bytes k c hc
  intro e; subst e
  simp at this
theorem numT_len (n : Int) : (numT n).length ≤ 13 := by
  unfold numT
  obtain ⟨k, hk⟩ : ∃ k : Nat, clip13 n = k := ⟨(clip13 n).toNat, by unfold clip13; omega⟩
  rw [hk, Lib.itoa_nonneg, Lib.decDigits_length]
  exact nDigits_le13 (by unfold clip13 at hk; omega)
theorem print_len : ∀ (l : List Pt), (print l).length ≤ 28 * l.length
  | [] => by simp [print]
  | [p] => by
    have h1 := numT_len p.1; have h2 := numT_len p.2
    simp [print, ptT]; omega
  | p :: q :: l => by
    have ih := print_len (q :: l)
    have h1 := numT_len p.1; have h2 := numT_len p.2
    simp only [print, ptT, List.length_append, List.length_cons] at ih ⊢; omega
def small (l : List Pt) : Prop := ∀ p ∈ l, (0 ≤ p.1 ∧ p.1 ≤ 9999999999999) ∧ (0 ≤ p.2 ∧ p.2 ≤ 9999999999999)
theorem nums_one {p : Pt} (hs : (0 ≤ p.1 ∧ p.1 ≤ 9999999999999) ∧ (0 ≤ p.2 ∧ p.2 ≤ 9999999999999)) : nums (cuts (ptT p)) = some [p.1, p.2] := by
  obtain ⟨⟨a0, a1⟩, b0, b1⟩ := hs
  have e1 : clip13 p.1 = p.1 := by unfold clip13; omega
  have e2 : clip13 p.2 = p.2 := by unfold clip13; omega
  have n1 : numOf (numT p.1) = some p.1 := by unfold numT; rw [e1]; exact numOf_itoa a0 a1
  have n2 : numOf (numT p.2) = some p.2 := by unfold numT; rw [e2]; exact numOf_itoa b0 b1
  rw [ptT, cuts_cut (numT_plain _), cuts_one (numT_plain _)]
  simp [nums, n1, n2]
theorem nums_print : ∀ (l : List Pt), small l → l ≠ [] → nums (cuts (print l)) = some (l.flatMap fun p => [p.1, p.2])
  | [], _, h => absurd rfl h
  | [p], hs, _ => by
    rw [print, nums_one (hs p (by simp))]; rfl
  | p :: q :: l, hs, _ => by
    have ih := nums_print (q :: l) (fun x hx => hs x (List.mem_cons_of_mem _ hx)) (by simp)
    rw [print, cuts_app, nums_app, ih, nums_one (hs p (by simp))]
    rfl
theorem print_ne {l : List Pt} (h : l ≠ []) : print l ≠ [] := by
  match l, h with
  | [p], _ => simp [print, ptT]
  | p :: q :: l, _ => simp [print, ptT]
theorem parse_print {l : List Pt} (hs : small l) (hl : l.length ≤ 1000) : parse (print l) = some l := by
  by_cases h : l = []
  · subst h; rfl
  · unfold parse
    rw [if_neg (print_ne h), nums_print l hs h]
    have e : (l.flatMap fun p => [p.1, p.2]).length = 2 * l.length := by
      clear hs hl h
      induction l with
      | nil => rfl
      | cons p l ih => rw [List.flatMap_cons, List.length_append, ih]; simp; omega
    rw [parseN_some, if_neg (by rw [e]; omega), pairs_flat]

/-! Files with holes. -/
def zeros (n : Nat) : List Int := List.replicate n 0
/-- What a file has from a place on: parts, what they have. -/
def fileAt (real : Nat) : Nat → List Pt → List Int → List Int
  | e, [], _ => zeros (real - e)
  | e, p :: l, d => zeros (p.1.toNat - e) ++ d.take p.2.toNat ++ fileAt real (p.1.toNat + p.2.toNat) l (d.drop p.2.toNat)
def file (real : Nat) (l : List Pt) (d : List Int) : List Int := fileAt real 0 l d

/-! Rows of blocks. -/
def blank (x : List Int) : Bool := x.all (· == 0)
def rowEnd (f t : Nat) : List Pt := if t ≤ f then [] else [((f : Int), ((t - f : Nat) : Int))]
def rowsAt (b : List Int) (f a : Nat) : List Pt :=
  if h : a < b.length then
    (if blank ((b.drop a).take 512) = true then rowEnd f a ++ rowsAt b (a + 512) (a + 512) else rowsAt b f (a + 512))
  else rowEnd f b.length
termination_by b.length - a
decreasing_by all_goals omega
def rows (b : List Int) : List Pt := rowsAt b 0 0
/-- What parts have. -/
def had (b : List Int) (l : List Pt) : List Int := l.flatMap fun p => (b.drop p.1.toNat).take p.2.toNat

/-! Parts of which so many bytes are there. -/
def front : List Pt → Int → List Pt
  | [], _ => []
  | p :: l, n => if 0 < n then (p.1, min p.2 n) :: front l (n - min p.2 n) else []
end M
end Go.Proofs.YtjpflljmeaihgaaDoor
