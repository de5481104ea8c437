/-
  Plain mathematics of merged records: what is found, what is put in its place, over whatever order of keys that is one.
-/
import Derived.Test.YtefkgkdocglgaaaDoorPaxMath
namespace Go.Proofs.YtefkgkdocglgaaaDoor
namespace M

/-- The value of the last record of a key. -/
def find (l : List Rc) (k : List UInt8) : Option (List UInt8) := l.foldl (fun a r => if r.1 = k then some r.2 else a) none

theorem find_nil (k : List UInt8) : find [] k = none := rfl
theorem foldl_find (l : List Rc) (k : List UInt8) (a : Option (List UInt8)) : l.foldl (fun a r => if r.1 = k then some r.2 else a) a = (find l k).or a := by
  induction l generalizing a with
  | nil => simp [find]
  | cons r l ih =>
    have e : find (r :: l) k = (find l k).or (if r.1 = k then some r.2 else none) := by
      unfold find
      rw [List.foldl_cons, ih]
      rfl
    rw [List.foldl_cons, ih, e]
    by_cases h : r.1 = k
    · simp only [h, if_true]
      cases find l k <;> rfl
    · simp only [h, if_false]
      cases find l k <;> rfl
theorem find_cons (r : Rc) (l : List Rc) (k : List UInt8) : find (r :: l) k = (find l k).or (if r.1 = k then some r.2 else none) := by
  have := foldl_find l k (if r.1 = k then some r.2 else none)
  unfold find at this ⊢
  rw [List.foldl_cons]
  exact this
theorem find_app (l m : List Rc) (k : List UInt8) : find (l ++ m) k = (find m k).or (find l k) := by
  unfold find
  rw [List.foldl_append]
  exact foldl_find m k _
theorem find_snoc (l : List Rc) (r : Rc) (k : List UInt8) : find (l ++ [r]) k = if r.1 = k then some r.2 else find l k := by
  rw [find_app, find_cons, find_nil]
  by_cases h : r.1 = k <;> simp [h]

/-- An order of keys. -/
structure Ord (lt : List UInt8 → List UInt8 → Bool) : Prop where
  irr : ∀ a, lt a a = false
  tr : ∀ a b c, lt a b = true → lt b c = true → lt a c = true
  tot : ∀ a b, lt a b = false → lt b a = false → a = b

/-- Keys that rise. -/
def Rising (lt : List UInt8 → List UInt8 → Bool) : List Rc → Prop
  | [] => True
  | r :: l => (∀ x ∈ l, lt r.1 x.1 = true) ∧ Rising lt l

section
variable {lt : List UInt8 → List UInt8 → Bool} (O : Ord lt)

/-- A record in its place, in place of one of its key. -/
def put (lt : List UInt8 → List UInt8 → Bool) : List Rc → Rc → List Rc
  | [], r => [r]
  | x :: l, r => if lt x.1 r.1 then x :: put lt l r else if x.1 = r.1 then r :: l else r :: x :: l

theorem put_mem {l : List Rc} {r y : Rc} (h : y ∈ put lt l r) : y = r ∨ y ∈ l := by
  induction l with
  | nil => simp [put] at h; exact .inl h
  | cons x l ih =>
    unfold put at h
    split at h
    · rcases List.mem_cons.1 h with rfl | h
      · exact .inr (by simp)
      · rcases ih h with h | h
        · exact .inl h
        · exact .inr (List.mem_cons_of_mem _ h)
    · split at h
      · rcases List.mem_cons.1 h with rfl | h
        · exact .inl rfl
        · exact .inr (List.mem_cons_of_mem _ h)
      · rcases List.mem_cons.1 h with rfl | h
        · exact .inl rfl
        · exact .inr h

include O in
theorem put_rising {l : List Rc} (r : Rc) (h : Rising lt l) : Rising lt (put lt l r) := by
  induction l with
  | nil => exact ⟨by simp, trivial⟩
  | cons x l ih =>
    unfold put
    split
    · rename_i h1
      refine ⟨fun y hy => ?_, ih h.2⟩
      rcases put_mem hy with rfl | hy
      · exact h1
      · exact h.1 y hy
    · rename_i h1
      have h1' : lt x.1 r.1 = false := by simpa using h1
      split
      · rename_i h2
        exact ⟨fun y hy => by rw [← h2]; exact h.1 y hy, h.2⟩
      · rename_i h2
        have h3 : lt r.1 x.1 = true := by
          cases h4 : lt r.1 x.1 with
          | true => rfl
          | false => exact absurd (O.tot _ _ h1' h4) h2
        refine ⟨fun y hy => ?_, h⟩
        rcases List.mem_cons.1 hy with rfl | hy
        · exact h3
        · exact O.tr _ _ _ h3 (h.1 y hy)

include O in
theorem find_none_of_rising {l : List Rc} {k : List UInt8} (h : ∀ x ∈ l, lt k x.1 = true) : find l k = none := by
  induction l with
  | nil => rfl
  | cons x l ih =>
    rw [find_cons, ih fun y hy => h y (List.mem_cons_of_mem _ hy)]
    have : x.1 ≠ k := by
      rintro e
      have := h x (by simp)
      rw [e, O.irr] at this
      cases this
    simp [this]

include O in
theorem find_put {l : List Rc} (r : Rc) (h : Rising lt l) (k : List UInt8) : find (put lt l r) k = if r.1 = k then some r.2 else find l k := by
  induction l with
  | nil => simp [put, find]
  | cons x l ih =>
    unfold put
    split
    · rename_i h1
      rw [find_cons, ih h.2, find_cons]
      by_cases hk : r.1 = k
      · simp [hk]
      · simp [hk]
    · rename_i h1
      have h1' : lt x.1 r.1 = false := by simpa using h1
      split
      · rename_i h2
        rw [find_cons, find_cons]
        by_cases hk : r.1 = k
        · have hn : find l k = none := find_none_of_rising O (fun y hy => by rw [← hk, ← h2]; exact h.1 y hy)
          simp [hk, hn]
        · have : x.1 ≠ k := by rw [h2]; exact hk
          simp [hk, this]
      · rename_i h2
        have h3 : lt r.1 x.1 = true := by
          cases h4 : lt r.1 x.1 with
          | true => rfl
          | false => exact absurd (O.tot _ _ h1' h4) h2
        rw [find_cons]
        by_cases hk : r.1 = k
        · have hn : find (x :: l) k = none := find_none_of_rising O (fun y hy => by
            rw [← hk]
            rcases List.mem_cons.1 hy with rfl | hy
            · exact h3
            · exact O.tr _ _ _ h3 (h.1 y hy))
          simp [hk, hn]
        · simp [hk]

/-- All of some, one behind the other, each in its place. -/
def puts (lt : List UInt8 → List UInt8 → Bool) (l m : List Rc) : List Rc := m.foldl (put lt) l

include O in
theorem puts_rising (m : List Rc) : ∀ (l : List Rc), Rising lt l → Rising lt (puts lt l m) := by
  induction m with
  | nil => intro l h; exact h
  | cons r m ih => intro l h; exact ih _ (put_rising O r h)

include O in
theorem find_puts (m : List Rc) : ∀ (l : List Rc), Rising lt l → ∀ k, find (puts lt l m) k = (find m k).or (find l k) := by
  induction m with
  | nil => intro l _ k; simp [puts, find_nil]
  | cons r m ih =>
    intro l h k
    show find (puts lt (put lt l r) m) k = _
    rw [ih _ (put_rising O r h), find_put O r h, find_cons]
    by_cases hk : r.1 = k
    · simp only [hk, if_true]; cases find m k <;> rfl
    · simp only [hk, if_false]; cases find m k <;> rfl

theorem rising_filter (p : Rc → Bool) {l : List Rc} (h : Rising lt l) : Rising lt (l.filter p) := by
  induction l with
  | nil => exact h
  | cons r l ih =>
    rw [List.filter_cons]
    split
    · exact ⟨fun x hx => h.1 x (List.mem_filter.1 hx).1, ih h.2⟩
    · exact ih h.2

def hasValue (r : Rc) : Bool := !r.2.isEmpty
def noEmpty (v : List UInt8) : Bool := !v.isEmpty

include O in
theorem find_filter {l : List Rc} (h : Rising lt l) (k : List UInt8) : find (l.filter hasValue) k = (find l k).filter noEmpty := by
  induction l with
  | nil => rfl
  | cons r l ih =>
    rw [List.filter_cons, find_cons]
    by_cases hk : r.1 = k
    · have hn : find l k = none := find_none_of_rising O (fun y hy => by rw [← hk]; exact h.1 y hy)
      have hn2 : find (l.filter hasValue) k = none := by rw [ih h.2, hn]; rfl
      have hf : Option.filter noEmpty (some r.2) = if hasValue r = true then some r.2 else none := rfl
      rw [hn, if_pos hk, Option.none_or, hf]
      split
      · rw [find_cons, hn2, if_pos hk, Option.none_or]
      · exact hn2
    · rw [if_neg hk, Option.or_none]
      split
      · rw [find_cons, ih h.2, if_neg hk, Option.or_none]
      · exact ih h.2

/-- Others over some. -/
def merge (lt : List UInt8 → List UInt8 → Bool) (l over : List Rc) : List Rc := (puts lt (puts lt [] l) over).filter hasValue

include O in
theorem merge_rising (l m : List Rc) : Rising lt (merge lt l m) := rising_filter _ (puts_rising O _ _ (puts_rising O _ _ trivial))
include O in
theorem find_merge (l m : List Rc) (k : List UInt8) : find (merge lt l m) k = ((find m k).or (find l k)).filter noEmpty := by
  unfold merge
  have h0 : Rising lt [] := trivial
  rw [find_filter O (puts_rising O _ _ (puts_rising O _ _ h0)), find_puts O _ _ (puts_rising O _ _ h0), find_puts O _ _ h0, find_nil, Option.or_none]
theorem merge_values (l m : List Rc) : ∀ r ∈ merge lt l m, r.2 ≠ [] := by
  intro r hr
  have := (List.mem_filter.1 hr).2
  unfold hasValue at this
  simpa using this

include O in
theorem find_mem_rising {l : List Rc} (h : Rising lt l) {r : Rc} (hr : r ∈ l) : find l r.1 = some r.2 := by
  induction l with
  | nil => cases hr
  | cons x l ih =>
    rw [find_cons]
    rcases List.mem_cons.1 hr with rfl | hr
    · rw [find_none_of_rising O h.1]; simp
    · rw [ih h.2 hr]; rfl
theorem mem_of_find {l : List Rc} {k v : List UInt8} (h : find l k = some v) : (k, v) ∈ l := by
  induction l with
  | nil => cases h
  | cons x l ih =>
    rw [find_cons] at h
    cases hf : find l k with
    | some u =>
      rw [hf] at h
      exact List.mem_cons_of_mem _ (ih (by rw [hf]; exact h))
    | none =>
      rw [hf] at h
      by_cases hx : x.1 = k
      · simp only [hx, if_true] at h
        injection h with h
        have : x = (k, v) := by rw [← hx, ← h]
        rw [this]; simp
      · simp [hx] at h

include O in
/-- Rising records are what is found in them. -/
theorem rising_ext : ∀ {l m : List Rc}, Rising lt l → Rising lt m → (∀ k, find l k = find m k) → l = m
  | [], [], _, _, _ => rfl
  | [], y :: m, _, hm, h => by
    have h1 := find_mem_rising O hm (r := y) (by simp)
    rw [← h, find_nil] at h1
    cases h1
  | x :: l, [], hl, _, h => by
    have h1 := find_mem_rising O hl (r := x) (by simp)
    rw [h, find_nil] at h1
    cases h1
  | x :: l, y :: m, hl, hm, h => by
    have hx := find_mem_rising O hl (r := x) (by simp)
    have hy := find_mem_rising O hm (r := y) (by simp)
    rw [h] at hx
    rw [← h] at hy
    have mx := mem_of_find hx
    have my := mem_of_find hy
    have exy : x = y := by
      rcases List.mem_cons.1 mx with mx | mx
      · exact mx
      · rcases List.mem_cons.1 my with my | my
        · exact my.symm
        · have a := hm.1 _ mx
          have b := hl.1 _ my
          have c := O.tr _ _ _ a b
          rw [O.irr] at c
          cases c
    subst exy
    congr 1
    refine rising_ext hl.2 hm.2 (fun k => ?_)
    have hk := h k
    rw [find_cons, find_cons] at hk
    by_cases e : x.1 = k
    · rw [find_none_of_rising O (fun y hy => by rw [← e]; exact hl.1 y hy), find_none_of_rising O (fun y hy => by rw [← e]; exact hm.1 y hy)]
    · simpa [e] using hk

theorem puts_app (l a b : List Rc) : puts lt l (a ++ b) = puts lt (puts lt l a) b := by simp [puts]
/-- Merged with nothing: the last of each key. -/
theorem merge_app (l m : List Rc) : merge lt (l ++ m) [] = merge lt l m := by
  unfold merge
  rw [puts_app]
  rfl

include O in
theorem merge_self {m : List Rc} (h : Rising lt m) (hv : ∀ r ∈ m, r.2 ≠ []) : merge lt m [] = m ∧ merge lt [] m = m := by
  have key : ∀ k, (find m k).filter noEmpty = find m k := by
    intro k
    cases hf : find m k with
    | none => rfl
    | some v =>
      have := hv _ (mem_of_find hf)
      have : noEmpty v = true := by simpa [noEmpty] using this
      simp [Option.filter, this]
  constructor
  · refine rising_ext O (merge_rising O _ _) h (fun k => ?_)
    rw [find_merge O, find_nil, Option.none_or, key]
  · refine rising_ext O (merge_rising O _ _) h (fun k => ?_)
    rw [find_merge O, find_nil, Option.or_none, key]

include O in
/-- What is over counts, again. -/
theorem merge_over (l o : List Rc) : merge lt (merge lt l o) o = merge lt l o := by
  refine rising_ext O (merge_rising O _ _) (merge_rising O _ _) (fun k => ?_)
  rw [find_merge O, find_merge O]
  cases hf : find o k with
  | none =>
    rw [Option.none_or, Option.none_or]
    cases find l k with
    | none => rfl
    | some v => by_cases hv : noEmpty v = true <;> simp [Option.filter, hv]
  | some v => rfl

include O in
theorem merge_find {l o : List Rc} {r : Rc} (hr : r ∈ merge lt l o) {v : List UInt8} (hv : find o r.1 = some v) : v = r.2 := by
  have h1 := find_mem_rising O (merge_rising O l o) hr
  rw [find_merge O, hv] at h1
  have hf : Option.filter noEmpty (some v) = if noEmpty v = true then some v else none := rfl
  rw [Option.some_or, hf] at h1
  split at h1
  · injection h1
  · cases h1
end
end M
end Go.Proofs.YtefkgkdocglgaaaDoor
