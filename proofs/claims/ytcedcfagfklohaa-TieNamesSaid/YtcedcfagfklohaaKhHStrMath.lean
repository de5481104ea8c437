/-
  Plain mathematics of texts and paths, over lists of bytes: nothing of the program is spoken of.
-/
import Derived.Lib.Bytealg
import Derived.Lib.Strings
set_option linter.unusedVariables false
set_option linter.unusedSimpArgs false
namespace Go.Proofs.Ytcedcfagfklohaa.Hd.S
namespace M

/-- What lies between slashes. -/
def parts : List UInt8 → List (List UInt8)
  | [] => [[]]
  | c :: l => if c = 47 then [] :: parts l else match parts l with
    | [] => [[c]]
    | p :: ps => (c :: p) :: ps

/-- A part that leads somewhere. -/
def leads (p : List UInt8) : Bool := !(p == []) && !(p == [46])
/-- A path's names. -/
def names (l : List UInt8) : List (List UInt8) := (parts l).filter leads
/-- Names, a slash between. -/
def join : List (List UInt8) → List UInt8
  | [] => []
  | [p] => p
  | p :: q :: ps => p ++ 47 :: join (q :: ps)
/-- The path of the names. -/
def clean (l : List UInt8) : List UInt8 × Bool :=
  if [47].isPrefixOf l then ([], false) else if (names l).contains [46, 46] then ([], false) else (join (names l), true)

theorem parts_ne (l : List UInt8) : parts l ≠ [] := by
  cases l with
  | nil => simp [parts]
  | cons c l =>
    unfold parts
    split
    · simp
    · split <;> simp

theorem parts_one {l : List UInt8} (h : ∀ c ∈ l, c ≠ 47) : parts l = [l] := by
  induction l with
  | nil => rfl
  | cons c l ih =>
    have := ih (fun x hx => h x (List.mem_cons_of_mem _ hx))
    simp [parts, h c, this]

theorem parts_cut {p l : List UInt8} (h : ∀ c ∈ p, c ≠ 47) : parts (p ++ 47 :: l) = p :: parts l := by
  induction p with
  | nil => simp [parts]
  | cons c p ih =>
    have := ih (fun x hx => h x (List.mem_cons_of_mem _ hx))
    simp [parts, h c, this]

/-- Two texts, a slash between. -/
theorem parts_app (p l : List UInt8) : parts (p ++ 47 :: l) = parts p ++ parts l := by
  induction p with
  | nil => simp [parts]
  | cons c p ih =>
    by_cases hc : c = 47
    · subst hc
      simp [parts, ih]
    · rw [List.cons_append, parts, if_neg hc, ih, parts, if_neg hc]
      have := parts_ne p
      revert this
      cases parts p with
      | nil => intro h; exact absurd rfl h
      | cons a as => intro _; rfl

theorem names_app (p l : List UInt8) : names (p ++ 47 :: l) = names p ++ names l := by simp [names, parts_app]

theorem no_slash_of_part : ∀ (l : List UInt8), ∀ p ∈ parts l, ∀ c ∈ p, c ≠ 47
  | [], p, hp, c, hc => by simp [parts] at hp; subst hp; cases hc
  | d :: l, p, hp, c, hc => by
    unfold parts at hp
    split at hp
    · rcases List.mem_cons.1 hp with rfl | hp
      · cases hc
      · exact no_slash_of_part l p hp c hc
    · rename_i hd
      have ih := no_slash_of_part l
      revert hp ih
      cases parts l with
      | nil => intro hp _; simp at hp; subst hp; simp at hc; subst hc; exact hd
      | cons a as =>
        intro hp ih
        rcases List.mem_cons.1 hp with rfl | hp
        · rcases List.mem_cons.1 hc with rfl | hc
          · exact hd
          · exact ih a (by simp) c hc
        · exact ih p (List.mem_cons_of_mem _ hp) c hc

theorem leads_iff {p : List UInt8} : leads p = true ↔ p ≠ [] ∧ p ≠ [46] := by simp [leads]

theorem names_spec {l p : List UInt8} (h : p ∈ names l) : p ≠ [] ∧ p ≠ [46] ∧ ∀ c ∈ p, c ≠ 47 := by
  unfold names at h
  rw [List.mem_filter, leads_iff] at h
  exact ⟨h.2.1, h.2.2, no_slash_of_part l p h.1⟩

/-- Names that are some are the names of their path. -/
theorem names_join : ∀ (ps : List (List UInt8)), (∀ p ∈ ps, p ≠ [] ∧ p ≠ [46] ∧ ∀ c ∈ p, c ≠ 47) → names (join ps) = ps
  | [], _ => by simp [join, names, parts, leads]
  | [p], h => by
    obtain ⟨h1, h2, h3⟩ := h p (by simp)
    simp [join, names, parts_one h3, leads, h1, h2]
  | p :: q :: ps, h => by
    obtain ⟨h1, h2, h3⟩ := h p (by simp)
    have ih := names_join (q :: ps) (fun x hx => h x (List.mem_cons_of_mem _ hx))
    rw [join, names_app, ih]
    simp [names, parts_one h3, leads, h1, h2]

theorem join_head {ps : List (List UInt8)} (h : ∀ p ∈ ps, p ≠ [] ∧ p ≠ [46] ∧ ∀ c ∈ p, c ≠ 47) : [47].isPrefixOf (join ps) = false := by
  have key : ∀ (p t : List UInt8), p ≠ [] → (∀ c ∈ p, c ≠ 47) → [47].isPrefixOf (p ++ t) = false := by
    intro p t h1 h3
    cases p with
    | nil => exact absurd rfl h1
    | cons c p => have := h3 c (by simp); simp [List.isPrefixOf]; exact fun e => this e.symm
  match ps, h with
  | [], _ => rfl
  | [p], h =>
    obtain ⟨h1, _, h3⟩ := h p (by simp)
    have := key p [] h1 h3
    simpa [join] using this
  | p :: q :: ps, h =>
    obtain ⟨h1, _, h3⟩ := h p (by simp)
    exact key p _ h1 h3

/-- What is clean stays. -/
theorem clean_again {l a : List UInt8} (h : clean l = (a, true)) : clean a = (a, true) ∧ names a = names l ∧ a = join (names l) ∧ (names l).contains [46, 46] = false ∧ [47].isPrefixOf a = false := by
  unfold clean at h
  split at h
  · cases h
  · split at h
    · cases h
    · rename_i h1 h2
      injection h with h _
      subst h
      have hs : ∀ p ∈ names l, p ≠ [] ∧ p ≠ [46] ∧ ∀ c ∈ p, c ≠ 47 := fun p hp => names_spec hp
      have hn := names_join (names l) hs
      have hh := join_head hs
      refine ⟨?_, hn, rfl, by simpa using h2, hh⟩
      unfold clean
      rw [hn, hh, if_neg (by simp), if_neg h2]

theorem clean_no {l a : List UInt8} (h : clean l = (a, false)) : a = [] := by
  unfold clean at h
  split at h
  · injection h with h; exact h.symm
  · split at h
    · injection h with h; exact h.symm
    · cases h

/-- The place of the first slash. -/
theorem cut_some {l : List UInt8} {k : Nat} (h : Lib.indexByte l 47 = (k : Int)) : k < l.length ∧ parts l = l.take k :: parts (l.drop (k + 1)) := by
  induction l generalizing k with
  | nil => simp [Lib.indexByte] at h
  | cons c l ih =>
    unfold Lib.indexByte at h
    split at h
    · rename_i hc
      have hc' : c = 47 := by simpa using hc
      obtain rfl : k = 0 := by omega
      subst hc'
      simp [parts]
    · rename_i hc
      split at h
      · omega
      · obtain ⟨j, rfl⟩ : ∃ j, k = j + 1 := by
          rcases k with _ | j
          · exfalso
            rename_i hne
            have : Lib.indexByte l 47 = -1 := by omega
            simp [this] at hne
          · exact ⟨j, rfl⟩
        obtain ⟨h1, h2⟩ := ih (k := j) (by omega)
        have hc' : c ≠ 47 := by simpa using hc
        refine ⟨by simp; omega, ?_⟩
        simp [parts, hc', h2]

theorem indexByte_ge (l : List UInt8) (c : UInt8) : -1 ≤ Lib.indexByte l c ∧ Lib.indexByte l c < l.length := by
  induction l with
  | nil => simp [Lib.indexByte]
  | cons b l ih =>
    unfold Lib.indexByte
    simp only [List.length_cons]
    split
    · omega
    · split <;> omega

theorem not_mem_of_indexByte {l : List UInt8} {c : UInt8} (h : Lib.indexByte l c = -1) : ∀ x ∈ l, x ≠ c := by
  induction l with
  | nil => intro x hx; cases hx
  | cons b l ih =>
    unfold Lib.indexByte at h
    have hg := (indexByte_ge l c).1
    split at h
    · omega
    · rename_i hb
      split at h
      · rename_i h1
        intro x hx
        rcases List.mem_cons.1 hx with rfl | hx
        · simpa using hb
        · exact ih (by simpa using h1) x hx
      · rename_i h1
        exfalso
        have : Lib.indexByte l c ≠ -1 := by simpa using h1
        omega

theorem cut_none {l : List UInt8} (h : Lib.indexByte l 47 = -1) : parts l = [l] := parts_one (not_mem_of_indexByte h)

theorem parts_length (l : List UInt8) : (parts l).length ≤ l.length + 1 := by
  induction l with
  | nil => simp [parts]
  | cons c l ih =>
    unfold parts
    split
    · simp; exact ih
    · revert ih
      cases parts l with
      | nil => intro _; simp
      | cons a as => intro ih; simp at ih ⊢; omega

theorem names_length (l : List UInt8) : (names l).length ≤ l.length + 1 := Nat.le_trans (List.length_filter_le _ _) (parts_length l)

theorem joinlen_parts : ∀ (l : List UInt8), ((parts l).map List.length).sum + (parts l).length = l.length + 1
  | [] => by simp [parts]
  | c :: l => by
    have ih := joinlen_parts l
    unfold parts
    split
    · simp; omega
    · have := parts_ne l
      revert ih this
      cases parts l with
      | nil => intro _ h; exact absurd rfl h
      | cons a as => intro ih _; simp at ih ⊢; omega

theorem parts_tail {a b : List UInt8} {xs : List (List UInt8)} (h : parts a = xs ++ parts b) : b.length ≤ a.length := by
  have h1 := joinlen_parts a
  have h2 := joinlen_parts b
  rw [h] at h1
  simp at h1
  omega

theorem join_length (ps : List (List UInt8)) : (join ps).length ≤ (ps.map List.length).sum + ps.length := by
  match ps with
  | [] => simp [join]
  | [p] => simp [join]
  | p :: q :: ps =>
    have := join_length (q :: ps)
    simp [join] at this ⊢
    omega

theorem sum_filter (f : List UInt8 → Bool) : ∀ ps : List (List UInt8), ((ps.filter f).map List.length).sum + (ps.filter f).length ≤ (ps.map List.length).sum + ps.length
  | [] => by simp
  | p :: ps => by
    have := sum_filter f ps
    rw [List.filter_cons]
    split <;> simp <;> omega

theorem join_names_length (l : List UInt8) : (join (names l)).length ≤ l.length + 1 := by
  have h1 := join_length (names l)
  have h2 := sum_filter leads (parts l)
  have h3 := joinlen_parts l
  unfold names at h1 ⊢
  omega

/-- One name more. -/
theorem join_snoc (ps : List (List UInt8)) (q : List UInt8) : join (ps ++ [q]) = if ps = [] then q else join ps ++ 47 :: q := by
  induction ps with
  | nil => rfl
  | cons p ps ih =>
    cases ps with
    | nil => simp [join]
    | cons r rs =>
      rw [List.cons_append, List.cons_append, join, ← List.cons_append, ih]
      simp [join]

end M
end Go.Proofs.Ytcedcfagfklohaa.Hd.S
