/-
  Plain mathematics of UTF-8, over lists of bytes: the characters as the document tells them, and what the language's own decoder makes of them.
-/
import Derived.Test.YtcedcfagfklohaaKhHStrMath
import GoSem.Core.Utf8
set_option linter.unusedVariables false
set_option linter.unusedSimpArgs false
namespace Go.Proofs.Ytcedcfagfklohaa.Hd.S
namespace M

/-- The k-th byte as a number. -/
def at' (l : List UInt8) (k : Nat) : Nat := (l.getD k 0).toNat
/-- Is there a byte at k, from lo to hi? -/
def tail (l : List UInt8) (k lo hi : Nat) : Bool := decide (k < l.length) && decide (lo ≤ at' l k) && decide (at' l k ≤ hi)

def lo (c : Nat) : Nat := if c = 224 then 160 else if c = 240 then 144 else 128
def hi (c : Nat) : Nat := if c = 237 then 159 else if c = 244 then 143 else 191
def two (l : List UInt8) : Bool := tail l 1 (lo (at' l 0)) (hi (at' l 0)) && tail l 2 128 191

/-- How many bytes the character at the begin has; 0: there is none. -/
def long (l : List UInt8) : Nat :=
  if at' l 0 < 128 then 1
  else if at' l 0 ≥ 194 ∧ at' l 0 ≤ 223 ∧ tail l 1 128 191 = true then 2
  else if at' l 0 ≥ 224 ∧ at' l 0 ≤ 239 ∧ two l = true then 3
  else if at' l 0 ≥ 240 ∧ at' l 0 ≤ 244 ∧ two l = true ∧ tail l 3 128 191 = true then 4
  else 0

theorem long_le (l : List UInt8) : long l ≤ 4 := by
  unfold long
  repeat' split
  all_goals omega

theorem tail_iff (l : List UInt8) (k lo hi : Nat) : tail l k lo hi = true ↔ k < l.length ∧ lo ≤ at' l k ∧ at' l k ≤ hi := by
  simp [tail, and_assoc]

theorem long_fits {l : List UInt8} (h : l ≠ []) : long l ≤ l.length := by
  have hl : 1 ≤ l.length := by cases l; exact absurd rfl h; simp
  unfold long two
  simp only [Bool.and_eq_true, tail_iff]
  repeat' split
  all_goals omega

/-- Is it UTF-8? (fuel: how many bytes) -/
def utfN : Nat → List UInt8 → Bool
  | _, [] => true
  | 0, _ => true
  | n + 1, l => if long l = 0 then false else utfN n (l.drop (long l))
def utf (l : List UInt8) : Bool := utfN l.length l

theorem utfN_fuel : ∀ (n m : Nat) (l : List UInt8), l.length ≤ n → l.length ≤ m → utfN n l = utfN m l
  | 0, m, l, h, _ => by
    obtain rfl : l = [] := List.eq_nil_of_length_eq_zero (by omega)
    cases m <;> rfl
  | n + 1, 0, l, _, h => by
    obtain rfl : l = [] := List.eq_nil_of_length_eq_zero (by omega)
    rfl
  | n + 1, m + 1, [], _, _ => rfl
  | n + 1, m + 1, c :: l, h1, h2 => by
    simp only [utfN]
    split
    · rfl
    · simp at h1 h2
      exact utfN_fuel n m _ (by simp; omega) (by simp; omega)

theorem utf_nil : utf [] = true := rfl
theorem utf_step {l : List UInt8} (h : l ≠ []) : utf l = if long l = 0 then false else utf (l.drop (long l)) := by
  cases l with
  | nil => exact absurd rfl h
  | cons c l =>
    unfold utf
    simp only [List.length_cons, utfN]
    split
    · rfl
    · exact utfN_fuel _ _ _ (by simp; omega) (by simp)

/-- The language's decoder at the begin of a list. -/
def dec (l : List UInt8) : Nat × Nat :=
  let cont (k : Nat) : Bool := decide (k < l.length) && at' l k / 64 == 2
  let b0 := at' l 0
  if b0 < 128 then (b0, 1)
  else if b0 / 32 == 6 && cont 1 then
    let c := (b0 % 32) * 64 + at' l 1 % 64
    if c ≥ 128 then (c, 2) else (65533, 1)
  else if b0 / 16 == 14 && cont 1 && cont 2 then
    let c := (b0 % 16) * 4096 + (at' l 1 % 64) * 64 + at' l 2 % 64
    if c ≥ 2048 && Utf8.valid c then (c, 3) else (65533, 1)
  else if b0 / 8 == 30 && cont 1 && cont 2 && cont 3 then
    let c := (b0 % 8) * 262144 + (at' l 1 % 64) * 4096 + (at' l 2 % 64) * 64 + at' l 3 % 64
    if c ≥ 65536 && Utf8.valid c then (c, 4) else (65533, 1)
  else (65533, 1)

theorem get_drop (s : ByteArray) (i k : Nat) : (s.get! (i + k)).toNat = at' (s.data.toList.drop i) k := by
  unfold at' ByteArray.get!
  rw [List.getD_eq_getElem?_getD, List.getElem?_drop]
  show (s.data[i + k]!).toNat = _
  rw [Array.getElem!_eq_getD, Array.getD_eq_getD_getElem?]
  simp
  rfl

theorem decode_dec (s : ByteArray) (i : Nat) : Utf8.decode s i = dec (s.data.toList.drop i) := by
  have hl : ∀ k, decide (i + k < s.size) = decide (k < (s.data.toList.drop i).length) := by
    intro k; rw [decide_eq_decide, List.length_drop, Array.length_toList]; show _ ↔ k < s.data.size - i; have : s.size = s.data.size := rfl; omega
  unfold Utf8.decode dec
  simp only [get_drop, hl, Utf8.runeError]

/-- The mark of what is broken. -/
def markB : List UInt8 := [239, 191, 189]
theorem mark_at (l : List UInt8) : markB.isPrefixOf l = (decide (3 ≤ l.length) && decide (at' l 0 = 239) && decide (at' l 1 = 191) && decide (at' l 2 = 189)) := by
  unfold markB at'
  match l with
  | [] => rfl
  | [a] => simp [List.isPrefixOf]
  | [a, b] => simp [List.isPrefixOf]
  | a :: b :: c :: t =>
    simp only [List.isPrefixOf, List.length_cons, List.getD_cons_zero, List.getD_cons_succ]
    have h : ∀ (x y : UInt8), (x == y) = decide (y.toNat = x.toNat) := fun x y => by
      rw [Bool.eq_iff_iff]; simp [← UInt8.toNat_inj]; exact ⟨Eq.symm, Eq.symm⟩
    simp [h, Bool.and_assoc]

theorem at_lt (l : List UInt8) (k : Nat) : at' l k < 256 := UInt8.toNat_lt _

/-- The decoder's word, tests as propositions. -/
theorem dec_prop (l : List UInt8) : dec l =
    if at' l 0 < 128 then (at' l 0, 1)
    else if at' l 0 / 32 = 6 ∧ 1 < l.length ∧ at' l 1 / 64 = 2 then
      (if at' l 0 % 32 * 64 + at' l 1 % 64 ≥ 128 then (at' l 0 % 32 * 64 + at' l 1 % 64, 2) else (65533, 1))
    else if at' l 0 / 16 = 14 ∧ (1 < l.length ∧ at' l 1 / 64 = 2) ∧ 2 < l.length ∧ at' l 2 / 64 = 2 then
      (if at' l 0 % 16 * 4096 + at' l 1 % 64 * 64 + at' l 2 % 64 ≥ 2048 ∧ (at' l 0 % 16 * 4096 + at' l 1 % 64 * 64 + at' l 2 % 64 < 55296 ∨ 57344 ≤ at' l 0 % 16 * 4096 + at' l 1 % 64 * 64 + at' l 2 % 64) then
        (at' l 0 % 16 * 4096 + at' l 1 % 64 * 64 + at' l 2 % 64, 3) else (65533, 1))
    else if at' l 0 / 8 = 30 ∧ (1 < l.length ∧ at' l 1 / 64 = 2) ∧ (2 < l.length ∧ at' l 2 / 64 = 2) ∧ 3 < l.length ∧ at' l 3 / 64 = 2 then
      (if at' l 0 % 8 * 262144 + at' l 1 % 64 * 4096 + at' l 2 % 64 * 64 + at' l 3 % 64 ≥ 65536 ∧ at' l 0 % 8 * 262144 + at' l 1 % 64 * 4096 + at' l 2 % 64 * 64 + at' l 3 % 64 ≤ 1114111 then
        (at' l 0 % 8 * 262144 + at' l 1 % 64 * 4096 + at' l 2 % 64 * 64 + at' l 3 % 64, 4) else (65533, 1))
    else (65533, 1) := by
  have hv3 : ∀ c : Nat, c ≥ 2048 → c < 65536 → (Utf8.valid (c : Int) = true ↔ c < 55296 ∨ 57344 ≤ c) := by
    intro c h1 h2; unfold Utf8.valid; simp; omega
  have hv4 : ∀ c : Nat, c ≥ 65536 → (Utf8.valid (c : Int) = true ↔ c ≤ 1114111) := by
    intro c h1; unfold Utf8.valid; simp; omega
  have h0 := at_lt l 0
  unfold dec
  dsimp only
  refine ite_congr rfl (fun _ => rfl) (fun _ => ?_)
  refine ite_congr (by simp) (fun _ => rfl) (fun _ => ?_)
  refine ite_congr (by simp [and_assoc]) (fun _ => ?_) (fun _ => ?_)
  · refine ite_congr (propext ?_) (fun _ => rfl) (fun _ => rfl)
    by_cases hc : at' l 0 % 16 * 4096 + at' l 1 % 64 * 64 + at' l 2 % 64 ≥ 2048
    · have := hv3 _ hc (by omega)
      simp only [Bool.and_eq_true, decide_eq_true_eq]
      exact and_congr Iff.rfl this
    · simp [hc]
  · refine ite_congr (by simp [and_assoc]) (fun _ => ?_) (fun _ => rfl)
    refine ite_congr (propext ?_) (fun _ => rfl) (fun _ => rfl)
    by_cases hc : at' l 0 % 8 * 262144 + at' l 1 % 64 * 4096 + at' l 2 % 64 * 64 + at' l 3 % 64 ≥ 65536
    · have := hv4 _ hc
      simp only [Bool.and_eq_true, decide_eq_true_eq]
      exact and_congr Iff.rfl this
    · simp [hc]

theorem long_prop (l : List UInt8) : long l =
    if at' l 0 < 128 then 1
    else if at' l 0 ≥ 194 ∧ at' l 0 ≤ 223 ∧ 1 < l.length ∧ 128 ≤ at' l 1 ∧ at' l 1 ≤ 191 then 2
    else if at' l 0 ≥ 224 ∧ at' l 0 ≤ 239 ∧ (1 < l.length ∧ lo (at' l 0) ≤ at' l 1 ∧ at' l 1 ≤ hi (at' l 0)) ∧ 2 < l.length ∧ 128 ≤ at' l 2 ∧ at' l 2 ≤ 191 then 3
    else if at' l 0 ≥ 240 ∧ at' l 0 ≤ 244 ∧ ((1 < l.length ∧ lo (at' l 0) ≤ at' l 1 ∧ at' l 1 ≤ hi (at' l 0)) ∧ 2 < l.length ∧ 128 ≤ at' l 2 ∧ at' l 2 ≤ 191) ∧ 3 < l.length ∧ 128 ≤ at' l 3 ∧ at' l 3 ≤ 191 then 4
    else 0 := by
  unfold long two
  simp only [Bool.and_eq_true, tail_iff]

theorem lo_hi (c : Nat) : (c = 224 ∧ lo c = 160 ∧ hi c = 191) ∨ (c = 240 ∧ lo c = 144 ∧ hi c = 191) ∨ (c = 237 ∧ lo c = 128 ∧ hi c = 159) ∨ (c = 244 ∧ lo c = 128 ∧ hi c = 143) ∨
    (c ≠ 224 ∧ c ≠ 240 ∧ c ≠ 237 ∧ c ≠ 244 ∧ lo c = 128 ∧ hi c = 191) := by
  unfold lo hi
  by_cases h1 : c = 224
  · subst h1; simp
  by_cases h2 : c = 240
  · subst h2; simp
  by_cases h3 : c = 237
  · subst h3; simp
  by_cases h4 : c = 244
  · subst h4; simp
  simp [h1, h2, h3, h4]

set_option maxHeartbeats 4000000 in
/-- What the decoder says of a character: its bytes are as many; and what it says where there is none. -/
theorem dec_long {l : List UInt8} (h : l ≠ []) :
    (long l = 0 ∧ dec l = (65533, 1) ∧ 128 ≤ at' l 0 ∧ markB.isPrefixOf l = false) ∨
    (long l ≠ 0 ∧ (dec l).2 = long l ∧ ((dec l).1 = 65533 → markB.isPrefixOf l = true) ∧ ((at' l 0 < 128 ∧ (dec l).1 = at' l 0 ∧ long l = 1) ∨ (128 ≤ at' l 0 ∧ 128 ≤ (dec l).1)) ∧ (dec l).1 ≤ 1114111) := by
  have hl : 1 ≤ l.length := by cases l; exact absurd rfl h; simp
  have h0 := at_lt l 0
  have h1 := at_lt l 1
  have h2 := at_lt l 2
  have h3 := at_lt l 3
  have hk := lo_hi (at' l 0)
  have hm : markB.isPrefixOf l = true ↔ (3 ≤ l.length ∧ at' l 0 = 239 ∧ at' l 1 = 191 ∧ at' l 2 = 189) := by rw [mark_at]; simp [and_assoc]
  have hm' : markB.isPrefixOf l = false ↔ ¬ (3 ≤ l.length ∧ at' l 0 = 239 ∧ at' l 1 = 191 ∧ at' l 2 = 189) := by rw [← hm]; cases markB.isPrefixOf l <;> decide
  rw [hm, hm', long_prop, dec_prop]
  clear hm hm' h
  generalize at' l 0 = a at *
  generalize at' l 1 = b at *
  generalize at' l 2 = c at *
  generalize at' l 3 = d at *
  generalize l.length = n at *
  generalize lo a = x at *
  generalize hi a = y at *
  by_cases ha : a < 128
  · rw [if_pos ha, if_pos ha]
    exact .inr ⟨by omega, rfl, fun e => by omega, .inl ⟨ha, rfl, rfl⟩, by omega⟩
  · simp only [ha, if_false]
    rcases hk with ⟨hk, rfl, rfl⟩ | ⟨hk, rfl, rfl⟩ | ⟨hk, rfl, rfl⟩ | ⟨hk, rfl, rfl⟩ | ⟨hk, hk2, hk3, hk4, rfl, rfl⟩
    all_goals
      split <;> rename_i e1
      · rw [if_pos (by omega), if_pos (by omega)]
        exact .inr ⟨by omega, rfl, fun e => by dsimp only at e; omega, .inr ⟨by omega, by dsimp only; omega⟩, by dsimp only; omega⟩
      · split <;> rename_i e2
        · rw [if_neg (by omega), if_pos (by omega), if_pos (by omega)]
          exact .inr ⟨by omega, rfl, fun e => by dsimp only at e; omega, .inr ⟨by omega, by dsimp only; omega⟩, by dsimp only; omega⟩
        · split <;> rename_i e3
          · rw [if_neg (by omega), if_neg (by omega), if_pos (by omega), if_pos (by omega)]
            exact .inr ⟨by omega, rfl, fun e => by dsimp only at e; omega, .inr ⟨by omega, by dsimp only; omega⟩, by dsimp only; omega⟩
          · left
            refine ⟨rfl, ?_, by omega, by omega⟩
            repeat' split
            all_goals (first | rfl | (exfalso; omega))

/-- Has no control: none below 20, no 7f. -/
def noCtl (l : List UInt8) : Bool := l.all fun c => !(c < 32) && !(c == 127)
/-- Is it UTF-8 without a control? -/
def plain (l : List UInt8) : Bool := noCtl l && utf l

/-- Characters one by one: none is a control (fuel: how many bytes). -/
def runesN : Nat → List UInt8 → Bool
  | _, [] => true
  | 0, _ => true
  | n + 1, l => if (dec l).1 < 32 ∨ (dec l).1 = 127 then false else runesN n (l.drop (dec l).2)
def runes (l : List UInt8) : Bool := runesN l.length l

theorem dec_width {l : List UInt8} (h : l ≠ []) : 1 ≤ (dec l).2 ∧ (dec l).2 ≤ l.length := by
  have hf := long_fits h
  have hl : 1 ≤ l.length := by cases l; exact absurd rfl h; simp
  rcases dec_long h with ⟨_, h2, _⟩ | ⟨h1, h2, _⟩
  · rw [h2]; exact ⟨Nat.le_refl _, hl⟩
  · omega

theorem runesN_fuel : ∀ (n m : Nat) (l : List UInt8), l.length ≤ n → l.length ≤ m → runesN n l = runesN m l
  | 0, m, l, h, _ => by
    obtain rfl : l = [] := List.eq_nil_of_length_eq_zero (by omega)
    cases m <;> rfl
  | n + 1, 0, l, _, h => by
    obtain rfl : l = [] := List.eq_nil_of_length_eq_zero (by omega)
    rfl
  | n + 1, m + 1, [], _, _ => rfl
  | n + 1, m + 1, c :: l, h1, h2 => by
    simp only [runesN]
    split
    · rfl
    · have hw := dec_width (l := c :: l) (by simp)
      simp at h1 h2
      exact runesN_fuel n m _ (by simp; omega) (by simp; omega)

theorem runes_step {l : List UInt8} (h : l ≠ []) : runes l = if (dec l).1 < 32 ∨ (dec l).1 = 127 then false else runes (l.drop (dec l).2) := by
  cases l with
  | nil => exact absurd rfl h
  | cons c l =>
    have hw := dec_width (l := c :: l) (by simp)
    unfold runes
    simp only [List.length_cons, runesN]
    split
    · rfl
    · exact runesN_fuel _ _ _ (by simp; omega) (by simp)

/-- A character of more than one byte has no byte below 80. -/
theorem long_high {l : List UInt8} (h0 : 128 ≤ at' l 0) : ∀ k, k < long l → 128 ≤ at' l k := by
  have hk := lo_hi (at' l 0)
  rw [long_prop]
  intro k
  repeat' split
  all_goals intro hlt
  all_goals (first | omega | skip)
  all_goals
    have : k = 0 ∨ k = 1 ∨ k = 2 ∨ k = 3 := by omega
    rcases this with rfl | rfl | rfl | rfl <;> omega

theorem noCtl_app (a b : List UInt8) : noCtl (a ++ b) = (noCtl a && noCtl b) := by simp [noCtl]
theorem noCtl_high {l : List UInt8} (h : ∀ c ∈ l, 128 ≤ c.toNat) : noCtl l = true := by
  unfold noCtl
  rw [List.all_eq_true]
  intro c hc
  have := h c hc
  have h1 : ¬ c < 32 := by rw [UInt8.lt_iff_toNat_lt]; simp; omega
  have h2 : c ≠ 127 := by rintro rfl; simp at this
  simp [h1, h2]

theorem take_high {l : List UInt8} {n : Nat} (hn : n ≤ l.length) (h : ∀ k, k < n → 128 ≤ at' l k) : ∀ c ∈ l.take n, 128 ≤ c.toNat := by
  intro c hc
  obtain ⟨k, hk, rfl⟩ := List.getElem_of_mem hc
  rw [List.length_take] at hk
  have := h k (by omega)
  rw [List.getElem_take]
  unfold at' at this
  rwa [List.getD_eq_getElem?_getD, List.getElem?_eq_getElem (by omega)] at this

/-- What the program asks is what the document asks. -/
theorem runes_utf : ∀ (n : Nat) (l : List UInt8), l.length ≤ n → (runes l && utf l) = plain l
  | _, [], _ => rfl
  | 0, _ :: _, h => by simp at h
  | n + 1, c :: l, h => by
    have hne : c :: l ≠ [] := by simp
    have hf := long_fits hne
    have hc0 : at' (c :: l) 0 = c.toNat := rfl
    unfold plain
    rw [runes_step hne, utf_step hne]
    rcases dec_long hne with ⟨h1, _⟩ | ⟨h1, h2, _, h3, _⟩
    · simp [h1]
    · have ih := runes_utf n ((c :: l).drop (long (c :: l))) (by rw [List.length_drop]; simp at h ⊢; omega)
      unfold plain at ih
      rw [if_neg h1]
      have hsplit : noCtl (c :: l) = (noCtl ((c :: l).take (long (c :: l))) && noCtl ((c :: l).drop (long (c :: l)))) := by
        rw [← noCtl_app, List.take_append_drop]
      rcases h3 with ⟨ha, hb, hc⟩ | ⟨ha, hb⟩
      · rw [hsplit, hb, h2, hc0, Bool.and_assoc, ← ih, hc]
        have ht : noCtl ((c :: l).take 1) = (!decide (c.toNat < 32) && !decide (c.toNat = 127)) := by
          have e1 : decide (c < 32) = decide (c.toNat < 32) := by rw [decide_eq_decide, UInt8.lt_iff_toNat_lt]; rfl
          have e2 : (c == 127) = decide (c.toNat = 127) := by rw [Bool.eq_iff_iff]; simp [← UInt8.toNat_inj]
          simp [noCtl, e1, e2]
        rw [ht]
        by_cases h5 : c.toNat < 32 ∨ c.toNat = 127
        · rw [if_pos h5]
          rcases h5 with h5 | h5 <;> simp [h5]
        · rw [if_neg h5]
          have h6 : ¬ c.toNat < 32 := fun e => h5 (.inl e)
          have h7 : ¬ c.toNat = 127 := fun e => h5 (.inr e)
          simp [h6, h7]
      · rw [hsplit, if_neg (by omega), h2, ih, noCtl_high (take_high hf (long_high ha))]
        rfl

theorem runes_plain (l : List UInt8) : (runes l && utf l) = plain l := runes_utf l.length l (Nat.le_refl _)

/-- Two texts together. -/
theorem long_app {l t : List UInt8} (hl : l ≠ []) (h : long l ≠ 0) : long (l ++ t) = long l := by
  have hf := long_fits hl
  have hk := lo_hi (at' l 0)
  have ha : ∀ k, k < l.length → at' (l ++ t) k = at' l k := fun k hk => by
    unfold at'; rw [List.getD_eq_getElem?_getD, List.getD_eq_getElem?_getD, List.getElem?_append_left hk]
  have hn : (l ++ t).length = l.length + t.length := List.length_append
  have h0 := ha 0 (by cases l; exact absurd rfl hl; simp)
  have h1 := ha 1
  have h2 := ha 2
  have h3 := ha 3
  clear ha
  rw [long_prop] at h hf ⊢
  rw [long_prop]
  rw [h0, hn]
  generalize at' (l ++ t) 1 = b' at *
  generalize at' (l ++ t) 2 = c' at *
  generalize at' (l ++ t) 3 = d' at *
  generalize at' l 0 = a at *
  generalize at' l 1 = b at *
  generalize at' l 2 = c at *
  generalize at' l 3 = d at *
  generalize l.length = n at *
  generalize t.length = m at *
  generalize lo a = x at *
  generalize hi a = y at *
  clear hn h0 hl
  by_cases e0 : a < 128
  · rw [if_pos e0, if_pos e0]
  rw [if_neg e0] at h hf ⊢
  rw [if_neg e0]
  by_cases e1 : a ≥ 194 ∧ a ≤ 223 ∧ 1 < n ∧ 128 ≤ b ∧ b ≤ 191
  · have := h1 (by omega)
    rw [if_pos e1, if_pos (by omega)]
  rw [if_neg e1] at h hf ⊢
  by_cases e2 : a ≥ 224 ∧ a ≤ 239 ∧ (1 < n ∧ x ≤ b ∧ b ≤ y) ∧ 2 < n ∧ 128 ≤ c ∧ c ≤ 191
  · have := h1 (by omega)
    have := h2 (by omega)
    rw [if_pos e2, if_neg (by omega), if_pos (by omega)]
  rw [if_neg e2] at h hf ⊢
  by_cases e3 : a ≥ 240 ∧ a ≤ 244 ∧ ((1 < n ∧ x ≤ b ∧ b ≤ y) ∧ 2 < n ∧ 128 ≤ c ∧ c ≤ 191) ∧ 3 < n ∧ 128 ≤ d ∧ d ≤ 191
  · have := h1 (by omega)
    have := h2 (by omega)
    have := h3 (by omega)
    rw [if_pos e3, if_neg (by omega), if_neg (by omega), if_pos (by omega)]
  · rw [if_neg e3] at h
    exact absurd rfl h

theorem utf_app : ∀ (n : Nat) (l t : List UInt8), l.length ≤ n → utf l = true → utf (l ++ t) = utf t
  | _, [], _, _, _ => rfl
  | 0, _ :: _, _, h, _ => by simp at h
  | n + 1, c :: l, t, h, hu => by
    have hne : c :: l ≠ [] := by simp
    rw [utf_step hne] at hu
    split at hu
    · cases hu
    · rename_i h1
      have hf := long_fits hne
      rw [utf_step (by simp), long_app hne h1, if_neg h1, List.drop_append_of_le_length hf]
      exact utf_app n _ t (by rw [List.length_drop]; simp at h ⊢; omega) hu

theorem utf_both {l t : List UInt8} (h1 : utf l = true) (h2 : utf t = true) : utf (l ++ t) = true := by rw [utf_app l.length l t (Nat.le_refl _) h1, h2]

/-- A character has no byte ff. -/
theorem long_no_ff (l : List UInt8) : ∀ k, k < long l → at' l k ≠ 255 := by
  have hk := lo_hi (at' l 0)
  rw [long_prop]
  intro k
  repeat' split
  all_goals intro hlt
  all_goals
    have : k = 0 ∨ k = 1 ∨ k = 2 ∨ k = 3 := by omega
    rcases this with rfl | rfl | rfl | rfl <;> omega

theorem utf_no_ff : ∀ (n : Nat) (l : List UInt8), l.length ≤ n → utf l = true → ∀ c ∈ l, c.toNat ≠ 255
  | _, [], _, _, c, hc => by cases hc
  | 0, _ :: _, h, _, _, _ => by simp at h
  | n + 1, a :: l, h, hu, c, hc => by
    have hne : a :: l ≠ [] := by simp
    rw [utf_step hne] at hu
    split at hu
    · cases hu
    · rename_i h1
      have hf := long_fits hne
      rw [← List.take_append_drop (long (a :: l)) (a :: l), List.mem_append] at hc
      rcases hc with hc | hc
      · obtain ⟨k, hk, rfl⟩ := List.getElem_of_mem hc
        rw [List.length_take] at hk
        have := long_no_ff (a :: l) k (by omega)
        rw [List.getElem_take]
        unfold at' at this
        rwa [List.getD_eq_getElem?_getD, List.getElem?_eq_getElem (by omega)] at this
      · exact utf_no_ff n _ (by rw [List.length_drop]; simp at h ⊢; omega) hu c hc

theorem utf_ff {l : List UInt8} (h : (255 : UInt8) ∈ l) : utf l = false := by
  cases hu : utf l with
  | false => rfl
  | true => exact absurd rfl (utf_no_ff l.length l (Nat.le_refl _) hu _ h)

theorem plain_utf {l : List UInt8} (h : plain l = true) : utf l = true := by
  unfold plain at h; simp at h; exact h.2
theorem plain_feed (l : List UInt8) : plain (l ++ [10]) = false := by
  unfold plain; rw [noCtl_app]; simp [noCtl]

end M
end Go.Proofs.Ytcedcfagfklohaa.Hd.S
