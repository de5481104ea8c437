/-
  Plain arithmetic of layer 1: fields of digits and of bits, as lists of numbers 0 to 255. No program.
-/
namespace Go.Proofs.Ytcedcfagfklohaa.Hd
namespace M

/-- An octal digit's byte. -/
def dig (c : Int) : Bool := decide (48 ≤ c) && decide (c ≤ 55)
/-- What may stand behind the digits. -/
def fil (c : Int) : Bool := c == 32 || c == 0
def val (ds : List Int) : Int := ds.foldl (fun n d => 8 * n + (d - 48)) 0
def most : Int := 4611686018427387904

def rest (zs : List Int) : List Int := zs.dropWhile (· == 32)
def digs (zs : List Int) : List Int := (rest zs).takeWhile dig
def tail (zs : List Int) : List Int := (rest zs).dropWhile dig
def octOk (zs : List Int) : Bool := (tail zs).all fil && decide (val (digs zs) ≤ most)
def octN (zs : List Int) : Int := if octOk zs then val (digs zs) else 0

/-! takeWhile by length -/
def lead (p : Int → Bool) (zs : List Int) : Nat := (zs.takeWhile p).length
theorem lead_le (p : Int → Bool) (zs : List Int) : lead p zs ≤ zs.length := by
  unfold lead
  exact (List.takeWhile_sublist p).length_le
theorem drop_lead (p : Int → Bool) (zs : List Int) : zs.drop (lead p zs) = zs.dropWhile p := by
  unfold lead
  induction zs with
  | nil => simp
  | cons a l ih => by_cases h : p a <;> simp [h, ih]
theorem take_lead (p : Int → Bool) (zs : List Int) : zs.take (lead p zs) = zs.takeWhile p := by
  unfold lead
  induction zs with
  | nil => simp
  | cons a l ih => by_cases h : p a <;> simp [h, ih]
theorem lead_lt {p : Int → Bool} : ∀ {zs : List Int} {k : Nat} {z : Int}, k < lead p zs → zs[k]? = some z → p z = true
  | [], k, z, _, h => by simp at h
  | a :: l, 0, z, hk, h => by
    simp at h; subst h
    by_cases ha : p a
    · exact ha
    · simp [lead, ha] at hk
  | a :: l, k + 1, z, hk, h => by
    by_cases ha : p a
    · have : k < lead p l := by unfold lead at hk ⊢; simp [ha] at hk; omega
      exact lead_lt this (by simpa using h)
    · simp [lead, ha] at hk
theorem lead_end {p : Int → Bool} : ∀ {zs : List Int} {z : Int}, zs[lead p zs]? = some z → p z = false
  | [], z, h => by simp at h
  | a :: l, z, h => by
    by_cases ha : p a
    · have e : lead p (a :: l) = lead p l + 1 := by simp [lead, ha]
      rw [e] at h
      exact lead_end (by simpa using h)
    · have e : lead p (a :: l) = 0 := by simp [lead, ha]
      rw [e] at h
      simp at h
      subst h
      simpa using ha
/-- All before place k pass, that at k does not: k is how many lead. -/
theorem lead_at {p : Int → Bool} : ∀ {zs : List Int} {k : Nat} {z : Int}, (∀ j x, j < k → zs[j]? = some x → p x = true) → zs[k]? = some z → p z = false → lead p zs = k
  | [], k, z, _, h, _ => by simp at h
  | a :: l, 0, z, _, h, hz => by simp at h; subst h; simp [lead, hz]
  | a :: l, k + 1, z, hp, h, hz => by
    have ha := hp 0 a (by omega) rfl
    have ih := lead_at (p := p) (zs := l) (k := k) (z := z) (fun j x hj hx => hp (j + 1) x (by omega) (by simpa using hx)) (by simpa using h) hz
    unfold lead at ih ⊢
    simp [ha, ih]
theorem lead_all {p : Int → Bool} : ∀ {zs : List Int}, (∀ j x, j < zs.length → zs[j]? = some x → p x = true) → lead p zs = zs.length
  | [], _ => rfl
  | a :: l, hp => by
    have ha := hp 0 a (by simp) rfl
    have ih := lead_all (p := p) (zs := l) (fun j x hj hx => hp (j + 1) x (by simp; omega) (by simpa using hx))
    unfold lead at ih ⊢
    simp [ha, ih]
theorem all_no {p : Int → Bool} {zs : List Int} {k : Nat} {z : Int} (h : zs[k]? = some z) (hz : p z = false) : zs.all p = false := by
  rw [List.all_eq_false]
  exact ⟨z, List.mem_of_getElem? h, by simp [hz]⟩
theorem all_yes {p : Int → Bool} {zs : List Int} (hp : ∀ j x, j < zs.length → zs[j]? = some x → p x = true) : zs.all p = true := by
  rw [List.all_eq_true]
  intro x hx
  obtain ⟨j, hj, rfl⟩ := List.getElem_of_mem hx
  exact hp j _ hj (List.getElem?_eq_getElem hj)
/-- What holds before k + 1. -/
theorem upto_succ {p : Int → Bool} {zs : List Int} {k : Nat} {z : Int} (h : ∀ j x, j < k → zs[j]? = some x → p x = true) (hk : zs[k]? = some z) (hz : p z = true) :
    ∀ j x, j < k + 1 → zs[j]? = some x → p x = true := by
  intro j x hj hx
  rcases Nat.lt_or_ge j k with hlt | hge
  · exact h j x hlt hx
  · have : j = k := by omega
    subst this
    rw [hk] at hx
    injection hx with hx
    subst hx
    exact hz

theorem take_snoc' {zs : List Int} {k : Nat} {z : Int} (h : zs[k]? = some z) : zs.take (k + 1) = zs.take k ++ [z] := by
  rw [List.take_add_one, h]; rfl
theorem val_snoc (ds : List Int) (d : Int) : val (ds ++ [d]) = 8 * val ds + (d - 48) := by simp [val, List.foldl_append]
theorem val_nil : val [] = 0 := rfl
theorem val_nonneg : ∀ (ds : List Int), (∀ d ∈ ds, dig d = true) → 0 ≤ val ds := by
  intro ds
  suffices h : ∀ (ds : List Int) (n : Int), 0 ≤ n → (∀ d ∈ ds, dig d = true) → 0 ≤ ds.foldl (fun n d => 8 * n + (d - 48)) n from fun hd => h ds 0 (Int.le_refl _) hd
  intro ds
  induction ds with
  | nil => intro n hn _; exact hn
  | cons a l ih =>
    intro n hn hd
    have ha := hd a (by simp)
    simp only [dig, Bool.and_eq_true, decide_eq_true_eq] at ha
    exact ih _ (by show 0 ≤ 8 * n + (a - 48); omega) (fun d h => hd d (by simp [h]))
/-- Once above the most, ever above the most. -/
theorem fold_over (ds : List Int) : ∀ n : Int, most < n → (∀ d ∈ ds, dig d = true) → most < ds.foldl (fun n d => 8 * n + (d - 48)) n := by
  induction ds with
  | nil => intro n hn _; exact hn
  | cons a l ih =>
    intro n hn hd
    have ha := hd a (by simp)
    simp only [dig, Bool.and_eq_true, decide_eq_true_eq] at ha
    exact ih _ (by show most < 8 * n + (a - 48); unfold most at hn ⊢; omega) (fun d h => hd d (by simp [h]))
theorem val_over {ds : List Int} {k : Nat} (hd : ∀ d ∈ ds, dig d = true) (h : most < val (ds.take k)) : most < val ds := by
  have e : val ds = (ds.drop k).foldl (fun n d => 8 * n + (d - 48)) (val (ds.take k)) := by
    unfold val
    rw [← List.foldl_append, List.take_append_drop]
  rw [e]
  exact fold_over _ _ h (fun d hd' => hd d (List.mem_of_mem_drop hd'))
theorem mem_lead {p : Int → Bool} : ∀ {zs : List Int} {d : Int}, d ∈ zs.takeWhile p → p d = true ∧ d ∈ zs
  | [], _, h => by simp at h
  | a :: l, d, h => by
    by_cases ha : p a
    · simp only [List.takeWhile_cons, ha, if_true, List.mem_cons] at h
      rcases h with rfl | h
      · exact ⟨ha, by simp⟩
      · exact ⟨(mem_lead h).1, by simp [(mem_lead h).2]⟩
    · simp [ha] at h
theorem digs_dig (zs : List Int) : ∀ d ∈ digs zs, dig d = true := fun _ h => (mem_lead h).1

/-! ### Bits -/
/-- The first byte of bits, without the mark, with its sign. -/
def first (c : Int) : Int := if c < 192 then c - 128 else c - 256
def bits (z : Int) (l : List Int) : Int := l.foldl (fun n c => 256 * n + c) (first z)
def binV : List Int → Int
  | [] => 0
  | z :: l => bits z l
def marked : List Int → Bool
  | [] => false
  | z :: _ => decide (128 ≤ z)
def binOk (zs : List Int) : Bool := marked zs && (decide (-most ≤ binV zs) && decide (binV zs ≤ most))
def binN (zs : List Int) : Int := if binOk zs then binV zs else 0

theorem bits_snoc (z : Int) (l : List Int) (c : Int) : bits z (l ++ [c]) = 256 * bits z l + c := by simp [bits, List.foldl_append]
theorem foldb_over (l : List Int) : ∀ n : Int, most < n → (∀ c ∈ l, 0 ≤ c ∧ c ≤ 255) → most < l.foldl (fun n c => 256 * n + c) n := by
  induction l with
  | nil => intro n hn _; exact hn
  | cons a l ih =>
    intro n hn hd
    have ha := hd a (by simp)
    exact ih _ (by show most < 256 * n + a; unfold most at hn ⊢; omega) (fun d h => hd d (by simp [h]))
theorem foldb_under (l : List Int) : ∀ n : Int, n < -most → (∀ c ∈ l, 0 ≤ c ∧ c ≤ 255) → l.foldl (fun n c => 256 * n + c) n < -most := by
  induction l with
  | nil => intro n hn _; exact hn
  | cons a l ih =>
    intro n hn hd
    have ha := hd a (by simp)
    exact ih _ (by show 256 * n + a < -most; unfold most at hn ⊢; omega) (fun d h => hd d (by simp [h]))
theorem bits_split (z : Int) (l : List Int) (k : Nat) : bits z l = (l.drop k).foldl (fun n c => 256 * n + c) (bits z (l.take k)) := by
  unfold bits
  rw [← List.foldl_append, List.take_append_drop]
/-- A round that stops: the number before it is beyond a 256th of the most, and one more byte follows. -/
theorem bits_stop {z : Int} {l : List Int} {k : Nat} (hk : k < l.length) (hl : ∀ c ∈ l, 0 ≤ c ∧ c ≤ 255)
    (h : 18014398509481984 < bits z (l.take k) ∨ bits z (l.take k) < -18014398509481984) : most < bits z l ∨ bits z l < -most := by
  have hc := hl l[k] (List.getElem_mem hk)
  have e : bits z (l.take (k + 1)) = 256 * bits z (l.take k) + l[k] := by
    rw [take_snoc' (List.getElem?_eq_getElem hk), bits_snoc]
  rcases h with h | h
  · left
    rw [bits_split z l (k + 1)]
    exact foldb_over _ _ (by rw [e]; unfold most; omega) (fun c hc => hl c (List.mem_of_mem_drop hc))
  · right
    rw [bits_split z l (k + 1)]
    exact foldb_under _ _ (by rw [e]; unfold most; omega) (fun c hc => hl c (List.mem_of_mem_drop hc))

theorem binN_no {zs : List Int} (h : binOk zs = false) : binN zs = 0 := by simp [binN, h]
theorem binN_yes {zs : List Int} (h : binOk zs = true) : binN zs = binV zs := by simp [binN, h]
theorem octOk_false_of_tail {zs : List Int} (h : (tail zs).all fil = false) : octOk zs = false := by simp [octOk, h]
theorem octOk_over {zs : List Int} (h : most < val (digs zs)) : octOk zs = false := by
  unfold octOk
  rw [show decide (val (digs zs) ≤ most) = false by simp; omega, Bool.and_false]
theorem octOk_yes {zs : List Int} (h : (tail zs).all fil = true) (h' : val (digs zs) ≤ most) : octOk zs = true := by simp [octOk, h, h']
theorem octN_no {zs : List Int} (h : octOk zs = false) : octN zs = 0 := by simp [octN, h]
theorem octN_yes {zs : List Int} (h : octOk zs = true) : octN zs = val (digs zs) := by simp [octN, h]
theorem rest_len (zs : List Int) : (rest zs).length = zs.length - lead (· == 32) zs := by
  unfold rest; rw [← drop_lead, List.length_drop]
theorem rest_eq (zs : List Int) : zs.drop (lead (· == 32) zs) = rest zs := drop_lead _ _
theorem digs_eq (zs : List Int) : (rest zs).take (lead dig (rest zs)) = digs zs := take_lead _ _
theorem tail_eq (zs : List Int) : (rest zs).drop (lead dig (rest zs)) = tail zs := drop_lead _ _
theorem digs_len (zs : List Int) : (digs zs).length = lead dig (rest zs) := rfl
theorem digs_at {zs : List Int} {k : Nat} {z : Int} (hk : k < lead dig (rest zs)) (h : (rest zs)[k]? = some z) : (digs zs)[k]? = some z := by
  rw [← digs_eq, List.getElem?_take, if_pos hk]; exact h
theorem dig_bd {zs : List Int} {k : Nat} {z : Int} (h : (digs zs)[k]? = some z) : 48 ≤ z ∧ z ≤ 55 := by
  have := digs_dig zs z (List.mem_of_getElem? h)
  simp only [dig, Bool.and_eq_true, decide_eq_true_eq] at this
  exact this
theorem val_succ {ds : List Int} {k : Nat} {z : Int} (h : ds[k]? = some z) : val (ds.take (k + 1)) = 8 * val (ds.take k) + (z - 48) := by
  rw [take_snoc' h, val_snoc]
theorem val_take_nonneg (zs : List Int) (k : Nat) : 0 ≤ val ((digs zs).take k) :=
  val_nonneg _ fun d hd => digs_dig zs d (List.mem_of_mem_take hd)

/-! ### What is put -/
/-- Cell j behind k rounds of PutOctal. -/
def octC (n : Int) (N k j : Nat) : Int := if N - 1 ≤ j + k ∧ j + 1 < N then 48 + (n / 8 ^ (N - 2 - j)) % 8 else 0
def octG (n : Int) (N j : Nat) : Int := if j + 1 < N then 48 + (n / 8 ^ (N - 2 - j)) % 8 else 0
theorem octC_zero (n : Int) (N j : Nat) : octC n N 0 j = 0 := by
  unfold octC
  rw [if_neg (by omega)]
theorem octC_end (n : Int) (N j : Nat) : octC n N (N - 1) j = octG n N j := by
  unfold octC octG
  by_cases h : j + 1 < N
  · rw [if_pos ⟨by omega, h⟩, if_pos h]
  · rw [if_neg (by omega), if_neg h]
theorem octC_succ (n : Int) (N k j : Nat) (hk : k < N - 1) : (if j = N - 2 - k then 48 + (n / 8 ^ k) % 8 else octC n N k j) = octC n N (k + 1) j := by
  by_cases h : j = N - 2 - k
  · rw [if_pos h]
    unfold octC
    rw [if_pos ⟨by omega, by omega⟩, show N - 2 - j = k by omega]
  · rw [if_neg h]
    unfold octC
    by_cases h2 : N - 1 ≤ j + k ∧ j + 1 < N
    · rw [if_pos h2, if_pos ⟨by omega, h2.2⟩]
    · rw [if_neg h2, if_neg (by omega)]
theorem octG_bd (n : Int) (N j : Nat) : 0 ≤ octG n N j ∧ octG n N j ≤ 255 := by
  unfold octG; split <;> omega
def listOf (g : Nat → Int) (N : Nat) : List Int := (List.range N).map g
theorem listOf_len (g : Nat → Int) (N : Nat) : (listOf g N).length = N := by simp [listOf]
theorem listOf_at {g : Nat → Int} {N j : Nat} {z : Int} (h : (listOf g N)[j]? = some z) : j < N ∧ g j = z := by
  unfold listOf at h
  rw [List.getElem?_map] at h
  by_cases hj : j < N
  · rw [List.getElem?_range hj] at h
    exact ⟨hj, by simpa using h⟩
  · rw [List.getElem?_eq_none (by simp; omega)] at h
    cases h
theorem listOf_get (g : Nat → Int) {N j : Nat} (h : j < N) : (listOf g N)[j]? = some (g j) := by
  unfold listOf
  rw [List.getElem?_map, List.getElem?_range h]
  rfl
def oct (n : Int) (N : Nat) : List Int := listOf (octG n N) N
def octFits (n wide : Int) : Bool := decide (2 ≤ wide) && decide (wide ≤ 32) && decide (0 ≤ n) && decide (n ≤ most) && decide (n / 8 ^ (wide.toNat - 1) = 0)
def octR (n wide : Int) : List Int := if octFits n wide then oct n wide.toNat else []
theorem shr8_succ (n : Int) (k : Nat) : n / 8 ^ (k + 1) = n / 8 ^ k / 8 := by
  rw [Int.pow_succ, Int.ediv_ediv_of_nonneg (Int.pow_nonneg (by decide))]
theorem shr8_nonneg {n : Int} (h : 0 ≤ n) (k : Nat) : 0 ≤ n / 8 ^ k := Int.ediv_nonneg h (Int.pow_nonneg (by decide))
theorem shr8_le {n : Int} (h : 0 ≤ n) (k : Nat) : n / 8 ^ k ≤ n := Int.ediv_le_self _ h

/-- Cell j behind k rounds of PutBinary. -/
def binC (n : Int) (N k j : Nat) : Int := if N ≤ j + k ∧ j < N then (n / 256 ^ (N - 1 - j)) % 256 else 0
def binG (n : Int) (N j : Nat) : Int := if j = 0 then (n / 256 ^ (N - 1)) % 128 + 128 else (n / 256 ^ (N - 1 - j)) % 256
theorem binC_zero (n : Int) (N j : Nat) : binC n N 0 j = 0 := by
  unfold binC
  rw [if_neg (by omega)]
theorem binC_succ (n : Int) (N k j : Nat) (hk : k < N) : (if j = N - 1 - k then (n / 256 ^ k) % 256 else binC n N k j) = binC n N (k + 1) j := by
  by_cases h : j = N - 1 - k
  · rw [if_pos h]
    unfold binC
    rw [if_pos ⟨by omega, by omega⟩, show N - 1 - j = k by omega]
  · rw [if_neg h]
    unfold binC
    by_cases h2 : N ≤ j + k ∧ j < N
    · rw [if_pos h2, if_pos ⟨by omega, h2.2⟩]
    · rw [if_neg h2, if_neg (by omega)]
theorem binC_first (n : Int) (N : Nat) (h : 0 < N) : binC n N N 0 = (n / 256 ^ (N - 1)) % 256 := by
  unfold binC
  rw [if_pos ⟨by omega, h⟩, Nat.sub_zero]
theorem binC_end (n : Int) (N j : Nat) (h : j < N) : (if j = 0 then (n / 256 ^ (N - 1)) % 256 % 128 + 128 else binC n N N j) = binG n N j := by
  unfold binG
  by_cases h0 : j = 0
  · rw [if_pos h0, if_pos h0]
    omega
  · rw [if_neg h0, if_neg h0]
    unfold binC
    rw [if_pos ⟨by omega, h⟩]
theorem binG_bd (n : Int) (N j : Nat) : 0 ≤ binG n N j ∧ binG n N j ≤ 255 := by
  unfold binG; split <;> omega
def bin (n : Int) (N : Nat) : List Int := listOf (binG n N) N
def binFits (n wide : Int) : Bool := decide (2 ≤ wide) && decide (wide ≤ 32) && binOk (bin n wide.toNat) && (binN (bin n wide.toNat) == n)
def binR (n wide : Int) : List Int := if binFits n wide then bin n wide.toNat else []
theorem shr256_succ (n : Int) (k : Nat) : n / 256 ^ (k + 1) = n / 256 ^ k / 256 := by
  rw [Int.pow_succ, Int.ediv_ediv_of_nonneg (Int.pow_nonneg (by decide))]
theorem shr256_bd {n : Int} (h : -9223372036854775808 ≤ n ∧ n ≤ 9223372036854775807) (k : Nat) : -9223372036854775808 ≤ n / 256 ^ k ∧ n / 256 ^ k ≤ 9223372036854775807 := by
  induction k with
  | zero => simpa using h
  | succ k ih => rw [shr256_succ]; omega

def putFits (n wide : Int) : Bool := octFits n wide || binFits n wide
def putR (n wide : Int) : List Int := if octFits n wide then oct n wide.toNat else binR n wide
end M
end Go.Proofs.Ytcedcfagfklohaa.Hd
