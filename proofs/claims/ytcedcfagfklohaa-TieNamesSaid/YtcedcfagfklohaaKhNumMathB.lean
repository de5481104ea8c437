/-
  Plain arithmetic of layer 1, second part: what is put is parsed; when bits have room. No program.
-/
import Derived.Test.YtcedcfagfklohaaKhNumMath
set_option linter.unusedVariables false
set_option linter.unusedSimpArgs false
namespace Go.Proofs.Ytcedcfagfklohaa.Hd
namespace M

def parN (zs : List Int) : Int := if marked zs then binN zs else octN zs
def parOk (zs : List Int) : Bool := if marked zs then binOk zs else octOk zs

/-! ### Digits -/
theorem range_digits_val (x : Int) (m : Nat) (h0 : x / 8 ^ m = 0) : ∀ k, k ≤ m → val ((List.range k).map (fun j => 48 + (x / 8 ^ (m - 1 - j)) % 8)) = x / 8 ^ (m - k)
  | 0, _ => by rw [Nat.sub_zero, h0]; rfl
  | k + 1, hk => by
    rw [List.range_succ, List.map_append, List.map_singleton, val_snoc, range_digits_val x m h0 k (by omega)]
    have e : x / 8 ^ (m - k) = x / 8 ^ (m - 1 - k) / 8 := by rw [← shr8_succ, show m - 1 - k + 1 = m - k by omega]
    rw [e, show m - (k + 1) = m - 1 - k by omega]
    omega
theorem dig_digit (y : Int) : dig (48 + y % 8) = true := by
  unfold dig
  rw [Bool.and_eq_true, decide_eq_true_eq, decide_eq_true_eq]
  omega
theorem oct_eq (x : Int) (m : Nat) : oct x (m + 1) = (List.range m).map (fun j => 48 + (x / 8 ^ (m - 1 - j)) % 8) ++ [0] := by
  unfold oct listOf
  rw [List.range_succ, List.map_append, List.map_singleton]
  congr 1
  · refine List.map_congr_left fun j hj => ?_
    have hj' : j < m := List.mem_range.1 hj
    unfold octG
    rw [if_pos (by omega), show m + 1 - 2 - j = m - 1 - j by omega]
  · unfold octG
    rw [if_neg (by omega)]
/-- Digits, then bytes of which the first is none: what is read of both. -/
theorem takeWhile_app {p : Int → Bool} : ∀ {ds l : List Int}, (∀ d ∈ ds, p d = true) → (∀ z r, l = z :: r → p z = false) → (ds ++ l).takeWhile p = ds ∧ (ds ++ l).dropWhile p = l
  | [], [], _, _ => by simp
  | [], z :: r, _, h => by have := h z r rfl; simp [this]
  | d :: ds, l, hd, h => by
    have h1 := hd d (by simp)
    have ih := takeWhile_app (p := p) (ds := ds) (l := l) (fun x hx => hd x (by simp [hx])) h
    simp [h1, ih.1, ih.2]
theorem rest_blanks (a : Nat) (l : List Int) (h : ∀ z r, l = z :: r → z ≠ 32) : rest (List.replicate a 32 ++ l) = l := by
  unfold rest
  refine (takeWhile_app (p := (· == 32)) (ds := List.replicate a 32) (l := l) ?_ ?_).2
  · intro d hd
    rw [List.mem_replicate] at hd
    simp [hd.2]
  · intro z r e
    simpa using h z r e
/-- Of blanks, digits, and then something else. -/
theorem oct_parts (a : Nat) (ds l : List Int) (hd : ∀ d ∈ ds, dig d = true) (h1 : ds ≠ []) (hl : ∀ z r, l = z :: r → dig z = false) :
    digs (List.replicate a 32 ++ (ds ++ l)) = ds ∧ tail (List.replicate a 32 ++ (ds ++ l)) = l := by
  have hr : rest (List.replicate a 32 ++ (ds ++ l)) = ds ++ l := by
    refine rest_blanks a _ fun z r e => ?_
    cases ds with
    | nil => exact absurd rfl h1
    | cons d ds =>
      have hdd := hd d (by simp)
      simp at e
      rw [← e.1]
      rintro rfl
      simp [dig] at hdd
  unfold digs tail
  rw [hr]
  exact takeWhile_app hd hl
theorem octOk_parts {zs ds l : List Int} (h1 : digs zs = ds) (h2 : tail zs = l) : octOk zs = (l.all fil && decide (val ds ≤ most)) := by
  unfold octOk
  rw [h1, h2]
theorem fil_not_dig {z : Int} (h : fil z = true) : dig z = false := by
  unfold fil at h
  rw [Bool.or_eq_true, beq_iff_eq, beq_iff_eq] at h
  rcases h with rfl | rfl <;> decide

theorem oct_reads {x : Int} {N : Nat} (h2 : 2 ≤ N) (hx : x ≤ most) (hz : x / 8 ^ (N - 1) = 0) : marked (oct x N) = false ∧ octOk (oct x N) = true ∧ octN (oct x N) = x := by
  obtain ⟨m, rfl⟩ : ∃ m, N = m + 1 := ⟨N - 1, by omega⟩
  rw [Nat.add_sub_cancel] at hz
  have hv := range_digits_val x m hz m (Nat.le_refl _)
  rw [Nat.sub_self, Int.pow_zero, Int.ediv_one] at hv
  have hds : ∀ d ∈ (List.range m).map (fun j => 48 + (x / 8 ^ (m - 1 - j)) % 8), dig d = true := by
    intro d hd
    obtain ⟨j, _, rfl⟩ := List.mem_map.1 hd
    exact dig_digit _
  have hne : (List.range m).map (fun j => 48 + (x / 8 ^ (m - 1 - j)) % 8) ≠ [] := by
    intro e
    have := congrArg List.length e
    simp at this
    omega
  have hp := oct_parts 0 _ [0] hds hne (by
    intro z r e
    injection e with e _
    subst e
    decide)
  rw [← oct_eq, List.replicate_zero, List.nil_append] at hp
  have hok : octOk (oct x (m + 1)) = true := by
    rw [octOk_parts hp.1 hp.2, hv, decide_eq_true hx]
    rfl
  refine ⟨?_, hok, by rw [octN_yes hok, hp.1, hv]⟩
  rw [oct_eq]
  obtain ⟨k, rfl⟩ : ∃ k, m = k + 1 := ⟨m - 1, by omega⟩
  rw [List.range_succ_eq_map, List.map_cons, List.cons_append]
  unfold marked
  rw [decide_eq_false_iff_not]
  omega

/-! ### Bits -/
/-- The bytes behind the first. -/
def low (x : Int) (m k : Nat) : List Int := (List.range k).map (fun j => (x / 256 ^ (m - 1 - j)) % 256)
theorem bin_eq (x : Int) (m : Nat) : bin x (m + 1) = ((x / 256 ^ m) % 128 + 128) :: low x m m := by
  unfold bin listOf low
  rw [List.range_succ_eq_map, List.map_cons, List.map_map]
  congr 1
  refine List.map_congr_left fun j hj => ?_
  have hj' : j < m := List.mem_range.1 hj
  show binG x (m + 1) (j + 1) = _
  unfold binG
  rw [if_neg (by omega), show m + 1 - 1 - (j + 1) = m - 1 - j by omega]
def fold (n : Int) (l : List Int) : Int := l.foldl (fun n c => 256 * n + c) n
theorem fold_nil (n : Int) : fold n [] = n := rfl
theorem fold_cons (n c : Int) (l : List Int) : fold n (c :: l) = fold (256 * n + c) l := rfl
theorem fold_app (n : Int) (l r : List Int) : fold n (l ++ r) = fold (fold n l) r := by simp [fold, List.foldl_append]
theorem bits_fold (z : Int) (l : List Int) : bits z l = fold (first z) l := rfl
theorem fold_low (x : Int) (m : Nat) : ∀ k, k ≤ m → fold (x / 256 ^ m) (low x m k) = x / 256 ^ (m - k)
  | 0, _ => by rw [Nat.sub_zero]; rfl
  | k + 1, hk => by
    have ih := fold_low x m k (by omega)
    unfold low at ih ⊢
    rw [List.range_succ, List.map_append, List.map_singleton, fold_app, ih, fold_cons, fold_nil]
    have e : x / 256 ^ (m - k) = x / 256 ^ (m - 1 - k) / 256 := by rw [← shr256_succ, show m - 1 - k + 1 = m - k by omega]
    rw [e, show m - (k + 1) = m - 1 - k by omega]
    omega
theorem fold_low_all (x : Int) (m : Nat) : fold (x / 256 ^ m) (low x m m) = x := by
  rw [fold_low x m m (Nat.le_refl _), Nat.sub_self, Int.pow_zero, Int.ediv_one]
theorem first_of_small {q : Int} (h : -64 ≤ q ∧ q ≤ 63) : first (q % 128 + 128) = q := by
  unfold first
  split <;> omega
theorem first_range {z : Int} (h : 128 ≤ z ∧ z ≤ 255) : -64 ≤ first z ∧ first z ≤ 63 := by
  unfold first
  split <;> omega
theorem binV_room {x : Int} {N : Nat} (hN : 1 ≤ N) (h : -64 ≤ x / 256 ^ (N - 1) ∧ x / 256 ^ (N - 1) ≤ 63) : binV (bin x N) = x := by
  obtain ⟨m, rfl⟩ : ∃ m, N = m + 1 := ⟨N - 1, by omega⟩
  rw [Nat.add_sub_cancel] at h
  rw [bin_eq]
  show bits _ _ = x
  rw [bits_fold, first_of_small h, fold_low_all]
/-- A fold lies within its first number's share. -/
theorem fold_share : ∀ (l : List Int) (n : Int), (∀ c ∈ l, 0 ≤ c ∧ c ≤ 255) → fold n l / 256 ^ l.length = n
  | [], n, _ => by rw [fold_nil, List.length_nil, Int.pow_zero, Int.ediv_one]
  | c :: l, n, h => by
    have ih := fold_share l (256 * n + c) (fun x hx => h x (by simp [hx]))
    rw [fold_cons, List.length_cons, shr256_succ, ih]
    have := h c (by simp)
    omega
theorem low_bd (x : Int) (m k : Nat) : ∀ c ∈ low x m k, 0 ≤ c ∧ c ≤ 255 := by
  intro c hc
  obtain ⟨j, _, rfl⟩ := List.mem_map.1 hc
  constructor <;> omega
theorem low_len (x : Int) (m k : Nat) : (low x m k).length = k := by simp [low]
theorem room_of_binV {x : Int} {N : Nat} (hN : 1 ≤ N) (h : binV (bin x N) = x) : -64 ≤ x / 256 ^ (N - 1) ∧ x / 256 ^ (N - 1) ≤ 63 := by
  obtain ⟨m, rfl⟩ : ∃ m, N = m + 1 := ⟨N - 1, by omega⟩
  rw [Nat.add_sub_cancel]
  rw [bin_eq] at h
  have e : fold (first ((x / 256 ^ m) % 128 + 128)) (low x m m) = x := h
  have hs := fold_share (low x m m) (first ((x / 256 ^ m) % 128 + 128)) (low_bd x m m)
  rw [e, low_len] at hs
  rw [hs]
  exact first_range (by constructor <;> omega)
theorem bin_marked {x : Int} {N : Nat} (hN : 1 ≤ N) : marked (bin x N) = true := by
  obtain ⟨m, rfl⟩ : ∃ m, N = m + 1 := ⟨N - 1, by omega⟩
  rw [bin_eq]
  unfold marked
  rw [decide_eq_true_eq]
  omega
theorem binOk_room {x : Int} {N : Nat} (hN : 1 ≤ N) (h : -64 ≤ x / 256 ^ (N - 1) ∧ x / 256 ^ (N - 1) ≤ 63) (hx : -most ≤ x) (hx' : x ≤ most) :
    binOk (bin x N) = true ∧ binN (bin x N) = x := by
  have e := binV_room hN h
  have hok : binOk (bin x N) = true := by
    unfold binOk
    rw [bin_marked hN, e, decide_eq_true hx, decide_eq_true hx']
    rfl
  exact ⟨hok, by rw [binN_yes hok, e]⟩
theorem binFits_iff {x : Int} {N : Nat} (h1 : 2 ≤ N) (h2 : N ≤ 32) (hx : -most ≤ x) (hx' : x ≤ most) :
    binFits x N = true ↔ -64 ≤ x / 256 ^ (N - 1) ∧ x / 256 ^ (N - 1) ≤ 63 := by
  have e : binFits x N = (binOk (bin x N) && (binN (bin x N) == x)) := by
    unfold binFits
    rw [show decide ((2 : Int) ≤ N) = true by simp; omega, show decide ((N : Int) ≤ 32) = true by simp; omega, Int.toNat_natCast]
    rfl
  rw [e, Bool.and_eq_true, beq_iff_eq]
  constructor
  · rintro ⟨hok, hn⟩
    rw [binN_yes hok] at hn
    exact room_of_binV (by omega) hn
  · intro h
    exact binOk_room (by omega) h hx hx'
theorem octFits_iff {x : Int} {N : Nat} (h1 : 2 ≤ N) (h2 : N ≤ 32) (hx' : x ≤ most) : octFits x N = true ↔ 0 ≤ x ∧ x / 8 ^ (N - 1) = 0 := by
  unfold octFits
  rw [show decide ((2 : Int) ≤ N) = true by simp; omega, show decide ((N : Int) ≤ 32) = true by simp; omega, Int.toNat_natCast, decide_eq_true hx']
  simp
theorem binR_yes {x w : Int} (h : binFits x w = true) : binR x w = bin x w.toNat := by unfold binR; rw [h]; rfl
theorem octR_yes {x w : Int} (h : octFits x w = true) : octR x w = oct x w.toNat := by unfold octR; rw [h]; rfl

/-- What is put is so wide, and parsed as it was. -/
theorem put_back {x : Int} {N : Nat} (h1 : 2 ≤ N) (h2 : N ≤ 32) (hx : -most ≤ x) (hx' : x ≤ most) (h : putFits x N = true) :
    (putR x N).length = N ∧ parOk (putR x N) = true ∧ parN (putR x N) = x := by
  unfold putR
  cases ho : octFits x N with
  | true =>
    rw [if_pos rfl, Int.toNat_natCast]
    have hz := (octFits_iff h1 h2 hx').1 ho
    obtain ⟨g1, g2, g3⟩ := oct_reads h1 hx' hz.2
    refine ⟨by unfold oct; rw [listOf_len], ?_, ?_⟩
    · unfold parOk; rw [g1]; exact g2
    · unfold parN; rw [g1]; exact g3
  | false =>
    have hb : binFits x N = true := by
      unfold putFits at h
      rw [ho] at h
      exact h
    have hz := (binFits_iff h1 h2 hx hx').1 hb
    obtain ⟨g2, g3⟩ := binOk_room (by omega) hz hx hx'
    have g1 := bin_marked (x := x) (N := N) (by omega)
    have e : (if (false = true) then oct x (N : Int).toNat else binR x N) = bin x N := by
      rw [if_neg (by decide), binR_yes hb, Int.toNat_natCast]
    rw [e]
    refine ⟨by unfold bin; rw [listOf_len], ?_, ?_⟩
    · unfold parOk; rw [g1]; exact g2
    · unfold parN; rw [g1]; exact g3
theorem putR_no {x w : Int} (h : putFits x w = false) : putR x w = [] := by
  unfold putFits at h
  rw [Bool.or_eq_false_iff] at h
  unfold putR binR
  rw [h.1, h.2]
  rfl
/-- Numbers that are not too great have room in nine bytes or more. -/
theorem room_nine {x : Int} (k : Nat) (h : -2305843009213693952 ≤ x ∧ x ≤ 2305843009213693951) : -64 ≤ x / 256 ^ (k + 8) ∧ x / 256 ^ (k + 8) ≤ 63 := by
  induction k with
  | zero =>
    rw [show (256 : Int) ^ (0 + 8) = 18446744073709551616 from rfl]
    omega
  | succ k ih =>
    rw [show k + 1 + 8 = k + 8 + 1 by omega, shr256_succ]
    omega
theorem room_more {x : Int} {N : Nat} (hN : 1 ≤ N) (h : -64 ≤ x / 256 ^ (N - 1) ∧ x / 256 ^ (N - 1) ≤ 63) : -64 ≤ x / 256 ^ (N + 1 - 1) ∧ x / 256 ^ (N + 1 - 1) ≤ 63 := by
  rw [show N + 1 - 1 = (N - 1) + 1 by omega, shr256_succ]
  omega
theorem digits_more {x : Int} {N : Nat} (hN : 1 ≤ N) (h : x / 8 ^ (N - 1) = 0) : x / 8 ^ (N + 1 - 1) = 0 := by
  rw [show N + 1 - 1 = (N - 1) + 1 by omega, shr8_succ, h]
  rfl

/-! ### Bits with more ahead -/
theorem fold_noughts (l : List Int) : ∀ k, fold 0 (List.replicate k 0 ++ l) = fold 0 l
  | 0 => rfl
  | k + 1 => by rw [List.replicate_succ, List.cons_append, fold_cons]; exact fold_noughts l k
theorem fold_ones (l : List Int) : ∀ k, fold (-1) (List.replicate k 255 ++ l) = fold (-1) l
  | 0 => rfl
  | k + 1 => by rw [List.replicate_succ, List.cons_append, fold_cons]; exact fold_ones l k
theorem share_pos {x : Int} (h0 : 0 ≤ x) (h1 : x ≤ 2305843009213693951) : x / 256 ^ 9 = 0 := by
  rw [show (256 : Int) ^ 9 = 4722366482869645213696 from rfl]
  omega
theorem share_neg {x : Int} (h0 : x < 0) (h1 : -2305843009213693952 ≤ x) : x / 256 ^ 9 = -1 := by
  rw [show (256 : Int) ^ 9 = 4722366482869645213696 from rfl]
  omega
theorem bin_ten (x : Int) : bin x 10 = ((x / 256 ^ 9) % 128 + 128) :: low x 9 9 := bin_eq x 9
theorem drop_ten (x : Int) : (bin x 10).drop 1 = low x 9 9 := by rw [bin_ten]; rfl
theorem signs_pos {x : Int} (h0 : 0 ≤ x) (h1 : x ≤ 2305843009213693951) (k : Nat) :
    binOk ((128 :: List.replicate k 0) ++ [0] ++ low x 9 9) = true ∧ binN ((128 :: List.replicate k 0) ++ [0] ++ low x 9 9) = x := by
  have e : binV ((128 :: List.replicate k 0) ++ [0] ++ low x 9 9) = x := by
    show fold (first 128) (List.replicate k 0 ++ [0] ++ low x 9 9) = x
    rw [show first 128 = 0 from rfl, List.append_assoc, fold_noughts]
    show fold 0 (low x 9 9) = x
    have h := fold_low_all x 9
    rw [share_pos h0 h1] at h
    exact h
  have hok : binOk ((128 :: List.replicate k 0) ++ [0] ++ low x 9 9) = true := by
    unfold binOk
    rw [e, decide_eq_true (by unfold most; omega : -most ≤ x), decide_eq_true (by unfold most; omega : x ≤ most)]
    rfl
  exact ⟨hok, by rw [binN_yes hok, e]⟩
theorem signs_neg {x : Int} (h0 : x < 0) (h1 : -2305843009213693952 ≤ x) (k : Nat) :
    binOk ((255 :: List.replicate k 255) ++ [255] ++ low x 9 9) = true ∧ binN ((255 :: List.replicate k 255) ++ [255] ++ low x 9 9) = x := by
  have e : binV ((255 :: List.replicate k 255) ++ [255] ++ low x 9 9) = x := by
    show fold (first 255) (List.replicate k 255 ++ [255] ++ low x 9 9) = x
    rw [show first 255 = -1 from rfl, List.append_assoc, fold_ones]
    show fold (-1) (low x 9 9) = x
    have h := fold_low_all x 9
    rw [share_neg h0 h1] at h
    exact h
  have hok : binOk ((255 :: List.replicate k 255) ++ [255] ++ low x 9 9) = true := by
    unfold binOk
    rw [e, decide_eq_true (by unfold most; omega : -most ≤ x), decide_eq_true (by unfold most; omega : x ≤ most)]
    rfl
  exact ⟨hok, by rw [binN_yes hok, e]⟩
end M
end Go.Proofs.Ytcedcfagfklohaa.Hd
