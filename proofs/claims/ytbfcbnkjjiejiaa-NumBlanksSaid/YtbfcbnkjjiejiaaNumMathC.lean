/-
  Plain arithmetic of layer 1, third part: blanks ahead, blanks and noughts behind. No program.
-/
import Derived.Test.YtbfcbnkjjiejiaaNumMathB
namespace Go.Proofs.Ytbfcbnkjjiejiaa
namespace M

/-! ### Blanks ahead, blanks and noughts behind -/
/-- k times a blank and a nought. -/
def gaps : Nat → List Int
  | 0 => []
  | k + 1 => gaps k ++ [32, 0]
theorem gaps_len : ∀ k, (gaps k).length = 2 * k
  | 0 => rfl
  | k + 1 => by rw [gaps, List.length_append, gaps_len k]; simp; omega
theorem gaps_fil : ∀ k, (gaps k).all fil = true
  | 0 => rfl
  | k + 1 => by rw [gaps, List.all_append, gaps_fil k]; rfl
theorem gaps_head : ∀ k z r, gaps k = z :: r → dig z = false := by
  intro k z r h
  have hf := gaps_fil k
  rw [h, List.all_cons, Bool.and_eq_true] at hf
  exact fil_not_dig hf.1
/-- The digits of a number that has room in so many. -/
def ds (x : Int) (m : Nat) : List Int := (List.range m).map (fun j => 48 + (x / 8 ^ (m - 1 - j)) % 8)
theorem ds_dig (x : Int) (m : Nat) : ∀ d ∈ ds x m, dig d = true := by
  intro d hd
  obtain ⟨j, _, rfl⟩ := List.mem_map.1 hd
  exact dig_digit _
theorem ds_val {x : Int} {m : Nat} (h : x / 8 ^ m = 0) : val (ds x m) = x := by
  have hv := range_digits_val x m h m (Nat.le_refl _)
  rw [Nat.sub_self, Int.pow_zero, Int.ediv_one] at hv
  exact hv
theorem ds_len (x : Int) (m : Nat) : (ds x m).length = m := by simp [ds]
theorem ds_ne (x : Int) (m : Nat) : ds x (m + 1) ≠ [] := by
  intro e
  have := congrArg List.length e
  rw [ds_len] at this
  cases this
theorem take_oct (x : Int) (m : Nat) : (oct x (m + 1)).take m = ds x m := by
  rw [oct_eq]
  exact List.take_left' (ds_len x m)
theorem all_snoc (l : List Int) (z : Int) : (l ++ [z]).all fil = (l.all fil && fil z) := by rw [List.all_append]; simp
theorem blanks_same {x : Int} (h : x / 8 ^ 12 = 0) (hx : x ≤ most) (a b : Nat) :
    octOk ((List.replicate a 32 ++ ds x 12) ++ gaps b) = true ∧ octN ((List.replicate a 32 ++ ds x 12) ++ gaps b) = x := by
  have hp := oct_parts a (ds x 12) (gaps b) (ds_dig x 12) (ds_ne x 11) (gaps_head b)
  rw [← List.append_assoc] at hp
  have hok : octOk ((List.replicate a 32 ++ ds x 12) ++ gaps b) = true := by
    rw [octOk_parts hp.1 hp.2, gaps_fil, ds_val h, decide_eq_true hx]
    rfl
  exact ⟨hok, by rw [octN_yes hok, hp.1, ds_val h]⟩
/-- With one byte more behind, that is no digit, or stands behind a gap. -/
theorem blanks_odd {x : Int} (h : x / 8 ^ 12 = 0) (hx : x ≤ most) (a b : Nat) (odd : Int) (ho : dig odd = false ∨ b ≠ 0) :
    octOk ((List.replicate a 32 ++ ds x 12) ++ gaps b ++ [odd]) = fil odd := by
  have hp := oct_parts a (ds x 12) (gaps b ++ [odd]) (ds_dig x 12) (ds_ne x 11) (by
    intro z r e
    cases hg : gaps b with
    | nil =>
      rw [hg] at e
      injection e with e _
      subst e
      rcases ho with ho | ho
      · exact ho
      · have := congrArg List.length hg
        rw [gaps_len] at this
        simp at this
        exact absurd (by omega) ho
    | cons y l =>
      rw [hg] at e
      injection e with e _
      subst e
      exact gaps_head b _ _ hg)
  rw [← List.append_assoc, ← List.append_assoc] at hp
  rw [octOk_parts hp.1 hp.2, all_snoc, gaps_fil, ds_val h, decide_eq_true hx, Bool.true_and, Bool.and_true]
/-- With one digit more. -/
theorem blanks_digit {x : Int} (h : x / 8 ^ 12 = 0) (hx : x ≤ 4294967295) (a : Nat) (odd : Int) (ho : dig odd = true) :
    octOk ((List.replicate a 32 ++ ds x 12) ++ gaps 0 ++ [odd]) = true := by
  have hp := oct_parts a (ds x 12 ++ [odd]) [] (by
    intro d hd
    rcases List.mem_append.1 hd with hd | hd
    · exact ds_dig x 12 d hd
    · simp at hd
      subst hd
      exact ho) (by simp) (by intro z r e; cases e)
  rw [List.append_nil, ← List.append_assoc] at hp
  rw [show (List.replicate a 32 ++ ds x 12) ++ gaps 0 ++ [odd] = List.replicate a 32 ++ ds x 12 ++ [odd] by simp [gaps]]
  rw [octOk_parts hp.1 hp.2, val_snoc, ds_val h]
  unfold dig at ho
  rw [Bool.and_eq_true, decide_eq_true_eq, decide_eq_true_eq] at ho
  rw [decide_eq_true (by unfold most; omega : 8 * x + (odd - 48) ≤ most)]
  rfl
end M
end Go.Proofs.Ytbfcbnkjjiejiaa
