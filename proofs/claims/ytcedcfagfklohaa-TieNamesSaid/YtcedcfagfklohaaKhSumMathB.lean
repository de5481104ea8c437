/-
  Plain arithmetic of layer 5, second part: what is sealed is right; other bytes in it. No program.
-/
import Derived.Test.YtcedcfagfklohaaKhSumMath
import Derived.Test.YtcedcfagfklohaaKhNumMathB
set_option linter.unusedVariables false
set_option linter.unusedSimpArgs false
namespace Go.Proofs.Ytcedcfagfklohaa.Hd
namespace M
theorem val_oct {n : Int} (h0 : 0 ≤ n) (h1 : n ≤ 262143) : octOk (oct n 7 ++ [32]) = true ∧ octN (oct n 7 ++ [32]) = n := by
  have hz : n / 8 ^ 6 = 0 := (fits7 h0 h1).2.1
  have hv := range_digits_val n 6 hz 6 (Nat.le_refl _)
  rw [Nat.sub_self, Int.pow_zero, Int.ediv_one] at hv
  have hds : ∀ d ∈ (List.range 6).map (fun j => 48 + (n / 8 ^ (6 - 1 - j)) % 8), dig d = true := by
    intro d hd
    obtain ⟨j, _, rfl⟩ := List.mem_map.1 hd
    exact dig_digit _
  have hne : (List.range 6).map (fun j => 48 + (n / 8 ^ (6 - 1 - j)) % 8) ≠ [] := by
    intro e
    have := congrArg List.length e
    simp at this
  have hp := oct_parts 0 _ [0, 32] hds hne (by
    intro z r e
    injection e with e _
    subst e
    decide)
  have e : oct n 7 ++ [32] = (List.range 6).map (fun j => 48 + (n / 8 ^ (6 - 1 - j)) % 8) ++ [0, 32] := by
    rw [show (7 : Nat) = 6 + 1 from rfl, oct_eq, List.append_assoc]
    rfl
  rw [List.replicate_zero, List.nil_append, ← e] at hp
  have hok : octOk (oct n 7 ++ [32]) = true := by
    rw [octOk_parts hp.1 hp.2, hv, decide_eq_true (show n ≤ most by unfold most; omega)]
    rfl
  exact ⟨hok, by rw [octN_yes hok, hp.1, hv]⟩
/-- What is sealed tells its sum. -/
theorem told_sld {zs : List Int} (h : ∀ z ∈ zs, 0 ≤ z ∧ z ≤ 255) : toldOk (sld zs) = true ∧ toldN (sld zs) = uns (pad zs) := by
  have hb := uns_pad_bd h
  have hv := val_oct hb.1 (by omega)
  rw [toldOk_yes (sld_len zs), toldN_yes (sld_len zs), fld_sld]
  exact hv
/-- Bytes elsewhere than in the field. -/
theorem fld_set {zs : List Int} {k : Nat} {v : Int} (h : k < 148 ∨ 156 ≤ k) : fld (zs.set k v) = fld zs := by
  unfold fld
  rcases h with h | h
  · rw [List.drop_set_of_lt h]
  · rw [List.drop_set, if_neg (by omega), List.take_set_of_le (by omega)]
theorem told_set {zs : List Int} {k : Nat} {v : Int} (h : k < 148 ∨ 156 ≤ k) : toldOk (zs.set k v) = toldOk zs ∧ toldN (zs.set k v) = toldN zs := by
  unfold toldOk toldN
  rw [fld_set h, List.length_set]
  exact ⟨rfl, rfl⟩
theorem uns_set {zs : List Int} {k : Nat} {z v : Int} (h : k < 148 ∨ 156 ≤ k) (hz : zs[k]? = some z) : uns (zs.set k v) = uns zs - z + v := by
  unfold uns
  rw [tot_set cu zs k 0 z v hz, Nat.zero_add, cu_out h, cu_out h]
theorem right_of {zs : List Int} (h1 : toldOk zs = true) (h2 : toldN zs = uns zs) : right zs = true := by
  unfold right
  rw [h1, h2]
  simp
theorem right_sld {zs : List Int} (h : ∀ z ∈ zs, 0 ≤ z ∧ z ≤ 255) : right (sld zs) = true := by
  have ht := told_sld h
  exact right_of ht.1 (by rw [ht.2, uns_sld])
/-- Two bytes that change places. -/
theorem right_swap {zs : List Int} {i j : Nat} {x y : Int} (h : ∀ z ∈ zs, 0 ≤ z ∧ z ≤ 255) (hi : i < 148) (hj : 156 ≤ j) (hx : (sld zs)[i]? = some x) (hy : (sld zs)[j]? = some y) :
    right (((sld zs).set i y).set j x) = true := by
  have ht := told_sld h
  have h1 := told_set (zs := sld zs) (k := i) (v := y) (.inl hi)
  have h2 := told_set (zs := (sld zs).set i y) (k := j) (v := x) (.inr hj)
  have hy' : ((sld zs).set i y)[j]? = some y := by rw [List.getElem?_set_ne (by omega)]; exact hy
  refine right_of (by rw [h2.1, h1.1, ht.1]) ?_
  rw [h2.2, h1.2, ht.2, uns_set (.inr hj) hy', uns_set (.inl hi) hx, uns_sld]
  omega

/-! ### Small bytes -/
theorem sld_self (zs : List Int) : sld (sld zs) = sld zs := by
  have e : pad (sld zs) = sld zs := pad_self (sld_len zs)
  have hl : (sld zs).length = 512 := sld_len zs
  have hf := fld_sld zs
  have d : ∀ l, sld l = Go.splice (pad l) 148 (oct (uns (pad l)) 7 ++ [32]) := fun _ => rfl
  rw [d (sld zs), e, uns_sld, ← hf]
  generalize sld zs = l at *
  conv => rhs; rw [← List.take_append_drop 148 l]
  unfold Go.splice fld
  congr 1
  rw [List.length_take, List.length_drop, hl, show 148 + min 8 (512 - 148) = 148 + 8 from rfl, ← List.drop_drop]
  exact List.take_append_drop 8 _
theorem sld_low {zs : List Int} (h : ∀ z ∈ zs, 0 ≤ z ∧ z ≤ 127) : ∀ z ∈ sld zs, 0 ≤ z ∧ z ≤ 127 := by
  intro z hz
  unfold sld Go.splice at hz
  have hp : ∀ z ∈ pad zs, 0 ≤ z ∧ z ≤ 127 := by
    intro z hz
    rcases List.mem_append.1 (List.mem_of_mem_take hz) with h1 | h1
    · exact h z h1
    · rw [(List.mem_replicate.1 h1).2]; decide
  rcases List.mem_append.1 hz with h1 | h1
  · exact hp z (List.mem_of_mem_take h1)
  · rcases List.mem_append.1 h1 with h2 | h2
    · rcases List.mem_append.1 h2 with h3 | h3
      · obtain ⟨j, _, rfl⟩ := List.mem_map.1 h3
        unfold octG
        split <;> omega
      · rw [List.mem_singleton.1 h3]; decide
    · exact hp z (List.mem_of_mem_drop h2)
theorem tot_hi_low : ∀ (zs : List Int) (i : Nat), (∀ z ∈ zs, z ≤ 127) → tot hi i zs = 0
  | [], i, _ => rfl
  | z :: l, i, h => by rw [tot, tot_hi_low l (i + 1) (fun x hx => h x (by simp [hx])), hi_lo (h z (by simp))]; rfl
theorem sgn_low {zs : List Int} (h : ∀ z ∈ zs, z ≤ 127) : sgn zs = uns zs := by rw [sgn_eq, tot_hi_low zs 0 h]; omega
/-- One byte another one. -/
theorem right_bent {zs : List Int} {i : Nat} {x u : Int} (h : ∀ z ∈ zs, 0 ≤ z ∧ z ≤ 127) (hi : i < 148 ∨ 156 ≤ i) (hx : (sld zs)[i]? = some x) (hu : 0 ≤ u ∧ u ≤ 127) :
    right ((sld zs).set i u) = (u == x) := by
  have h255 : ∀ z ∈ zs, 0 ≤ z ∧ z ≤ 255 := fun z hz => by have := h z hz; omega
  have ht := told_sld h255
  have h1 := told_set (zs := sld zs) (k := i) (v := u) hi
  have hs : sgn ((sld zs).set i u) = uns ((sld zs).set i u) := sgn_low fun z hz => by
    rcases List.mem_or_eq_of_mem_set hz with h2 | h2
    · exact (sld_low h z h2).2
    · rw [h2]; exact hu.2
  unfold right
  rw [h1.1, h1.2, ht.1, ht.2, hs, uns_set hi hx, uns_sld, Bool.true_and, Bool.or_self, Bool.eq_iff_iff, beq_iff_eq, beq_iff_eq]
  omega
/-- The block, its first k bytes made small. -/
def small (zs : List Int) (k : Nat) : List Int := (zs.take k).map (· % 128) ++ zs.drop k
theorem small_len (zs : List Int) (k : Nat) : (small zs k).length = zs.length := by unfold small; rw [List.length_append, List.length_map, List.length_take, List.length_drop]; omega
theorem small_zero (zs : List Int) : small zs 0 = zs := by unfold small; simp
theorem small_at {zs : List Int} {k : Nat} (h : k < zs.length) : (small zs k)[k]? = zs[k]? := by
  unfold small
  have h1 : ((zs.take k).map (· % 128)).length = k := by rw [List.length_map, List.length_take]; omega
  rw [List.getElem?_append_right (by omega), h1, Nat.sub_self, List.getElem?_drop, Nat.add_zero]
theorem small_step {zs : List Int} {k : Nat} {z : Int} (h : zs[k]? = some z) : (small zs k).set k (z % 128) = small zs (k + 1) := by
  have hk : k < zs.length := (List.getElem?_eq_some_iff.1 h).1
  have h1 : ((zs.take k).map (· % 128)).length = k := by rw [List.length_map, List.length_take]; omega
  unfold small
  rw [List.set_append_right _ _ (by omega), h1, Nat.sub_self, take_snoc' h, List.map_append, List.append_assoc]
  congr 1
  have hd : zs.drop k = z :: zs.drop (k + 1) := by
    rw [List.drop_eq_getElem_cons hk]
    congr 1
    exact (List.getElem?_eq_some_iff.1 h).2
  rw [hd, List.set_cons_zero]
  rfl
theorem small_all {zs : List Int} (h : zs.length = 512) : small zs 512 = zs.map (· % 128) := by
  unfold small
  rw [List.take_of_length_le (by omega), List.drop_eq_nil_of_le (by omega), List.append_nil]
end M
end Go.Proofs.Ytcedcfagfklohaa.Hd
