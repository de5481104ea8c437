/-
  Plain mathematics of PaxOdd: a line without its last byte, a line with another first digit.
-/
import Derived.Test.YtefkgkdocglgaaaDoorPaxParseM
namespace Go.Proofs.YtefkgkdocglgaaaDoor
namespace M
open Go.Lib (decDigits nDigits)

theorem dec_head : ∀ n : Nat, 1 ≤ n → ∃ c E, decDigits n = c :: E ∧ 49 ≤ c.toNat ∧ c.toNat ≤ 57 := by
  intro n
  induction n using Nat.strongRecOn with
  | _ n ih =>
    intro hn
    by_cases h : n < 10
    · refine ⟨UInt8.ofNat (48 + n), [], by rw [decDigits, dif_pos h], ?_⟩
      rw [dig_byte h]; omega
    · obtain ⟨c, E, e, h1, h2⟩ := ih (n / 10) (by omega) (by omega)
      exact ⟨c, E ++ [UInt8.ofNat (48 + n % 10)], by rw [decDigits, dif_neg h, e]; rfl, h1, h2⟩

/-- What begins with no digit from 1 on is no line. -/
theorem one_head {c : UInt8} {t : List UInt8} (hl : (c :: t).length ≤ 10000000) (h : ¬ (49 ≤ c.toNat ∧ c.toNat ≤ 57)) : one (c :: t) = none := by
  refine none_of fun ⟨r, n⟩ h1 => ?_
  obtain ⟨u, e, hr, hn, hle, hw⟩ := one_form h1 hl
  have hn1 : 1 ≤ n := by
    have := body_length r
    rw [hn]; unfold lineLen; omega
  obtain ⟨c', E, e2, g1, g2⟩ := dec_head n hn1
  rw [e2, List.cons_append] at e
  injection e with e3 e4
  subst e3
  exact h ⟨g1, g2⟩

theorem num_mono (E : List UInt8) : ∀ a b, a < b → num E a < num E b := by
  induction E with
  | nil => intro a b h; exact h
  | cons c E ih => intro a b h; exact ih _ _ (by omega)

section
variable {r : Rc} (hr : right r = true) (hs : (body r).length ≤ 1000)
include hr hs

theorem line_facts : (line r).length = lineLen r ∧ (decDigits (lineLen r)).length = wid (body r).length ∧ line r = decDigits (lineLen r) ++ 32 :: (r.1 ++ 61 :: (r.2 ++ [10])) ∧ 1 ≤ wid (body r).length ∧ lineLen r = (body r).length + wid (body r).length ∧ 4 ≤ (body r).length ∧ lineLen r ≤ 1100 := by
  have hw := wid_spec (L := (body r).length) (by omega)
  refine ⟨line_length (by omega), by rw [Lib.decDigits_length]; exact hw.2.2.1, rfl, hw.1, rfl, ?_, by unfold lineLen; omega⟩
  have := body_length r
  unfold right at hr
  simp only [Bool.and_eq_true, Bool.not_eq_true', List.isEmpty_eq_false_iff] at hr
  have := List.length_pos_iff.2 hr.2
  omega

/-- Without its last byte a line is none. -/
theorem odd_cut : recs ((line r).dropLast) = none := by
  obtain ⟨h1, h2, h3, h4, h5, h6, h7'⟩ := line_facts hr hs
  have hne : (line r).dropLast ≠ [] := by
    intro e
    have := congrArg List.length e
    rw [List.length_dropLast, h1] at this
    simp at this
    omega
  rw [recs_step hne]
  have hi : wid (body r).length < ((line r).dropLast).length := by rw [List.length_dropLast, h1]; omega
  have htk : ((line r).dropLast).take (wid (body r).length) = decDigits (lineLen r) := by
    rw [List.dropLast_eq_take, List.take_take, Nat.min_eq_left (by omega), h3, List.take_append_of_le_length (by omega), List.take_of_length_le (by omega)]
  have hd : digs ((line r).dropLast) (wid (body r).length) := by
    unfold digs
    rw [htk]
    exact List.all_eq_true.2 (decDigits_dig _)
  have h32 : ((line r).dropLast)[wid (body r).length] = 32 := by
    rw [List.getElem_dropLast]
    have : (line r)[wid (body r).length]'(by omega) = (decDigits (lineLen r) ++ 32 :: (r.1 ++ 61 :: (r.2 ++ [10])))[wid (body r).length]'(by rw [← h3]; omega) := by congr 1
    rw [this, List.getElem_append_right (by omega)]
    simp [h2]
  rw [one_recAt hi (by rw [List.length_dropLast]; omega) hd h32, htk, num_decDigits]
  have : recAt ((line r).dropLast) (wid (body r).length) (lineLen r) = none := by
    unfold recAt
    rw [if_pos (.inr (by rw [List.length_dropLast, h1]; omega))]
  rw [this]
  rfl

/-- With another first digit a line is none, where its value has no digit from 1 on. -/
theorem odd_digit (hv : ∀ c ∈ r.2, ¬ (49 ≤ c.toNat ∧ c.toNat ≤ 57)) {d : UInt8} (hd1 : 49 ≤ d.toNat) (hd2 : d.toNat ≤ 57) (hd3 : ∀ c, (line r)[0]? = some c → c ≠ d) : recs ((line r).set 0 d) = none := by
  obtain ⟨h1, h2, h3, h4, h5, h6, h7'⟩ := line_facts hr hs
  obtain ⟨c, E, e, g1, g2⟩ := dec_head (lineLen r) (by omega)
  have hQ : (line r).set 0 d = (d :: E) ++ 32 :: (r.1 ++ 61 :: (r.2 ++ [10])) := by rw [h3, e]; rfl
  have hcd : c ≠ d := hd3 c (by rw [h3, e]; rfl)
  have hEl : (d :: E).length = wid (body r).length := by rw [← h2, e]; rfl
  have hQl : ((line r).set 0 d).length = lineLen r := by rw [List.length_set, h1]
  have hne : (line r).set 0 d ≠ [] := by rw [hQ]; simp
  have hall : (d :: E).all isDig = true := by
    rw [List.all_eq_true]
    intro x hx
    rcases List.mem_cons.1 hx with rfl | hx
    · rw [isDig_iff]; omega
    · exact decDigits_dig (lineLen r) x (by rw [e]; exact List.mem_cons_of_mem _ hx)
  have htk : ((line r).set 0 d).take (wid (body r).length) = d :: E := by rw [hQ, List.take_append_of_le_length (by omega), List.take_of_length_le (by omega)]
  have hi : wid (body r).length < ((line r).set 0 d).length := by omega
  have hdg : digs ((line r).set 0 d) (wid (body r).length) := by unfold digs; rw [htk]; exact hall
  have h32 : ((line r).set 0 d)[wid (body r).length] = 32 := by
    have : ((line r).set 0 d)[wid (body r).length]'hi = ((d :: E) ++ 32 :: (r.1 ++ 61 :: (r.2 ++ [10])))[wid (body r).length]'(by rw [← hQ]; exact hi) := by congr 1
    rw [this, List.getElem_append_right (by omega)]
    simp [← hEl]
  rw [recs_step hne, one_recAt hi (by omega) hdg h32, htk]
  obtain ⟨W, hW⟩ : ∃ W, num (d :: E) 0 = W := ⟨_, rfl⟩
  have hWL : W ≠ lineLen r := by
    have h7 := num_decDigits (lineLen r)
    rw [e] at h7
    rw [← hW, ← h7]
    show num E (10 * 0 + (d.toNat - 48)) ≠ num E (10 * 0 + (c.toNat - 48))
    have hne2 : c.toNat ≠ d.toNat := fun e => hcd (UInt8.toNat_inj.1 e)
    rcases Nat.lt_or_ge (10 * 0 + (d.toNat - 48)) (10 * 0 + (c.toNat - 48)) with hlt | hge
    · exact Nat.ne_of_lt (num_mono E _ _ hlt)
    · exact Nat.ne_of_gt (num_mono E _ _ (by omega))
  rw [hW]
  cases hra : recAt ((line r).set 0 d) (wid (body r).length) W with
  | none => rfl
  | some r' =>
    simp only [Option.map_some]
    unfold recAt at hra
    dsimp only at hra
    split at hra
    · cases hra
    rename_i hb
    have hx : (((line r).set 0 d).take W).drop (wid (body r).length + 1) = (r.1 ++ 61 :: (r.2 ++ [10])).take (W - (wid (body r).length + 1)) := by
      rw [List.drop_take, hQ, List.drop_append, List.drop_of_length_le (by omega), List.nil_append, hEl, show wid (body r).length + 1 - wid (body r).length = 1 by omega]
      rfl
    rw [hx] at hra
    have hm : r.1.length < W - (wid (body r).length + 1) := by
      rcases Nat.lt_or_ge r.1.length (W - (wid (body r).length + 1)) with h | h
      · exact h
      · exfalso
        rw [List.take_append_of_le_length h] at hra
        split at hra
        case isFalse => cases hra
        have hk : (r.1.take (W - (wid (body r).length + 1))).dropLast.takeWhile (fun c => !(c == 61)) = (r.1.take (W - (wid (body r).length + 1))).dropLast :=
          takeWhile_all fun x hx => keys_no_eq hr x (List.mem_of_mem_take ((List.dropLast_sublist _).subset hx))
        rw [hk] at hra
        split at hra
        case isFalse => cases hra
        rename_i h9
        exact absurd h9.1 (by omega)
    have hrest : ((line r).set 0 d).drop W = (r.2 ++ [10]).drop (W - (wid (body r).length + 1) - (r.1.length + 1)) := by
      rw [hQ]
      obtain ⟨q, hq⟩ : ∃ q, W = wid (body r).length + (1 + (r.1.length + (1 + q))) := ⟨W - (wid (body r).length + 1) - (r.1.length + 1), by omega⟩
      rw [hq, ← hEl]
      rw [List.drop_append, List.drop_of_length_le (by omega), List.nil_append, Nat.add_sub_cancel_left]
      rw [show (32 : UInt8) :: (r.1 ++ 61 :: (r.2 ++ [10])) = [32] ++ (r.1 ++ 61 :: (r.2 ++ [10])) from rfl, List.drop_append, List.drop_of_length_le (by simp), List.nil_append]
      rw [show 1 + (r.1.length + (1 + q)) - ([32] : List UInt8).length = r.1.length + (1 + q) by simp, List.drop_append, List.drop_of_length_le (by omega), List.nil_append, Nat.add_sub_cancel_left]
      rw [show (61 : UInt8) :: (r.2 ++ [10]) = [61] ++ (r.2 ++ [10]) from rfl, List.drop_append, List.drop_of_length_le (by simp), List.nil_append]
      congr 1
      simp; omega
    have hWle : W ≤ lineLen r := by omega
    rw [hrest]
    have hpos : 0 < ((r.2 ++ [10]).drop (W - (wid (body r).length + 1) - (r.1.length + 1))).length := by
      rw [← hrest, List.length_drop, hQl]; omega
    obtain ⟨c2, t2, hc2⟩ := List.exists_cons_of_length_pos hpos
    have hmem : c2 ∈ r.2 ++ [10] := List.mem_of_mem_drop (by rw [hc2]; simp)
    have hlen2 : ((r.2 ++ [10]).drop (W - (wid (body r).length + 1) - (r.1.length + 1))).length ≤ 10000000 := by
      rw [List.length_drop, List.length_append, List.length_singleton]
      have := body_length r
      omega
    rw [hc2] at hlen2 ⊢
    have hone : one (c2 :: t2) = none := one_head hlen2 (by
      rcases List.mem_append.1 hmem with h | h
      · exact hv c2 h
      · rw [List.mem_singleton] at h; subst h; decide)
    rw [recs_step (by simp), hone]
    rfl
end
end M
end Go.Proofs.YtefkgkdocglgaaaDoor
