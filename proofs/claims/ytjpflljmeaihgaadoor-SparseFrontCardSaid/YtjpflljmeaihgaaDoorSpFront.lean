/-
  SparseFront's walk.
-/
import Derived.Test.YtjpflljmeaihgaaDoorSpKnown
import Derived.Test.YtjpflljmeaihgaaDoorSpLawParts
import Derived.Test.YtjpflljmeaihgaaDoorSpRefCheck
import Derived.Test.YtjpflljmeaihgaaDoorSpFrontP
namespace Go.Proofs.YtjpflljmeaihgaaDoor
open Go.RowKit Go.Lib

namespace M
theorem walk_sum {R : Int} : ∀ {l : List Pt} {e s ef sf : Int}, walk R e s l = some (ef, sf) → 0 ≤ sumL l
  | [], e, s, ef, sf, h => Int.le_refl 0
  | p :: l, e, s, ef, sf, h => by
    unfold walk at h
    split at h
    · cases h
    · have h1 := walk_sum h
      have hs : sumL (p :: l) = p.2 + sumL l := by simp [sumL]
      omega
theorem front_walk {R : Int} : ∀ {l : List Pt} {e e' s t m ef sf : Int}, walk R e s l = some (ef, sf) → e' ≤ e → 0 ≤ m → m ≤ sumL l → ∃ ef2, walk R e' t (front l m) = some (ef2, t + m)
  | [], e, e', s, t, m, ef, sf, hw, he, h0, h1 => by
    have : sumL [] = 0 := rfl
    exact ⟨e', by unfold front walk; congr 2; omega⟩
  | p :: l, e, e', s, t, m, ef, sf, hw, he, h0, h1 => by
    by_cases hm : 0 < m
    · unfold walk at hw
      split at hw
      · cases hw
      · rename_i hc
        have hs : sumL (p :: l) = p.2 + sumL l := by simp [sumL]
        obtain ⟨ef2, h2⟩ := front_walk (l := l) (e := p.1 + p.2) (e' := p.1 + min p.2 m) (s := s + p.2) (t := t + min p.2 m) (m := m - min p.2 m) hw (by omega) (by omega) (by
          rcases Int.le_total p.2 m with h | h
          · rw [Int.min_eq_left h]; omega
          · rw [Int.min_eq_right h]
            have h3 : 0 ≤ sumL l := by
              have := walk_sum hw
              omega
            omega)
        refine ⟨ef2, ?_⟩
        unfold front
        rw [if_pos hm]
        unfold walk
        rw [if_neg (by dsimp only; omega), h2]
        congr 2
        omega
    · refine ⟨e', ?_⟩
      unfold front
      rw [if_neg hm]
      unfold walk
      congr 2
      omega
theorem front_len : ∀ (l : List Pt) (m : Int), (front l m).length ≤ l.length
  | [], m => by simp [front]
  | p :: l, m => by
    unfold front
    split
    · have := front_len l (m - min p.2 m)
      simp; omega
    · simp
theorem front_check {l : List Pt} {n R m : Int} (h : check l n R = 0) (h0 : 0 ≤ m) (h1 : m ≤ sumL l) : check (front l m) m R = 0 := by
  obtain ⟨a, b, c, e, hw⟩ := check_ok h
  obtain ⟨ef2, h2⟩ := front_walk (t := 0) hw (Int.le_refl 0) h0 h1
  have := front_len l m
  rw [check_walk _ (by omega) (by omega), h2]
  show (if 0 + m = m then (0 : Int) else 11) = 0
  rw [if_pos (by omega)]
theorem front_all : ∀ {l : List Pt}, (∀ p ∈ l, 1 ≤ p.2) → front l (sumL l) = l
  | [], h => rfl
  | p :: l, h => by
    have hs : sumL (p :: l) = p.2 + sumL l := by simp [sumL]
    have h1 := h p (by simp)
    have h3 : 0 ≤ sumL l := by
      have : ∀ (l : List Pt), (∀ p ∈ l, 1 ≤ p.2) → 0 ≤ sumL l := by
        intro l
        induction l with
        | nil => intro _; exact Int.le_refl 0
        | cons q l ih =>
          intro hq
          have e : sumL (q :: l) = q.2 + sumL l := by simp [sumL]
          have h4 := ih (fun x hx => hq x (List.mem_cons_of_mem _ hx))
          have h5 := hq q (by simp)
          omega
      exact this l (fun x hx => h x (List.mem_cons_of_mem _ hx))
    unfold front
    rw [if_pos (by omega), hs, Int.min_eq_left (by omega), show p.2 + sumL l - p.2 = sumL l by omega, front_all (fun x hx => h x (List.mem_cons_of_mem _ hx))]
theorem front_i64 : ∀ {l : List Pt} {m : Int}, i64s l → (∀ p ∈ l, 0 ≤ p.2) → i64s (front l m)
  | [], m, h, h0 => by intro p hp; cases hp
  | q :: l, m, h, h0 => by
    intro p hp
    unfold front at hp
    split at hp
    · rcases List.mem_cons.1 hp with rfl | hp
      · have h1 := h q (by simp)
        have h2 := h0 q (by simp)
        dsimp only
        omega
      · exact front_i64 (fun x hx => h x (List.mem_cons_of_mem _ hx)) (fun x hx => h0 x (List.mem_cons_of_mem _ hx)) p hp
    · cases hp
end M

set_option maxRecDepth 100000 in
set_option maxHeartbeats 4000000 in
theorem sparseFront_any (A : Option Addr) (n c : Nat) (zs : List Int) (kz : Int) (w : World) (hr : Rd w w.heap.size A n zs) (hn : n ≤ maxLen) (hk : 0 ≤ kz ∧ kz ≤ 65535) (ht : EV w.heap.size w) :
    Calls Tryd.prog 8 #[.slice A n c, .int .u16 kz] w fun e w' => e = .returned (.bool true) ∧ Below w.heap.size w w' := by
  have HT := hid ht
  have HC := hid (lawParts_any A n c zs w hr hn)
  obtain ⟨k0, k1⟩ := hk
  clear ht hr
  go_enter Tryd.func8, Tryd.ntmps8
  go_wp2_with fail
  (with_reducible refine HC.out.mono ?_)
  rintro e w1 ⟨v, l, m, en, rfl, ho1, hfew, hb1⟩
  obtain ⟨Al, cl, rfl, hrl, _⟩ := ho1.rd
  have HF := hid hfew
  have HRL := hid hrl
  have HB1 := hid hb1
  have HCK := hid (refCheck_any Al l.length cl l m en w1 hrl hfew.i64 (by have := hfew.len; omega))
  obtain ⟨m0, m1⟩ := hfew.n0
  obtain ⟨e0, e1⟩ := hfew.e0
  clear HC ho1 hrl hb1 hfew
  go_wp2_with fail
  (with_reducible refine HCK.out.mono ?_)
  rintro e w2 ⟨rfl, hb2⟩
  have HB2 := hid (HB1.out.trans (hb2.mono HB1.out.size))
  have HRL2 := hid ((HRL.out.below hb2).more hb2.size)
  clear HCK hb2 HRL
  by_cases hck : M.check l m en = 0
  case' neg =>
    have d1 : (M.check l m en != 0) = true := by simpa using hck
    have HKN := hid (known_any w.heap.size w2 HB2.out.size (HT.out.on HB2.out))
    clear hck
    go_wp2_with (go_at_call 10; (with_reducible refine HKN.out.mono ?_); rintro e w3 ⟨rfl, hb3⟩)
    go_ret
    exact ⟨rfl, HB2.out.trans (hb3.mono HB2.out.size)⟩
  case' pos =>
    have d1 : (M.check l m en != 0) = false := by simpa using hck
    have HCK := hid hck
    have hFL := hid (show ∀ p ∈ l, 0 ≤ p.2 ∧ p.2 ≤ 1000000000 from fun p hp => by have := HF.out.parts p hp; omega)
    have hll := HF.out.len
    have HFR := hid (fun (K : Int) (W : World) (hb : Below w2.heap.size w2 W) (h : -1000000000 ≤ K ∧ K ≤ 1000000000) => front_any Al l.length cl l K W ((HRL2.out.below hb).more hb.size) (by omega) hFL.out h)
    have HALL := hid (show M.front l m = l by rw [HF.out.sum]; exact M.front_all (fun p hp => (HF.out.parts p hp).2.1))
    have HCF := hid (fun (K : Int) (h0 : 0 ≤ K) (h1 : K ≤ m) => M.front_check HCK.out h0 (by rw [← HF.out.sum]; exact h1))
    clear hck
    have hK0 : 0 ≤ min (kz % 400) m := by omega
    have hKm : min (kz % 400) m ≤ m := by omega
    have hKb : -1000000000 ≤ min (kz % 400) m ∧ min (kz % 400) m ≤ 1000000000 := by omega
    generalize hK : min (kz % 400) m = K at *
    have HK := hid hK
    go_wp2_with fail
    (with_reducible refine (HFR.out _ _ (Below.refl _ _) hKb).mono ?_)
    rintro e w3 ⟨v3, rfl, ho3, hb3⟩
    have HCF3 := hid (HCF.out _ hK0 hKm)
    obtain ⟨A3, c3, rfl, hr3, _⟩ := ho3.rd
    have hR3 := hid hr3
    have HB3 := hid hb3
    have HBW3 := hid (HB2.out.trans (hb3.mono HB2.out.size))
    have HKN := hid (known_any w.heap.size w3 HBW3.out.size (HT.out.on HBW3.out))
    clear ho3 hr3 hb3 HCF
    go_wp2_with fail
    (with_reducible refine HKN.out.mono ?_)
    rintro e w4 ⟨rfl, hb4⟩
    have HB4 := hid (HB3.out.trans (hb4.mono HB3.out.size))
    have HBW4 := hid (HBW3.out.trans (hb4.mono HBW3.out.size))
    have HCH := hid (check_any A3 (M.front l K).length c3 (M.front l K) K en w4 ((hR3.out.below hb4).more hb4.size) (M.front_i64 HF.out.i64 (fun p hp => (hFL.out p hp).1)) (by have := M.front_len l K; omega))
    rw [HCF3.out] at HCH
    clear hb4 HB3 HBW3 hR3 HKN HCF3
    go_wp2_with fail
    (with_reducible refine HCH.out.mono ?_)
    rintro e w5 ⟨rfl, hb5⟩
    have HB5 := hid (HB4.out.trans (hb5.mono HB4.out.size))
    have HBW5 := hid (HBW4.out.trans (hb5.mono HBW4.out.size))
    clear hb5 HB4 HBW4 HCH
    go_wp2_with fail
    (with_reducible refine (HFR.out m w5 HB5.out (by omega)).mono ?_)
    rintro e w6 ⟨v6, rfl, ho6, hb6⟩
    rw [HALL.out] at ho6
    obtain ⟨A6, c6, rfl, hr6, _⟩ := ho6.rd
    have HB6 := hid (HB5.out.trans (hb6.mono HB5.out.size))
    have HBW6 := hid (HBW5.out.trans (hb6.mono HBW5.out.size))
    have HS := hid (same_yes A6 Al l.length c6 cl l w6 hr6 ((HRL2.out.below HB6.out).more HB6.out.size) (by omega))
    clear ho6 hr6 hb6 HB5 HBW5
    go_wp2_with fail
    (with_reducible refine HS.out.mono ?_)
    rintro e w7 ⟨rfl, hb7⟩
    have HB7 := hid (HB6.out.trans (hb7.mono HB6.out.size))
    have HBW7 := hid (HBW6.out.trans (hb7.mono HBW6.out.size))
    clear hb7 HS HB6 HBW6
    go_wp2_with fail
    (with_reducible refine (HFR.out (-1) w7 HB7.out (by omega)).mono ?_)
    rintro e w8 ⟨v8, rfl, ho8, hb8⟩
    rw [M.front_low (by decide)] at ho8
    obtain ⟨A8, c8, rfl, _, _⟩ := ho8.rd
    have HBW8 := hid (HBW7.out.trans (hb8.mono HBW7.out.size))
    clear ho8 hb8
    go_wp2
    go_ret
    exact ⟨rfl, HBW8.out⟩
end Go.Proofs.YtjpflljmeaihgaaDoor
