/-
  NumBlanks' walk: blanks ahead, and blanks and noughts behind, make no difference; anything else does.
-/
import Derived.Test.YtbfcbnkjjiejiaaNumApp
import Derived.Test.YtbfcbnkjjiejiaaNumMathC
namespace Go.Proofs.Ytbfcbnkjjiejiaa
open Go.RowKit Go.Lib
attribute [local go_sem ↓] slice_from slice_to

set_option maxHeartbeats 1600000 in
theorem numBlanks_any (n a b odd : Int) (w : World) (hn : 0 ≤ n ∧ n ≤ 4294967295) (ha : 0 ≤ a ∧ a ≤ 255) (hb : 0 ≤ b ∧ b ≤ 255) (ho : 0 ≤ odd ∧ odd ≤ 255) :
    Calls Try.prog 8 #[.int .u32 n, .int .u8 a, .int .u8 b, .int .u8 odd] w fun e w' => e = .returned (.bool true) ∧ Below w.heap.size w w' := by
  obtain ⟨hn0, hn1⟩ := hn
  obtain ⟨ha0, ha1⟩ := ha
  obtain ⟨hb0, hb1⟩ := hb
  obtain ⟨ho0, ho1⟩ := ho
  have hR : ((a % 5).toNat : Int) = a % 5 := by omega
  have hR9 : (a % 5).toNat ≤ 4 := by omega
  have hS : ((b % 5).toNat : Int) = b % 5 := by omega
  have hS9 : (b % 5).toNat ≤ 4 := by omega
  have h12 : n / 8 ^ 12 = 0 := by rw [show (8 : Int) ^ 12 = 68719476736 from rfl]; omega
  have hfit : M.octFits n (13 : Nat) = true := (M.octFits_iff (by decide) (by decide) (by unfold M.most; omega)).2 ⟨hn0, h12⟩
  have HC := putOctal_any n (13 : Nat) w
  rw [hfit, M.octR_yes hfit] at HC
  have HC := hid HC
  have HB1 := hid (fun R S => M.blanks_same h12 (by unfold M.most; omega) R S)
  have HB2 := hid (fun R S h => M.blanks_odd h12 (by unfold M.most; omega) R S odd h)
  have HB3 := hid (fun R h => M.blanks_digit h12 hn1 R odd h)
  clear hfit h12
  rename_i HC0
  clear HC0
  have hRR := hid (show (a % 5).toNat = (a % 5).toNat from rfl)
  generalize (a % 5).toNat = R at *
  generalize (b % 5).toNat = S at *
  clear hRR
  go_enter Try.func8, Try.ntmps8
  go_wp2_with fail
  refine HC.out.mono ?_
  rintro e w1 ⟨A1, N1, rfl, r1, b1⟩
  have hN1 : N1 = 13 := by rw [← r1.len]; exact M.listOf_len _ _
  subst hN1
  clear HC
  go_wp2
  go_loopw [11, 12] (fun v i wr => ∃ j : Nat, j ≤ R ∧ i = .int .i64 j ∧ Own wr w1.heap.size v j (List.replicate j 32) ∧ Below w1.heap.size w1 wr) (fun _ i _ => R - (intOf i).toNat)
  case atStart => exact ⟨0, Nat.zero_le _, rfl, Own.nil _ _, Below.refl _ _⟩
  case round =>
    obtain ⟨j, hj, rfl, hown, hbel⟩ := hrel
    have hsz := hbel.size
    by_cases hlt : j < R
    · go_wp2_with (at_builtin
                   refine wpList_app rfl (.tmp 39) (.tmp 40) rfl w1.heap.size _ _ j _ rfl (hown.alloc _) _ 1 1 [32] rfl (Rd.lit wr 5 (0, 0) [32] (by decide)) (by omega) (by simp; omega) ?_
                   intro v' w' hown' hbel')
      go_roundw
      case rel =>
        refine ⟨j + 1, by omega, by go_num, ?_, hbel.trans ((Below.refl _ _).alloc hsz _ |>.trans hbel')⟩
        rw [List.replicate_succ']
        exact hown'
      case measure => simp [intOf]; omega
    · have hjR : j = R := by omega
      subst hjR
      clear hlt hj
      have hrd : Rd wr w1.heap.size A1 12 (M.ds n 12) := by
        have h := (r1.below hbel).front (k := 12) (by decide)
        rw [show List.take 12 (M.oct n ((13 : Nat) : Int).toNat) = M.ds n 12 from M.take_oct n 12] at h
        exact h
      go_wp2_with (at_builtin
                   refine wpList_app rfl (.tmp 42) (.tmp 44) rfl w1.heap.size _ _ j _ rfl hown _ 12 13 _ rfl hrd (by omega) (by omega) ?_
                   intro v2 w2 hown2 hbel2)
      have hbel3 := hbel.trans hbel2
      clear hown hbel hrd r1 hbel2 hsz
      go_loopw [11, 13] (fun v i wr => ∃ k : Nat, k ≤ S ∧ i = .int .i64 k ∧ Own wr w1.heap.size v (j + 12 + 2 * k) ((List.replicate j 32 ++ M.ds n 12) ++ M.gaps k) ∧ Below w1.heap.size w1 wr) (fun _ i _ => S - (intOf i).toNat)
      case atStart => exact ⟨0, Nat.zero_le _, rfl, by rw [M.gaps, List.append_nil]; exact hown2, hbel3⟩
      case round =>
        obtain ⟨k, hk, rfl, hown, hbel⟩ := hrel
        have hsz := hbel.size
        by_cases hlt : k < S
        · go_wp2_with (at_builtin
                       refine wpList_app rfl (.tmp 53) (.tmp 54) rfl w1.heap.size _ _ (j + 12 + 2 * k) _ rfl (hown.alloc _) _ 2 2 [32, 0] rfl (Rd.lit _ 5 (0, 0) [32, 0] (by decide)) (by omega) (by simp; omega) ?_
                       intro v' w' hown' hbel')
          go_roundw
          case rel =>
            refine ⟨k + 1, by omega, by go_num, ?_, hbel.trans ((Below.refl _ _).alloc hsz _ |>.trans hbel')⟩
            rw [M.gaps, ← List.append_assoc, show j + 12 + 2 * (k + 1) = j + 12 + 2 * k + 2 by omega]
            exact hown'
          case measure => simp [intOf]; omega
        · have hkS : k = S := by omega
          subst hkS
          clear hlt hk hown2 hbel3
          obtain ⟨A5, c5, rfl, hrd5, hn5, hc5⟩ := hown.rd
          have HO1 := octal_any A5 _ c5 _ _ _ hrd5 hn5 hc5
          rw [(HB1.out j k).1, (HB1.out j k).2] at HO1
          have HO1 := hid HO1
          rename_i HO0
          clear HO0 HB1
          go_wp2_with fail
          refine HO1.out.mono ?_
          rintro e w' ⟨rfl, rfl⟩
          clear HO1
          go_wp2_with (at_builtin
                       refine wpList_app rfl (.tmp 61) (.tmp 63) rfl w1.heap.size _ _ (j + 12 + 2 * k) _ rfl (hown.alloc _) _ 1 1 [odd] rfl (Rd.lit _ 5 (0, 0) [odd] (by simp; omega)) (by omega) (by simp; omega) ?_
                       intro v6 w6 hown6 hbel6)
          have hb36 : Below w1.heap.size w1 w6 := hbel.trans ((Below.refl _ _).alloc hsz _ |>.trans hbel6)
          obtain ⟨A6, c6, rfl, hrd6, hn6, hc6⟩ := hown6.rd
          have HO2 := octal_any A6 _ c6 _ _ _ hrd6 hn6 hc6
          clear hown hown6 hrd5 hrd6 hbel hbel6 hn5 hc5 hn6 hc6 hsz
          generalize M.octN (List.replicate j 32 ++ M.ds n 12 ++ M.gaps k ++ [odd]) = y at HO2
          have hb06 : Below w.heap.size w w6 := b1.trans (hb36.mono b1.size)
          have hsz6 := hb06.size
          clear hb36 b1
          have hNN : (n == n) = true := by simp
          have hkb : (k = 0) ↔ (b % 5 = 0) := by omega
          have hkb0 : k = 0 → (b % 5 == 0) = true := fun h => by simpa using hkb.1 h
          have hkb1 : k ≠ 0 → (b % 5 == 0) = false := fun h => by simpa using fun h' => h (hkb.2 h')
          have hfo : odd ≠ 32 → odd ≠ 0 → M.fil odd = false := fun h1 h2 => by simp [M.fil, h1, h2]
          by_cases o32 : odd = 32
          · subst o32
            rw [HB2.out j k (.inl (by decide)), show M.fil 32 = true from by decide] at HO2
            have HO2 := hid HO2
            rename_i HOx
            clear HOx HB2 HB3 hkb hkb0 hkb1 hfo hS hR
            go_wp2_with fail
            refine HO2.out.mono ?_
            rintro e w' ⟨rfl, rfl⟩
            go_wp2_with fail
            refine (known_any _).mono ?_
            rintro e w7 ⟨rfl, b7⟩
            go_wp2
            go_ret
            exact ⟨rfl, hb06.trans (b7.mono hsz6)⟩
          by_cases o0 : odd = 0
          · subst o0
            rw [HB2.out j k (.inl (by decide)), show M.fil 0 = true from by decide] at HO2
            have HO2 := hid HO2
            rename_i HOx
            clear HOx HB2 HB3 hkb hkb0 hkb1 hfo hS hR
            go_wp2_with fail
            refine HO2.out.mono ?_
            rintro e w' ⟨rfl, rfl⟩
            go_wp2_with fail
            refine (known_any _).mono ?_
            rintro e w7 ⟨rfl, b7⟩
            go_wp2
            go_ret
            exact ⟨rfl, hb06.trans (b7.mono hsz6)⟩
          have e32 : (odd == 32) = false := by simpa using o32
          have e0 : (odd == 0) = false := by simpa using o0
          have hfil := hfo o32 o0
          by_cases hk0 : k = 0
          · have eb := hkb0 hk0
            by_cases hlo : odd < 48
            · have e48 : decide (48 ≤ odd) = false := by rw [decide_eq_false_iff_not]; omega
              rw [HB2.out j k (.inl (by unfold M.dig; rw [e48]; rfl)), hfil] at HO2
              have HO2 := hid HO2
              rename_i HOx
              clear HOx HB2 HB3 hkb hkb0 hkb1 hfo hS hR hfil hk0 o32 o0
              go_wp2_with fail
              refine HO2.out.mono ?_
              rintro e w' ⟨rfl, rfl⟩
              go_wp2_with fail
              refine (known_any _).mono ?_
              rintro e w7 ⟨rfl, b7⟩
              go_wp2
              go_ret
              exact ⟨rfl, hb06.trans (b7.mono hsz6)⟩
            · have e48 : decide (48 ≤ odd) = true := by rw [decide_eq_true_eq]; omega
              by_cases hhi : odd ≤ 55
              · have e55 : decide (odd ≤ 55) = true := by simpa using hhi
                rw [hk0, HB3.out j (by unfold M.dig; rw [e48, e55]; rfl)] at HO2
                have HO2 := hid HO2
                rename_i HOx
                subst hk0
                clear HOx HB2 HB3 hkb hkb0 hkb1 hfo hS hR hfil o32 o0
                go_wp2_with fail
                refine HO2.out.mono ?_
                rintro e w' ⟨rfl, rfl⟩
                go_wp2_with fail
                refine (known_any _).mono ?_
                rintro e w7 ⟨rfl, b7⟩
                go_wp2
                go_ret
                exact ⟨rfl, hb06.trans (b7.mono hsz6)⟩
              · have e55 : decide (odd ≤ 55) = false := by simpa using hhi
                rw [HB2.out j k (.inl (by unfold M.dig; rw [e48, e55]; rfl)), hfil] at HO2
                have HO2 := hid HO2
                rename_i HOx
                clear HOx HB2 HB3 hkb hkb0 hkb1 hfo hS hR hfil hk0 o32 o0
                go_wp2_with fail
                refine HO2.out.mono ?_
                rintro e w' ⟨rfl, rfl⟩
                go_wp2_with fail
                refine (known_any _).mono ?_
                rintro e w7 ⟨rfl, b7⟩
                go_wp2
                go_ret
                exact ⟨rfl, hb06.trans (b7.mono hsz6)⟩
          · have eb := hkb1 hk0
            rw [HB2.out j k (.inr hk0), hfil] at HO2
            have HO2 := hid HO2
            rename_i HOx
            clear HOx HB2 HB3 hkb hkb0 hkb1 hfo hS hR hfil hk0 o32 o0
            go_wp2_with fail
            refine HO2.out.mono ?_
            rintro e w' ⟨rfl, rfl⟩
            go_wp2_with fail
            refine (known_any _).mono ?_
            rintro e w7 ⟨rfl, b7⟩
            go_wp2
            go_ret
            exact ⟨rfl, hb06.trans (b7.mono hsz6)⟩
end Go.Proofs.Ytbfcbnkjjiejiaa
