/-
  The walk of StrGlued.
-/
import Derived.Test.YtpmhmglckeafgaaDoorStrCuts
import Derived.Deep.QuietTactic
import Derived.BigQuiet
import Derived.SizedLaws
namespace Go.Proofs.YtpmhmglckeafgaaDoor
open Go.RowKit Go.Shelf

set_option maxRecDepth 100000 in
set_option maxHeartbeats 4000000 in
theorem strGlued_any (s t : ByteArray) (k : Int) (w : World) (hs : s.data.toList.length ≤ reachBytes) (ht : t.data.toList.length ≤ reachBytes) (hk0 : 0 ≤ k) (hk1 : k ≤ 255) :
    Calls Tryd.prog 4 #[.string s, .string t, .int .u8 k] w fun e w' => e = .returned (.bool true) ∧ Below w.heap.size w w' := by
  have hr := reachBytes_lt
  rw [len_eq] at hs ht
  have hs : s.size ≤ 140737488355328 := by omega
  have ht : t.size ≤ 140737488355328 := by omega
  clear hr
  have K1 : ∀ W, Below w.heap.size w W → Calls Tryd.prog 12 #[] W fun e w' => e = .returned (.bool true) ∧ Below w.heap.size w w' := fun W hb => (known_any W).mono fun e w' ⟨he, hb'⟩ => ⟨he, hb.trans (hb'.mono hb.size)⟩
  have HK := Lib.hid K1; clear K1
  have UT : ∀ (x : ByteArray) (b : Bool), M.utf x.data.toList = b → Hid (∀ W, Below w.heap.size w W → Calls Tryd.prog 13 #[.string x] W fun e w' => e = .returned (.bool b) ∧ Below w.heap.size w w') := fun x b hx => Lib.hid fun W hb =>
    (utf8_any x W).mono fun e w' ⟨he, hb'⟩ => ⟨by rw [he, hx], hb.trans (hb'.mono hb.size)⟩
  have PL : ∀ (x : ByteArray) (b : Bool), M.plain x.data.toList = b → Hid (∀ W, Below w.heap.size w W → Calls Tryd.prog 14 #[.string x] W fun e w' => e = .returned (.bool b) ∧ Below w.heap.size w w') := fun x b hx => Lib.hid fun W hb =>
    (plain_any x W).mono fun e w' ⟨he, hb'⟩ => ⟨by rw [he, hx], hb.trans (hb'.mono hb.size)⟩
  have hw0 := Below.refl w.heap.size w
  by_cases hsz : (s.size : Int) + t.size ≤ 300
  · obtain ⟨i, hi⟩ : ∃ i : Nat, k % ((s.size : Int) + 1) = i := ⟨(k % ((s.size : Int) + 1)).toNat, by have := Int.emod_nonneg k (show (s.size : Int) + 1 ≠ 0 by omega); omega⟩
    have hil : i ≤ s.size := by have := Int.emod_lt_of_pos k (show (0 : Int) < (s.size : Int) + 1 by omega); omega
    obtain ⟨bs, hbs⟩ : ∃ b, M.utf s.data.toList = b := ⟨_, rfl⟩
    obtain ⟨bt, hbt⟩ : ∃ b, M.utf t.data.toList = b := ⟨_, rfl⟩
    obtain ⟨bp, hbp⟩ : ∃ b, M.plain s.data.toList = b := ⟨_, rfl⟩
    have U1 := UT s bs hbs
    have U2 := UT t bt hbt
    have P1 := PL s bp hbp
    have U3 := UT (s.extract 0 i ++ ⟨#[255]⟩ ++ s.extract i s.size) false (M.utf_ff (by simp [ByteArray.data_append]))
    have P2 := PL (s ++ ⟨#[10]⟩) false (by rw [ByteArray.data_append, Array.toList_append]; exact M.plain_feed _)
    have hpu : bp = true → bs = true := fun h => by rw [← hbs]; exact M.plain_utf (by rw [hbp, h])
    have U4 : bs = true → bt = true → Hid (∀ W, Below w.heap.size w W → Calls Tryd.prog 13 #[.string (s ++ t)] W fun e w' => e = .returned (.bool true) ∧ Below w.heap.size w w') := fun h1 h2 =>
      UT (s ++ t) true (by rw [ByteArray.data_append, Array.toList_append]; exact M.utf_both (by rw [hbs, h1]) (by rw [hbt, h2]))
    have HI := Lib.hid hi
    clear UT PL hbs hbt hbp hi
    go_enter Tryd.func4, Tryd.ntmps4
    go_wp2_with fail
    rw [HI.out]
    go_quiet (fail)
    have hb := below_drewN' hw0 nq
    clear HI
    cases bs with
    | false =>
      obtain rfl : bp = false := by cases bp with
        | false => rfl
        | true => exact absurd (hpu rfl) (by decide)
      clear hpu U4
      go_wp2_with (first
      | (go_at_call 12; ((with_reducible refine (HK.out _ (by assumption)).mono ?_); rintro e w' ⟨rfl, _⟩))
      | (go_at_call 13; ((with_reducible refine (U1.out _ (by assumption)).mono ?_); rintro e w' ⟨rfl, _⟩))
      | (go_at_call 13; ((with_reducible refine (U2.out _ (by assumption)).mono ?_); rintro e w' ⟨rfl, _⟩))
      | (go_at_call 13; ((with_reducible refine (U3.out _ (by assumption)).mono ?_); rintro e w' ⟨rfl, _⟩))
      | (go_at_call 14; ((with_reducible refine (P1.out _ (by assumption)).mono ?_); rintro e w' ⟨rfl, _⟩))
      | (go_at_call 14; ((with_reducible refine (P2.out _ (by assumption)).mono ?_); rintro e w' ⟨rfl, _⟩)))
      go_ret
      exact ⟨rfl, by assumption⟩
    | true =>
      cases bt with
      | false =>
        clear U4 hpu
        cases bp
        all_goals
          go_wp2_with (first
          | (go_at_call 12; ((with_reducible refine (HK.out _ (by assumption)).mono ?_); rintro e w' ⟨rfl, _⟩))
          | (go_at_call 13; ((with_reducible refine (U1.out _ (by assumption)).mono ?_); rintro e w' ⟨rfl, _⟩))
          | (go_at_call 13; ((with_reducible refine (U2.out _ (by assumption)).mono ?_); rintro e w' ⟨rfl, _⟩))
          | (go_at_call 13; ((with_reducible refine (U3.out _ (by assumption)).mono ?_); rintro e w' ⟨rfl, _⟩))
          | (go_at_call 14; ((with_reducible refine (P1.out _ (by assumption)).mono ?_); rintro e w' ⟨rfl, _⟩))
          | (go_at_call 14; ((with_reducible refine (P2.out _ (by assumption)).mono ?_); rintro e w' ⟨rfl, _⟩)))
          go_ret
          exact ⟨rfl, by assumption⟩
      | true =>
        have U5 := U4 rfl rfl
        clear U4 hpu
        cases bp
        all_goals
          go_wp2_with (first
          | (go_at_call 12; ((with_reducible refine (HK.out _ (by assumption)).mono ?_); rintro e w' ⟨rfl, _⟩))
          | (go_at_call 13; ((with_reducible refine (U1.out _ (by assumption)).mono ?_); rintro e w' ⟨rfl, _⟩))
          | (go_at_call 13; ((with_reducible refine (U2.out _ (by assumption)).mono ?_); rintro e w' ⟨rfl, _⟩))
          | (go_at_call 13; ((with_reducible refine (U3.out _ (by assumption)).mono ?_); rintro e w' ⟨rfl, _⟩))
          | (go_at_call 14; ((with_reducible refine (P1.out _ (by assumption)).mono ?_); rintro e w' ⟨rfl, _⟩))
          | (go_at_call 14; ((with_reducible refine (P2.out _ (by assumption)).mono ?_); rintro e w' ⟨rfl, _⟩))
          | (go_at_call 13; ((with_reducible refine (U5.out _ (by assumption)).mono ?_); rintro e w' ⟨rfl, _⟩)))
          go_ret
          exact ⟨rfl, by assumption⟩
  · have hsz' : 300 < (s.size : Int) + t.size := by omega
    clear hsz UT PL
    go_enter Tryd.func4, Tryd.ntmps4
    go_wp2_with (go_at_call 12; refine (HK.out _ hw0).mono ?_; rintro e w1 ⟨rfl, b1⟩)
    go_ret
    exact ⟨rfl, b1⟩
end Go.Proofs.YtpmhmglckeafgaaDoor
