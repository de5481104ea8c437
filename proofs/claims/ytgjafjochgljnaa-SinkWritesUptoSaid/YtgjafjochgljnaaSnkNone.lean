/-
  SinkNone's walk.
-/
import Derived.Test.YtgjafjochgljnaaSnkKnown
namespace Go.Proofs.Ytgjafjochgljnaa
open Go.RowKit Go.Lib

/-- A Write, what comes of it named. -/
theorem write_f (base g : Nat) (v : Value) (room : Int) (zs : List Int) (A : Option Addr) (n c : Nat) (ls : List Int) (w : World) (B m : Nat) (ys : List Int) (cd : Int) (h : Snk w base g v room zs) (hbase : base ≤ w.heap.size) (hr : Rd w B A n ls) (hB : B ≤ w.heap.size) (hnc : n ≤ c) (hc : c ≤ maxLen) (hs : zs.length + n ≤ 1000000)
    (hm : M.got room zs.length n = m) (hy : zs ++ ls.take m = ys) (hcd : (if m < n then (20 : Int) else 0) = cd) :
    Calls Try.prog 9 #[.pointer (some ⟨g, 0, none⟩), .slice A n c] w fun e w' => ∃ v', e = .returned (.tuple #[.int .i64 m, .int .u16 cd]) ∧ Snk w' base g v' room ys ∧ Below base w w' ∧ Fr (Snk.foot g v) w w' ∧ (v'.ownBlock = v.ownBlock ∨ v'.ownBlock = none ∨ ∃ k, v'.ownBlock = some k ∧ w.heap.size ≤ k) := by
  refine (write_any base g v room zs A n c ls w B h hbase hr hB hnc hc hs).mono ?_
  rintro e w' ⟨v', rfl, hS, hF, hv⟩
  rw [hr.len, hm, hy] at hS
  rw [hr.len, hm, hcd]
  exact ⟨v', rfl, hS, hF.below hbase (fun k hk => (h.foot_lt hk).1), hF, hv⟩

theorem got_zero (n : Nat) : M.got 0 0 n = 0 := by unfold M.got; simp

set_option maxRecDepth 100000 in
set_option maxHeartbeats 1000000 in
theorem sinkNone_any (room : Int) (A : Option Addr) (n c : Nat) (zs : List Int) (w : World) (hro : -9223372036854775808 ≤ room ∧ room ≤ 9223372036854775807) (hr : Rd w w.heap.size A n zs) (hnc : n ≤ c) (hc : c ≤ maxLen) :
    Calls Try.prog 6 #[.int .i64 room, .slice A n c] w fun e w' => e = .returned (.bool true) ∧ Below w.heap.size w w' := by
  obtain ⟨hr0, hr1⟩ := hro
  by_cases h6 : 300 < n
  · have e1 : decide ((300 : Int) < n) = true := by rw [decide_eq_true_eq]; omega
    have hcm : n ≤ maxLen := Nat.le_trans hnc hc
    unfold maxLen at hcm
    clear hr
    go_enter Try.func6, Try.ntmps6
    go_wp2_with fail
    refine (known_any _).mono ?_
    rintro e w1 ⟨rfl, b1⟩
    go_wp2
    go_ret
    exact ⟨rfl, b1⟩
  have e1 : decide ((300 : Int) < n) = false := by rw [decide_eq_false_iff_not]; omega
  have HN := hid (fun (r : Int) (h0 : r ≤ 0) => new_any r w (by omega))
  have HMX : Hid (∀ r : Int, r ≤ 0 → max r 0 = 0) := hid (fun r h => by omega)
  have HR := hid (fun (W : World) (hb : Below w.heap.size w W) => (hr.keep (w' := W) fun p hp => hb.cell hp).more hb.size)
  have HW := hid (fun (g : Nat) (v : Value) (W : World) (hb : Below w.heap.size w W) (hS : Snk W w.heap.size g v 0 []) =>
    write_f w.heap.size g v 0 [] A n c zs W W.heap.size 0 [] (if 0 < n then 20 else 0) hS hb.size (HR.out W hb) (Nat.le_refl _) hnc hc (by simp; omega) (got_zero n) rfl rfl)
  have HW2 := hid (fun (g : Nat) (v : Value) (W : World) (hb : Below w.heap.size w W) (hS : Snk W w.heap.size g v 0 []) =>
    write_f w.heap.size g v 0 [] none 0 0 [] W W.heap.size 0 [] 0 hS hb.size Rd.none_ (Nat.le_refl _) (Nat.le_refl _) (by decide) (by simp) (got_zero 0) rfl rfl)
  have HB := hid (fun (g : Nat) (v : Value) (W : World) (hS : Snk W w.heap.size g v 0 []) => bytes_any w.heap.size g v 0 [] W hS (by simp))
  have HL := hid (fun (g : Nat) (v : Value) (W : World) (hS : Snk W w.heap.size g v 0 []) => left_any w.heap.size g v 0 [] W hS)
  rw [show ([] : List Int).length = 0 from rfl] at HB
  rw [show (0 : Int) - (([] : List Int).length : Nat) = 0 from rfl] at HL
  clear hr HR hnc hc h6
  have hcd : ∃ cd : Int, (if 0 < n then (20 : Int) else 0) = cd ∧ ((n = 0 ∧ cd = 0) ∨ (0 < n ∧ cd = 20)) := by
    by_cases h : 0 < n
    · exact ⟨20, if_pos h, .inr ⟨h, rfl⟩⟩
    · exact ⟨0, if_neg h, .inl ⟨by omega, rfl⟩⟩
  obtain ⟨cd, hcd, hcn⟩ := hcd
  rw [hcd] at HW
  clear hcd
  rcases hcn with ⟨rfl, rfl⟩ | ⟨hn, rfl⟩
  case' inr => have hn0 : ((n : Int) == 0) = false := by simp; omega
  all_goals
    by_cases hm : room ≤ 0
    all_goals
      go_enter Try.func6, Try.ntmps6
      go_wp2_with fail
      (with_reducible refine (HN.out _ (by omega)).mono ?_)
      rintro e w1 ⟨g, rfl, hS1, b1⟩
      rw [HMX.out _ (by omega)] at hS1
      have HS1 := hid hS1
      have B1 := hid b1
      clear hS1 b1
      go_wp2_with fail
      (with_reducible refine (HW.out g _ w1 B1.out HS1.out).mono ?_)
      rintro e w2 ⟨v2, rfl, hS2, b2, -, -⟩
      have HS2 := hid hS2
      have B2 := hid (B1.out.trans b2)
      clear hS2 b2
      go_wp2_with fail
      (with_reducible refine (HW2.out g _ w2 B2.out HS2.out).mono ?_)
      rintro e w3 ⟨v3, rfl, hS3, b3, -, -⟩
      have HS3 := hid hS3
      have B3 := hid (B2.out.trans b3)
      clear hS3 b3
      go_wp2_with fail
      refine (known_any _).mono ?_
      rintro e w4 ⟨rfl, b4⟩
      have HS4 := hid (HS3.out.later b4)
      have B4 := hid (B3.out.trans (b4.mono B3.out.size))
      clear b4
      go_wp2_with fail
      (with_reducible refine (HB.out g _ w4 HS4.out).mono ?_)
      rintro e w5 ⟨A5, c5, rfl, -, b5⟩
      have HS5 := hid (HS4.out.later b5)
      have B5 := hid (B4.out.trans (b5.mono B4.out.size))
      clear b5
      go_wp2_with fail
      (with_reducible refine (HL.out g _ w5 HS5.out).mono ?_)
      rintro e w6 ⟨rfl, b6⟩
      go_wp2
      go_ret
      exact ⟨rfl, B5.out.trans (b6.mono B5.out.size)⟩
end Go.Proofs.Ytgjafjochgljnaa
