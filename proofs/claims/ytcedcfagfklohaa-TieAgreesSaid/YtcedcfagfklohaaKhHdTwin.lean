/-
  A region that draws its order, whose operations come in a row, but for one that makes memory and may come at any time.
-/
import Derived.Test.YtcedcfagfklohaaKhHdStep
import Derived.Test.YtcedcfagfklohaaKhHdMem
set_option linter.unusedVariables false
set_option linter.unusedSimpArgs false
namespace Go.Proofs.Ytcedcfagfklohaa.Hd
open Go.RowKit Go.Lib
/-- The steps of a row, each with or without the block: from its end. -/
theorem two_rows {P : Program} {md : Region.Mode} {ops : Array Oper} {Q : Exit → Act → World → Prop} {S : World → Prop} (N : Nat) (R : Nat → World → Prop) (F : Nat → Option Nat → Nat) (L : Nat → Option Nat → Array Bool) (act : Nat → Option Nat → Act)
    (hend : ∀ g w, S w → R g w → wpAnyH P md ops Q S (F N (some g)) (L N (some g)) (act N (some g)) w)
    (hnone : ∀ w, S w → (∀ g w', S w' → R g w' → wpAnyH P md ops Q S (F N (some g)) (L N (some g)) (act N (some g)) w') → wpAnyH P md ops Q S (F N none) (L N none) (act N none) w)
    (hstep : ∀ k, k < N → ∀ o w, S w → (∀ g, o = some g → R g w) → Hid (∀ w', S w' → Below w.heap.size w w' → wpAnyH P md ops Q S (F (k + 1) o) (L (k + 1) o) (act (k + 1) o) w') →
      Hid (o = none → ∀ g w', S w' → R g w' → wpAnyH P md ops Q S (F k (some g)) (L k (some g)) (act k (some g)) w') → wpAnyH P md ops Q S (F k o) (L k o) (act k o) w)
    (hR : ∀ g w w', R g w → Below w.heap.size w w' → R g w') : ∀ w, S w → wpAnyH P md ops Q S (F 0 none) (L 0 none) (act 0 none) w := by
  have hB : ∀ k, k ≤ N → ∀ g w, S w → R g w → wpAnyH P md ops Q S (F (N - k) (some g)) (L (N - k) (some g)) (act (N - k) (some g)) w := by
    intro k
    induction k with
    | zero => exact fun _ g w hS hg => hend g w hS hg
    | succ k ih =>
      intro hk g w hS hg
      have e : N - k = N - (k + 1) + 1 := by omega
      refine hstep (N - (k + 1)) (by omega) (some g) w hS (fun g' e' => by cases e'; exact hg) (hid (fun w' hS' hb => ?_)) (hid (fun e' => by cases e'))
      rw [← e]
      exact ih (by omega) g w' hS' (hR g w w' hg hb)
  have hA : ∀ k, k ≤ N → ∀ w, S w → wpAnyH P md ops Q S (F (N - k) none) (L (N - k) none) (act (N - k) none) w := by
    intro k
    induction k with
    | zero => exact fun _ w hS => hnone w hS (fun g w' hS' hg => by simpa using hB 0 (by omega) g w' hS' hg)
    | succ k ih =>
      intro hk w hS
      have e : N - k = N - (k + 1) + 1 := by omega
      refine hstep (N - (k + 1)) (by omega) none w hS (fun g' e' => by cases e') (hid (fun w' hS' _ => ?_)) (hid (fun _ g w' hS' hg => hB (k + 1) hk g w' hS' hg))
      rw [← e]
      exact ih (by omega) w' hS'
  intro w hS
  have := hA N (Nat.le_refl _) w hS
  rwa [Nat.sub_self] at this
/-- Two may come up. -/
theorem twoH {P : Program} {md : Region.Mode} {ops : Array Oper} {Q : Exit → Act → World → Prop} {S : World → Prop} {i j : Nat} (d e : Nat) {oi oj : Oper} {fuel : Nat} {listed : Array Bool} {a : Act} {w : World} (hi : ops[i]? = some oi) (hj : ops[j]? = some oj) (hd : oi.dst = some d) (he : oj.dst = some e) (hr : Region.ready md ops listed = [i, j])
    (hwi : Region.wanted oi (yielded ops a.tmps) = true) (hwj : Region.wanted oj (yielded ops a.tmps) = true)
    (h1 : ∀ K' : Act → World → Prop, Shut (∀ v w', S w' → (S w' → wpAnyH P md ops Q S fuel (listed.setIfInBounds i true) (a.put (some d) v) w') → K' (a.put oi.dst v) w') → Oper.wp P oi a w K' Q)
    (h2 : ∀ K' : Act → World → Prop, Shut (∀ v w', S w' → (S w' → wpAnyH P md ops Q S fuel (listed.setIfInBounds j true) (a.put (some e) v) w') → K' (a.put oj.dst v) w') → Oper.wp P oj a w K' Q) : wpAnyH P md ops Q S (fuel + 1) listed a w :=
  wpAnyH_ready hr (by simp) (AllReadyH.cons hi (fun K' hK => by
    rw [if_pos hwi]
    exact h1 K' (fun v w' hS hW => hK _ _ hS (by rw [hd]; exact hW))) (AllReadyH.cons hj (fun K' hK => by
    rw [if_pos hwj]
    exact h2 K' (fun v w' hS hW => hK _ _ hS (by rw [he]; exact hW))) AllReadyH.nil))
end Go.Proofs.Ytcedcfagfklohaa.Hd
