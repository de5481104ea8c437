/-
  Rows of bytes that came in.
-/
import Derived.Test.YtgjafjochgljnaaSnkPieces
namespace Go.Proofs.Ytgjafjochgljnaa
open Go.RowKit Go.Lib

/-- '.slice A n c' reads as rows of bytes, all in blocks below B. -/
def RdR (w : World) (B : Nat) (A : Option Addr) (n : Nat) (ls : List (List Int)) : Prop :=
  ls.length = n ∧ ∀ k, k < n → ∃ b off A' c l, A = some ⟨b, off, none⟩ ∧ b < B ∧ ls[k]? = some l ∧ w.cell? ⟨b, off + k, none⟩ = some (.slice A' l.length c) ∧ Rd w B A' l.length l ∧ l.length ≤ c ∧ c ≤ maxLen
section
variable {w w' : World} {B B' n : Nat} {A : Option Addr} {ls : List (List Int)}
theorem RdR.len (h : RdR w B A n ls) : ls.length = n := h.1
theorem RdR.none_ : RdR w B A 0 [] := ⟨rfl, fun k hk => absurd hk (by omega)⟩
theorem RdR.keep (h : RdR w B A n ls) (hk : ∀ p : Addr, p.block < B → w'.cell? p = w.cell? p) : RdR w' B A n ls :=
  ⟨h.1, fun k hkn => by
    obtain ⟨b, off, A', c, l, rfl, hb, hl, hc, hr, h1, h2⟩ := h.2 k hkn
    exact ⟨b, off, A', c, l, rfl, hb, hl, (hk ⟨b, off + k, none⟩ hb).trans hc, hr.keep hk, h1, h2⟩⟩
theorem RdR.more (h : RdR w B A n ls) (hB : B ≤ B') : RdR w B' A n ls :=
  ⟨h.1, fun k hkn => by
    obtain ⟨b, off, A', c, l, rfl, hb, hl, hc, hr, h1, h2⟩ := h.2 k hkn
    exact ⟨b, off, A', c, l, rfl, by omega, hl, hc, hr.more hB, h1, h2⟩⟩
theorem RdR.below (h : RdR w B A n ls) (hb : Below B w w') : RdR w' B A n ls := h.keep fun _ hp => hb.cell hp
end

theorem flat_next {ls : List (List Int)} {k : Nat} {l : List Int} (h : ls[k]? = some l) : (ls.take (k + 1)).flatten = (ls.take k).flatten ++ l := by
  rw [List.take_add_one, h, List.flatten_append]
  simp
theorem take_next (xs l : List Int) (r : Nat) : xs.take r ++ l.take (min l.length (r - min xs.length r)) = (xs ++ l).take r := by
  rw [List.take_append]
  congr 1
  by_cases h : xs.length ≤ r
  · rw [show min xs.length r = xs.length by omega, Nat.min_comm, ← List.take_eq_take_min]
  · rw [show min xs.length r = r by omega, Nat.sub_self, Nat.min_zero, show r - xs.length = 0 by omega]
end Go.Proofs.Ytgjafjochgljnaa
