/-
  The library's Clone, Contains, Sort, Compact of numbers, in this proof's words; Block and Bad.
-/
import Derived.Test.YteneknmbddnkaaaMedBlk
import Derived.Test.YteneknmbddnkaaaShelf
import Derived.Lib.OwnBridge
namespace Go.Proofs.Yteneknmbddnkaaa
open Go.RowKit Go.Lib Go.Sort

theorem RdI.cells {w : World} {B n : Nat} {A : Option Addr} {zs : List Int} (h : RdI w B A n zs) (hn : 0 < n) : ∃ b off, A = some ⟨b, off, none⟩ ∧ b < B ∧ ∀ j, j < zs.length → w.cell? ⟨b, off + j, none⟩ = some (.int .i64 (zs.getD j 0)) := by
  obtain ⟨b, off, e, hb, hc⟩ := h.2.2 hn
  refine ⟨b, off, e, hb, fun j hj => ?_⟩
  rw [hc j _ (List.getElem?_eq_getElem hj), List.getD_eq_getElem?_getD, List.getElem?_eq_getElem hj]
  rfl

theorem contains_any (A : Option Addr) (n c : Nat) (zs : List Int) (x : Int) (w : World) (B : Nat) (hr : RdI w B A n zs) (hn : n ≤ 1000000000) :
    Calls Try.prog 37 #[.slice A n c, .int .i64 x] w fun e w' => e = .returned (.bool (zs.contains x)) ∧ w' = w := by
  rcases Nat.eq_zero_or_pos n with h0 | h0
  · have hz : zs = [] := List.eq_nil_of_length_eq_zero (by rw [hr.len, h0])
    subst h0 hz
    exact (Try.slices_Contains_int_empty A c x w).mono fun e w' h => h
  · obtain ⟨b, off, rfl, hb, hc⟩ := hr.cells h0
    have hl := hr.len
    refine (Try.slices_Contains_int b off n c zs x w (by omega) (by omega) hc).mono fun e w' h => ?_
    rw [List.take_of_length_le (by omega)] at h
    exact h

theorem cloneI_any (A : Option Addr) (n c : Nat) (zs : List Int) (w : World) (B : Nat) (hr : RdI w B A n zs) (hn : n ≤ 1000000000) :
    Calls Try.prog 30 #[.slice A n c] w fun e w' => ∃ v, e = .returned v ∧ OwnI w' w.heap.size v zs ∧ Below w.heap.size w w' := by
  rcases Nat.eq_zero_or_pos n with h0 | h0
  · have hz : zs = [] := List.eq_nil_of_length_eq_zero (by rw [hr.len, h0])
    subst h0 hz
    cases A with
    | none => 
      refine (Try.slices_Clone_int_nil 0 c w).mono ?_
      rintro e w' ⟨rfl, rfl⟩
      exact ⟨_, rfl, OwnI.nil _ _, Below.refl _ _⟩
    | some a =>
      refine (Try.slices_Clone_int_zero a c w).mono ?_
      rintro e w' ⟨v, rfl, h, _, hb⟩
      exact ⟨v, rfl, h, hb⟩
  · obtain ⟨b, off, rfl, hb, hc⟩ := hr.cells h0
    have hl := hr.len
    refine (Try.slices_Clone_int b off n c zs w (by omega) (by omega) hc).mono ?_
    rintro e w' ⟨v, rfl, h, _, hb⟩
    rw [List.take_of_length_le (by omega)] at h
    refine ⟨v, rfl, ?_, hb⟩
    unfold OwnI
    rw [hl]
    exact h

theorem sortI_any (v : Value) (zs : List Int) (base : Nat) (w : World) (h : OwnI w base v zs) (hn : zs.length ≤ 1000000000) :
    Calls Try.prog 27 #[v] w fun e w' => e = .returned (.tuple #[]) ∧ OwnI w' base v (zs.mergeSort fun x y => decide (x ≤ y)) ∧ w.grownBy w' v.ownBlock := by
  have hl2 : (zs.mergeSort fun x y => decide (x ≤ y)).length = zs.length := List.length_mergeSort zs
  rcases h.2 with ⟨hv, h0⟩ | ⟨g, cap, cur, hv, hb, hh, hnc, hcm, hcs, htk⟩
  · have hz : zs = [] := List.eq_nil_of_length_eq_zero h0
    subst hv hz
    refine (Try.slices_Sort_int_none none 0 w).mono ?_
    rintro e w' ⟨rfl, rfl⟩
    exact ⟨rfl, by rw [List.mergeSort_nil]; exact OwnI.nil _ _, World.grownBy.refl _ _⟩
  · subst hv
    obtain ⟨g', cap', e, _, hlt, _, _, _, hH⟩ := holds_of_ownsRow h (by simp)
    cases e
    refine (Try.slices_Sort_int g 0 cap zs w hH hlt (by omega)).mono ?_
    rintro e w' ⟨rfl, k, os, rfl⟩
    refine ⟨rfl, ?_, grownBy_sortedI _⟩
    unfold OwnI
    rw [hl2]
    exact ownsRow_sortedI (n := k) (os := os) hl2 hb hh hnc hcm hcs

theorem compactI_any (v : Value) (zs : List Int) (base : Nat) (w : World) (h : OwnI w base v zs) (hn : zs.length ≤ 1000000000) :
    Calls Try.prog 28 #[v] w fun e w' => ∃ v', e = .returned v' ∧ OwnI w' base v' (Lib.compact zs) ∧ w.grownBy w' v.ownBlock ∧ v'.ownBlock = v.ownBlock := by
  have hle := Lib.compact_length_le zs
  rcases h.2 with ⟨hv, h0⟩ | ⟨g, cap, cur, hv, hb, hh, hnc, hcm, hcs, htk⟩
  · have hz : zs = [] := List.eq_nil_of_length_eq_zero h0
    subst hv hz
    refine (Try.slices_Compact_int_empty none 0 w).mono ?_
    rintro e w' ⟨rfl, rfl⟩
    exact ⟨_, rfl, OwnI.nil _ _, World.grownBy.refl _ _, rfl⟩
  · subst hv
    obtain ⟨g', cap', e, _, hlt, _, _, _, hH⟩ := holds_of_ownsRow h (by simp)
    cases e
    refine (Try.slices_Compact_int g 0 cap zs w hH (by omega) hnc).mono ?_
    rintro e w' ⟨rfl, q, rfl⟩
    have hc := Lib.ownsRow_putRow (q := q) (k := (Lib.compact zs).length) (ys := Lib.compact zs ++ List.replicate (zs.length - (Lib.compact zs).length) 0) h (by simp; omega) hle
    rw [List.take_left] at hc
    refine ⟨_, rfl, hc, ⟨rfl, rfl, rfl, by simp [putRow, mapBlock, Sort.ahead], fun k hk hne => ?_⟩, rfl⟩
    have hgk : g ≠ k := fun e => hne (by rw [e]; rfl)
    simp [putRow, mapBlock, Sort.ahead, Array.getElem?_modify, hgk]
end Go.Proofs.Yteneknmbddnkaaa
