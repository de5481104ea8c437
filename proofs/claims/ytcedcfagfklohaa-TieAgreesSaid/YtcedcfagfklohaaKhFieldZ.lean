/-
  Texts of one chapter, merged.
-/
import Derived.Test.YtcedcfagfklohaaKhHdSmall
import Derived.Test.YtcedcfagfklohaaKhHdStep
import Derived.Test.YtcedcfagfklohaaKhNumBinary
import Derived.Test.YtcedcfagfklohaaKhPutZ
import Derived.IntWalk
import Derived.LoopTactic
set_option linter.unusedVariables false
set_option linter.unusedSimpArgs false
namespace Go.Proofs.Ytcedcfagfklohaa.Hd
open Go.RowKit Go.Lib

theorem Rd.sub {w : World} {B b off n : Nat} {zs : List Int} (h : Rd w B (some ⟨b, off, none⟩) n zs) {a m : Nat} (ham : a + m ≤ n) : Rd w B (some ⟨b, off + a, none⟩) m (M.sub zs a m) := by
  refine ⟨M.sub_len (by rw [h.len]; exact ham), M.sub_bd h.bd, fun hm => ?_⟩
  obtain ⟨b', off', e, hb, hc⟩ := h.2.2 (by omega)
  injection e with e
  injection e with e1 e2
  subst e1 e2
  refine ⟨_, _, rfl, hb, fun j z hj => ?_⟩
  unfold M.sub at hj
  rw [List.getElem?_take] at hj
  split at hj
  · rw [List.getElem?_drop] at hj
    rw [Nat.add_assoc]
    exact hc _ z hj
  · cases hj

end Go.Proofs.Ytcedcfagfklohaa.Hd

namespace Go.Proofs.Ytcedcfagfklohaa.Hd
open Go.RowKit Go.Lib

/-- What parsing a text's field answers. -/
def TxtTo (zs : List Int) (a m : Nat) (there : Bool) (p : Addr) (w : World) (e : Ending) (w' : World) : Prop :=
  e = .returned (.tuple #[]) ∧ if there = true then ∃ w1, Below w.heap.size w w1 ∧ w' = w1.setCell p (.string (M.txt zs a m)) else Below w.heap.size w w'

end Go.Proofs.Ytcedcfagfklohaa.Hd

namespace Go.Proofs.Ytcedcfagfklohaa.Hd
open Go.RowKit Go.Lib

/-- The table of the ways' texts, as it lies. -/
def mgs : Nat → ByteArray
  | 0 => ⟨#[0, 0, 0, 0, 0, 0, 0, 0]⟩
  | 1 => ⟨#[117, 115, 116, 97, 114, 0, 48, 48]⟩
  | _ => ⟨#[117, 115, 116, 97, 114, 32, 32, 0]⟩
def wayN (zs : List Int) : Int := ((M.way zs).getD 0 : Nat)
def wayText (zs : List Int) : ByteArray := ⟨(M.toB (M.sub zs 257 8)).toArray⟩

/-- The place of a text in the table. -/
def wayX (X : ByteArray) : Option Nat := if X = mgs 0 then some 0 else if X = mgs 1 then some 1 else if X = mgs 2 then some 2 else none
theorem toB_inj {a b : List Int} (ha : ∀ z ∈ a, 0 ≤ z ∧ z ≤ 255) (hb : ∀ z ∈ b, 0 ≤ z ∧ z ≤ 255) (h : M.toB a = M.toB b) : a = b := by
  rw [← M.ints_toB ha, ← M.ints_toB hb, h]
theorem way_eq {zs : List Int} (hz : ∀ z ∈ zs, 0 ≤ z ∧ z ≤ 255) (hl : zs.length = 512) : M.way zs = wayX (wayText zs) := by
  have key : ∀ k, k < 3 → (wayText zs = mgs k ↔ M.sub zs 257 8 = M.magic k) := by
    intro k hk
    have hm : ∀ z ∈ M.magic k, 0 ≤ z ∧ z ≤ 255 := by
      have : k = 0 ∨ k = 1 ∨ k = 2 := by omega
      rcases this with rfl | rfl | rfl <;> decide
    have hx : mgs k = ⟨(M.toB (M.magic k)).toArray⟩ := by
      have : k = 0 ∨ k = 1 ∨ k = 2 := by omega
      rcases this with rfl | rfl | rfl <;> rfl
    rw [hx]
    unfold wayText
    constructor
    · intro h
      injection h with h
      have h2 := congrArg Array.toList h
      exact toB_inj (M.sub_bd hz) hm (by simpa using h2)
    · intro h; rw [h]
  unfold M.way wayX
  rw [if_pos hl]
  simp only [key 0 (by decide), key 1 (by decide), key 2 (by decide)]

theorem toList_inj {a b : ByteArray} (h : a.toList = b.toList) : a = b := by
  rw [ByteArray.toList_eq, ByteArray.toList_eq] at h
  obtain ⟨⟨a⟩⟩ := a
  obtain ⟨⟨b⟩⟩ := b
  simpa using h
theorem wayX_at {X : ByteArray} {k : Nat} (hk : k < 3) (h : X = mgs k) (hno : ∀ j, j < k → X ≠ mgs j) : wayX X = some k := by
  unfold wayX
  have : k = 0 ∨ k = 1 ∨ k = 2 := by omega
  rcases this with rfl | rfl | rfl
  · rw [if_pos h]
  · rw [if_neg (hno 0 (by decide)), if_pos h]
  · rw [if_neg (hno 0 (by decide)), if_neg (hno 1 (by decide)), if_pos h]
theorem wayX_none {X : ByteArray} (hno : ∀ j, j < 3 → X ≠ mgs j) : wayX X = none := by
  unfold wayX
  rw [if_neg (hno 0 (by decide)), if_neg (hno 1 (by decide)), if_neg (hno 2 (by decide))]
theorem way_more {X : ByteArray} {k : Nat} (hno : ∀ j, j < k → X ≠ mgs j) (h : X ≠ mgs k) : ∀ j, j < k + 1 → X ≠ mgs j := by
  intro j hj
  rcases Nat.lt_or_ge j k with h1 | h1
  · exact hno j h1
  · have : j = k := by omega
    subst this; exact h
theorem ret_way {N : Int} {o : Option Nat} {k : Nat} (hN : N = (o.getD 0 : Nat)) (h : o = some k) : Ending.returned (.tuple #[.int .i64 (k : Int), .bool true]) = .returned (.tuple #[.int .i64 N, .bool o.isSome]) := by
  subst h hN; rfl
theorem ret_noway {N : Int} {o : Option Nat} (hN : N = (o.getD 0 : Nat)) (h : o = none) : Ending.returned (.tuple #[.int .i64 0, .bool false]) = .returned (.tuple #[.int .i64 N, .bool o.isSome]) := by
  subst h hN; rfl

end Go.Proofs.Ytcedcfagfklohaa.Hd
