/-
  Way, and the table that it reads.
-/
import Derived.Test.YtbjejgnfnpednaaDoorHdText
import Derived.LoopTactic
namespace Go.Proofs.YtbjejgnfnpednaaDoor
open Go.RowKit Go.Lib

/-- The table of the ways' texts, as it lies. -/
def mgs : Nat → ByteArray
  | 0 => ⟨#[0, 0, 0, 0, 0, 0, 0, 0]⟩
  | 1 => ⟨#[117, 115, 116, 97, 114, 0, 48, 48]⟩
  | _ => ⟨#[117, 115, 116, 97, 114, 32, 32, 0]⟩
def MG (w : World) : Prop := w.cell? ⟨0, 0, none⟩ = some (.string ⟨#[0, 0, 0, 0, 0, 0, 0, 0]⟩) ∧ w.cell? ⟨0, 1, none⟩ = some (.string ⟨#[117, 115, 116, 97, 114, 0, 48, 48]⟩) ∧ w.cell? ⟨0, 2, none⟩ = some (.string ⟨#[117, 115, 116, 97, 114, 32, 32, 0]⟩)
theorem MG.lt {w : World} (h : MG w) : 0 < w.heap.size := World.block_lt_of_cell? _ _ h.1
theorem MG.below {w w' : World} {B : Nat} (h : MG w) (hb : Below B w w') (hB : 0 < B) : MG w' :=
  ⟨(hb.cell (p := ⟨_, 0, none⟩) hB).trans h.1, (hb.cell (p := ⟨_, 1, none⟩) hB).trans h.2.1, (hb.cell (p := ⟨_, 2, none⟩) hB).trans h.2.2⟩
theorem MG.later {w w' : World} (h : MG w) (hb : Below w.heap.size w w') : MG w' := h.below hb h.lt

def wayN (zs : List Int) : Int := ((M.way zs).getD 0 : Nat)
def wayText (zs : List Int) : ByteArray := ⟨(M.toB (M.sub zs 257 8)).toArray⟩

/-- The place of a text in the table. -/
def wayX (X : ByteArray) : Option Nat := if X = mgs 0 then some 0 else if X = mgs 1 then some 1 else if X = mgs 2 then some 2 else none
theorem toB_inj {a b : List Int} (ha : ∀ z ∈ a, 0 ≤ z ∧ z ≤ 255) (hb : ∀ z ∈ b, 0 ≤ z ∧ z ≤ 255) (h : M.toB a = M.toB b) : a = b := by
  rw [← M.ints_toB ha, ← M.ints_toB hb, h]
theorem way_eq {zs : List Int} (hz : ∀ z ∈ zs, 0 ≤ z ∧ z ≤ 255) (hl : zs.length = 512) : M.way zs = wayX (wayText zs) := by
  have key : ∀ k, k < 3 → (wayText zs = mgs k ↔ M.sub zs 257 8 = M.magic k) := by
    intro k hk
    have hm : ∀ z ∈ M.magic k, 0 ≤ z ∧ z ≤ 255 := by
      have : k = 0 ∨ k = 1 ∨ k = 2 := by omega
      rcases this with rfl | rfl | rfl <;> decide
    have hx : mgs k = ⟨(M.toB (M.magic k)).toArray⟩ := by
      have : k = 0 ∨ k = 1 ∨ k = 2 := by omega
      rcases this with rfl | rfl | rfl <;> rfl
    rw [hx]
    unfold wayText
    constructor
    · intro h
      injection h with h
      have h2 := congrArg Array.toList h
      exact toB_inj (M.sub_bd hz) hm (by simpa using h2)
    · intro h; rw [h]
  unfold M.way wayX
  rw [if_pos hl]
  simp only [key 0 (by decide), key 1 (by decide), key 2 (by decide)]

theorem toList_inj {a b : ByteArray} (h : a.toList = b.toList) : a = b := by
  rw [ByteArray.toList_eq, ByteArray.toList_eq] at h
  obtain ⟨⟨a⟩⟩ := a
  obtain ⟨⟨b⟩⟩ := b
  simpa using h
theorem wayX_at {X : ByteArray} {k : Nat} (hk : k < 3) (h : X = mgs k) (hno : ∀ j, j < k → X ≠ mgs j) : wayX X = some k := by
  unfold wayX
  have : k = 0 ∨ k = 1 ∨ k = 2 := by omega
  rcases this with rfl | rfl | rfl
  · rw [if_pos h]
  · rw [if_neg (hno 0 (by decide)), if_pos h]
  · rw [if_neg (hno 0 (by decide)), if_neg (hno 1 (by decide)), if_pos h]
theorem wayX_none {X : ByteArray} (hno : ∀ j, j < 3 → X ≠ mgs j) : wayX X = none := by
  unfold wayX
  rw [if_neg (hno 0 (by decide)), if_neg (hno 1 (by decide)), if_neg (hno 2 (by decide))]
theorem way_more {X : ByteArray} {k : Nat} (hno : ∀ j, j < k → X ≠ mgs j) (h : X ≠ mgs k) : ∀ j, j < k + 1 → X ≠ mgs j := by
  intro j hj
  rcases Nat.lt_or_ge j k with h1 | h1
  · exact hno j h1
  · have : j = k := by omega
    subst this; exact h
theorem ret_way {N : Int} {o : Option Nat} {k : Nat} (hN : N = (o.getD 0 : Nat)) (h : o = some k) : Ending.returned (.tuple #[.int .i64 (k : Int), .bool true]) = .returned (.tuple #[.int .i64 N, .bool o.isSome]) := by
  subst h hN; rfl
theorem ret_noway {N : Int} {o : Option Nat} (hN : N = (o.getD 0 : Nat)) (h : o = none) : Ending.returned (.tuple #[.int .i64 0, .bool false]) = .returned (.tuple #[.int .i64 N, .bool o.isSome]) := by
  subst h hN; rfl

set_option maxRecDepth 100000 in
set_option maxHeartbeats 1000000 in
theorem way_any (A : Option Addr) (n c : Nat) (zs : List Int) (w : World) (B : Nat) (hr : Rd w B A n zs) (hc : n ≤ c) (hcm : c ≤ maxLen) (hmg : MG w) :
    Calls Tryd.prog 13 #[.slice A n c] w fun e w' => e = .returned (.tuple #[.int .i64 (wayN zs), .bool (M.way zs).isSome]) ∧ w = w' := by
  by_cases hn : n = 512
  · subst hn
    have HW := hid (way_eq hr.bd hr.len)
    obtain ⟨b, off, rfl, _, _⟩ := hr.2.2 (by decide)
    have hrs := hr.sub (a := 257) (m := 8) (by decide)
    have hcv := S.run_text (l := M.toB (M.sub zs 257 8)) (by rw [M.ints_toB (M.sub_bd hr.bd)]; exact hrs) (c - 257)
    rw [show (⟨(M.toB (M.sub zs 257 8)).toArray⟩ : ByteArray) = wayText zs from rfl] at hcv
    have HN : Hid (wayN zs = ((M.way zs).getD 0 : Nat)) := hid rfl
    generalize wayText zs = X at *
    generalize wayN zs = N at *
    obtain ⟨m0, m1, m2⟩ := hmg
    have hx0 : ∀ w : World, (Instr.index 61 (.agg #[.string ⟨#[0, 0, 0, 0, 0, 0, 0, 0]⟩, .string ⟨#[117, 115, 116, 97, 114, 0, 48, 48]⟩, .string ⟨#[117, 115, 116, 97, 114, 32, 32, 0]⟩]) (.int .i64 0)).run Tryd.prog w = .ok (.string ⟨#[0, 0, 0, 0, 0, 0, 0, 0]⟩) w := fun _ => by kernel_rfl
    have hx1 : ∀ w : World, (Instr.index 61 (.agg #[.string ⟨#[0, 0, 0, 0, 0, 0, 0, 0]⟩, .string ⟨#[117, 115, 116, 97, 114, 0, 48, 48]⟩, .string ⟨#[117, 115, 116, 97, 114, 32, 32, 0]⟩]) (.int .i64 1)).run Tryd.prog w = .ok (.string ⟨#[117, 115, 116, 97, 114, 0, 48, 48]⟩) w := fun _ => by kernel_rfl
    have hx2 : ∀ w : World, (Instr.index 61 (.agg #[.string ⟨#[0, 0, 0, 0, 0, 0, 0, 0]⟩, .string ⟨#[117, 115, 116, 97, 114, 0, 48, 48]⟩, .string ⟨#[117, 115, 116, 97, 114, 32, 32, 0]⟩]) (.int .i64 2)).run Tryd.prog w = .ok (.string ⟨#[117, 115, 116, 97, 114, 32, 32, 0]⟩) w := fun _ => by kernel_rfl
    unfold maxLen at hcm
    clear hr hrs
    go_enter Tryd.func13, Tryd.ntmps13
    go_wp2
    go_loop [4, 5, 10] (fun u v i => ∃ k : Nat, i = .int .i64 k ∧ k ≤ 3 ∧ ∀ j, j < k → X ≠ mgs j) (fun _ _ i => 3 - (RowKit.intOf i).toNat)
    case atStart => exact ⟨0, rfl, Nat.zero_le _, fun j hj => absurd hj (by omega)⟩
    case round =>
      obtain ⟨k, rfl, hk, hno⟩ := hrel
      have h4 : k = 0 ∨ k = 1 ∨ k = 2 ∨ k = 3 := by omega
      rcases h4 with rfl | rfl | rfl | rfl
      · by_cases hX : X = mgs 0
        · have e1 : (X.toList == [0, 0, 0, 0, 0, 0, 0, 0]) = true := by rw [hX, ByteArray.toList_eq]; rfl
          have HX := hid ((HW.out).trans (wayX_at (by decide) hX hno))
          clear hX hno
          go_wp2
          go_ret2
          exact ⟨ret_way HN.out HX.out, rfl⟩
        · have e1 : (X.toList == [0, 0, 0, 0, 0, 0, 0, 0]) = false := by
            rw [beq_eq_false_iff_ne]; exact fun e => hX (toList_inj (by rw [e, ByteArray.toList_eq]; rfl))
          have HR := hid (way_more hno hX)
          clear hX hno
          go_wp2
          go_round
          case rel => exact ⟨1, by go_num, by decide, HR.out⟩
          case measure => simp [RowKit.intOf]
      · by_cases hX : X = mgs 1
        · have e1 : (X.toList == [117, 115, 116, 97, 114, 0, 48, 48]) = true := by rw [hX, ByteArray.toList_eq]; rfl
          have HX := hid ((HW.out).trans (wayX_at (by decide) hX hno))
          clear hX hno
          go_wp2
          go_ret2
          exact ⟨ret_way HN.out HX.out, rfl⟩
        · have e1 : (X.toList == [117, 115, 116, 97, 114, 0, 48, 48]) = false := by
            rw [beq_eq_false_iff_ne]; exact fun e => hX (toList_inj (by rw [e, ByteArray.toList_eq]; rfl))
          have HR := hid (way_more hno hX)
          clear hX hno
          go_wp2
          go_round
          case rel => exact ⟨2, by go_num, by decide, HR.out⟩
          case measure => simp [RowKit.intOf]
      · by_cases hX : X = mgs 2
        · have e1 : (X.toList == [117, 115, 116, 97, 114, 32, 32, 0]) = true := by rw [hX, ByteArray.toList_eq]; rfl
          have HX := hid ((HW.out).trans (wayX_at (by decide) hX hno))
          clear hX hno
          go_wp2
          go_ret2
          exact ⟨ret_way HN.out HX.out, rfl⟩
        · have e1 : (X.toList == [117, 115, 116, 97, 114, 32, 32, 0]) = false := by
            rw [beq_eq_false_iff_ne]; exact fun e => hX (toList_inj (by rw [e, ByteArray.toList_eq]; rfl))
          have HR := hid (way_more hno hX)
          clear hX hno
          go_wp2
          go_round
          case rel => exact ⟨3, by go_num, by decide, HR.out⟩
          case measure => simp [RowKit.intOf]
      · have HX := hid ((HW.out).trans (wayX_none hno))
        clear hno
        go_wp2
        go_ret2
        exact ⟨ret_noway HN.out HX.out, rfl⟩
  · have e1 : ((n : Int) != 512) = true := by simp; omega
    have HX := hid (show M.way zs = none by unfold M.way; rw [if_neg (by rw [hr.len]; exact hn)])
    have HN : Hid (wayN zs = ((M.way zs).getD 0 : Nat)) := hid rfl
    clear hr hmg hn
    go_enter Tryd.func13, Tryd.ntmps13
    go_wp2
    go_ret2
    exact ⟨ret_noway HN.out HX.out, rfl⟩
end Go.Proofs.YtbjejgnfnpednaaDoor
