/-
  A sink in memory; the contracts of New, Left, front.
-/
import Derived.Test.YtgjafjochgljnaaSnkMem
import Derived.Test.YtgjafjochgljnaaSumStep
import Derived.Deep.QuietTactic
import Derived.BigQuiet
namespace Go.Proofs.Ytgjafjochgljnaa
open Go.RowKit Go.Lib

/-- All but some blocks stays. -/
structure Fr (F : Nat → Prop) (w w' : World) : Prop where
  os : w'.os = w.os
  tape : w'.tape = w.tape
  output : w'.output = w.output
  size : w.heap.size ≤ w'.heap.size
  block : ∀ k, k < w.heap.size → ¬ F k → w'.heap[k]? = w.heap[k]?
theorem Fr.refl (F : Nat → Prop) (w : World) : Fr F w w := ⟨rfl, rfl, rfl, Nat.le_refl _, fun _ _ _ => rfl⟩
theorem Fr.trans {F : Nat → Prop} {a b c : World} (h : Fr F a b) (k : Fr F b c) : Fr F a c :=
  ⟨k.os.trans h.os, k.tape.trans h.tape, k.output.trans h.output, Nat.le_trans h.size k.size, fun i hi hF => (k.block i (Nat.lt_of_lt_of_le hi h.size) hF).trans (h.block i hi hF)⟩
theorem Fr.of_grown {F : Nat → Prop} {w w' : World} {row : Option Nat} (h : w.grownBy w' row) (hF : ∀ g, row = some g → F g) : Fr F w w' :=
  ⟨h.os, h.tape, h.output, h.size, fun k hk hn => h.block k hk (fun e => hn (hF k e.symm))⟩
theorem Fr.of_below {F : Nat → Prop} {w w' : World} (h : Below w.heap.size w w') : Fr F w w' := ⟨h.os, h.tape, h.output, h.size, fun k hk _ => h.block k hk⟩
theorem Fr.below {F : Nat → Prop} {w w' : World} {B : Nat} (h : Fr F w w') (hB : B ≤ w.heap.size) (hF : ∀ k, F k → B ≤ k) : Below B w w' :=
  ⟨h.os, h.tape, h.output, h.size, fun k hk => h.block k (by omega) (fun e => by have := hF k e; omega)⟩
theorem Fr.set {F : Nat → Prop} (w : World) (g i : Nat) (u : Value) (hF : F g) : Fr F w (w.setCell ⟨g, i, none⟩ u) :=
  ⟨rfl, rfl, rfl, by simp, fun k _ hn => heap_setCell_other w ⟨g, i, none⟩ k u (fun e => hn (by have e' : k = g := e; rw [e']; exact hF))⟩
theorem Fr.own {F : Nat → Prop} {w w' : World} {b : Nat} {v : Value} {l : List Int} (hf : Fr F w w') (h : OwnY w b v l) (hv : ∀ g, v.ownBlock = some g → ¬ F g) : OwnY w' b v l := by
  refine ⟨h.1, ?_⟩
  rcases h.2 with h' | ⟨g', cap, cur, h1, h2, h3, h4⟩
  · exact .inl h'
  · have e : v.ownBlock = some g' := by rw [h1]; rfl
    exact .inr ⟨g', cap, cur, h1, h2, (hf.block g' (h.lt e).2 (hv g' e)).trans h3, h4⟩

/-- What a sink takes of bytes. -/
def M.got (room : Int) (has n : Nat) : Nat := min n (room - has).toNat

/-- Block g is a sink: its room, what it has. -/
structure Snk (w : World) (base g : Nat) (v : Value) (room : Int) (zs : List Int) : Prop where
  blk : Blk w g 39 [.int .i64 room, v]
  own : OwnY w base v zs
  apart : v.ownBlock ≠ some g
  at_ : base ≤ g
  fits : (zs.length : Int) ≤ room
  top : room ≤ 9223372036854775807
  bytes : u8s zs
/-- The blocks of a sink. -/
def Snk.foot (g : Nat) (v : Value) (k : Nat) : Prop := k = g ∨ v.ownBlock = some k
section
variable {w w' : World} {base g : Nat} {v : Value} {room : Int} {zs : List Int}
theorem Snk.lt (h : Snk w base g v room zs) : g < w.heap.size := h.blk.lt
theorem Snk.kept (h : Snk w base g v room zs) {F : Nat → Prop} (hf : Fr F w w') (hF : ∀ k, Snk.foot g v k → ¬ F k) : Snk w' base g v room zs :=
  ⟨h.blk.of_block (hf.block g h.lt (hF g (.inl rfl))), hf.own h.own (fun k hk => hF k (.inr hk)), h.apart, h.at_, h.fits, h.top, h.bytes⟩
theorem Snk.later (h : Snk w base g v room zs) (hb : Below w.heap.size w w') : Snk w' base g v room zs := h.kept (F := fun _ => False) (Fr.of_below hb) (fun _ _ e => e)
theorem Snk.drew (h : Snk w base g v room zs) : Snk w.drew base g v room zs := ⟨h.blk, h.own, h.apart, h.at_, h.fits, h.top, h.bytes⟩
theorem Snk.drewN (h : Snk w base g v room zs) (n : Nat) : Snk (w.drewN n) base g v room zs := ⟨h.blk, h.own, h.apart, h.at_, h.fits, h.top, h.bytes⟩
theorem Snk.c0 (h : Snk w base g v room zs) : w.cell? ⟨g, 0, none⟩ = some (.int .i64 room) := h.blk.cell rfl
theorem Snk.c1 (h : Snk w base g v room zs) : w.cell? ⟨g, 1, none⟩ = some v := h.blk.cell rfl
theorem Snk.foot_lt (h : Snk w base g v room zs) {k : Nat} (hk : Snk.foot g v k) : base ≤ k ∧ k < w.heap.size := by
  rcases hk with rfl | hk
  · exact ⟨h.at_, h.lt⟩
  · exact h.own.lt hk
end

set_option maxHeartbeats 400000 in
theorem new_any (room : Int) (w : World) (hr : room ≤ 9223372036854775807) :
    Calls Try.prog 8 #[.int .i64 room] w fun e w' => ∃ g, e = .returned (.pointer (some ⟨g, 0, none⟩)) ∧ Snk w' w.heap.size g (.slice none 0 0) (max room 0) [] ∧ Below w.heap.size w w' := by
  by_cases h0 : room < 0
  · have hm : max room 0 = 0 := by omega
    rw [hm]
    clear hm
    go_enter Try.func8, Try.ntmps8
    go_wp2
    go_ret
    exact ⟨w.heap.size, rfl, ⟨Blk.new w _ [.int .i64 0, .slice none 0 0], OwnY.nil _ _, by simp [Value.ownBlock], Nat.le_refl _, by simp, by omega, by intro z hz; cases hz⟩, (Below.refl _ _).alloc (Nat.le_refl _) _⟩
  · have hm : max room 0 = room := by omega
    rw [hm]
    clear hm
    go_enter Try.func8, Try.ntmps8
    go_wp2
    go_ret
    exact ⟨w.heap.size, rfl, ⟨Blk.new w _ [.int .i64 room, .slice none 0 0], OwnY.nil _ _, by simp [Value.ownBlock], Nat.le_refl _, by simp; omega, by omega, by intro z hz; cases hz⟩, (Below.refl _ _).alloc (Nat.le_refl _) _⟩

set_option maxRecDepth 100000 in
set_option maxHeartbeats 400000 in
theorem left_any (base g : Nat) (v : Value) (room : Int) (zs : List Int) (w : World) (h : Snk w base g v room zs) :
    Calls Try.prog 11 #[.pointer (some ⟨g, 0, none⟩)] w fun e w' => e = .returned (.int .i64 (room - zs.length)) ∧ Below w.heap.size w w' := by
  have hf := h.fits
  have ht := h.top
  obtain ⟨A, c, rfl, _, _⟩ := own_room h.own
  have c0 := h.c0
  have c1 := h.c1
  have e1 : IntKind.i64.wrap (room - (zs.length : Int)) = room - zs.length := IntWalk.i64_in _ (by omega)
  clear h
  go_enter Try.func11, Try.ntmps11
  go_wp2_with fail
  go_quiet (fail)
  go_wp2
  go_ret
  exact ⟨ret_int (by first | rfl | omega), below_drewN' (Below.refl _ _) _⟩

set_option maxHeartbeats 400000 in
theorem front_any (A : Option Addr) (n c : Nat) (m : Nat) (w : World) (hm : m ≤ n) (hnc : n ≤ c) (hc : c ≤ maxLen) :
    Calls Try.prog 13 #[.slice A n c, .int .i64 m] w fun e w' => e = .returned (.slice A m m) ∧ Below w.heap.size w w' := by
  unfold maxLen at hc
  go_enter Try.func13, Try.ntmps13
  go_wp2
  go_ret
  exact ⟨by simp, Below.refl _ _⟩
end Go.Proofs.Ytgjafjochgljnaa
