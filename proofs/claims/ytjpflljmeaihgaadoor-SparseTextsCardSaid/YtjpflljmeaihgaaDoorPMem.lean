/-
  A header in memory; what stops a call; the deferred functions' contracts.
-/
import Derived.Test.YtjpflljmeaihgaaDoorPMath
import Derived.Test.YtjpflljmeaihgaaDoorNumMem
import Derived.Test.YtjpflljmeaihgaaDoorProg
import Derived.Laws.CopyOwn
import Derived.Deep.WholeRow
import Derived.Deep.AppendLies
import Derived.Deep.RegionLawGrows
import Derived.Stop.BytesEq
import Derived.Laws.BytesString
import Derived.Laws.IdiomStrings
import Derived.Laws.MakeOwn
import Derived.RegionTactic
import Derived.OwnWalk
import Derived.WalkKit
import Derived.ProofKit
import Derived.Defers
import Derived.Recover
import Derived.Laws.Pointers
import Derived.WalkSmall
import Derived.WalkLawsBesides
namespace Go.Proofs.YtjpflljmeaihgaaDoor.H
open Go.RowKit Go.Lib

theorem below_drew' {B : Nat} {a w : World} (h : Below B a w) : Below B a w.drew := ⟨h.os, h.tape, h.output, h.size, h.block⟩
theorem below_grown {B : Nat} {w0 w w' : World} {row : Option Nat} (h : Below B w0 w) (hg : w.grownBy w' row) (hB : B ≤ w.heap.size) (hr : ∀ g, row = some g → B ≤ g) : Below B w0 w' :=
  h.trans ⟨hg.os, hg.tape, hg.output, hg.size, fun k hk => hg.block k (by omega) (fun e => by have := hr k e.symm; omega)⟩



theorem frozen_of_heap {w w' : World} {a : Addr} (e : w'.heap[a.block]? = w.heap[a.block]?) : w'.frozen? a = w.frozen? a := by
  unfold World.frozen?
  rw [e]

theorem after_alloc {w W : World} {o : Obj} (h : w.alloc o = W) : W.heap[w.heap.size]? = some o ∧ Below w.heap.size w W ∧ ∀ a : Addr, a.block < w.heap.size → W.cell? a = w.cell? a := by
  subst h
  exact ⟨heap_alloc_new w o, (Below.refl _ w).alloc (Nat.le_refl _) o, fun a ha => World.cell?_alloc_lt w o a ha⟩
/-- What stops a call, told by a number. -/
def boom (n : Int) : List PanicEntry := [{ v := .iface 34 (.int .u16 n), recovered := false }]

theorem demand_yes (n : Int) (w : World) : Calls Tryd.prog 51 #[.bool true, .int .u16 n] w fun e w' => e = .returned (.tuple #[]) ∧ w = w' := by
  go_enter Tryd.func51, Tryd.ntmps51
  go_wp2
  go_end0
  all_goals exact ⟨rfl, rfl⟩
theorem demand_no (n : Int) (w : World) : Calls Tryd.prog 51 #[.bool false, .int .u16 n] w fun e w' => e = .panicked (boom n) ∧ w = w' := by
  go_enter Tryd.func51, Tryd.ntmps51
  go_wp2
  all_goals exact ⟨rfl, rfl, rfl⟩

/-! Parse's deferred function. -/
theorem errno_nil (w : World) : (Instr.typeAssert .nilIface 20 34 true).run Tryd.prog w = .ok (.tuple #[.int .u16 0, .bool false]) w := by kernel_rfl
theorem errno_some (n : Int) (w : World) : (Instr.typeAssert (.iface 34 (.int .u16 n)) 20 34 true).run Tryd.prog w = .ok (.tuple #[.int .u16 n, .bool true]) w := by kernel_rfl
end Go.Proofs.YtjpflljmeaihgaaDoor.H
