/-
  The chapter's examples hold.
-/
import Derived.Test.YtahhgphlfodonaaDoorStpParse
import Derived.Test.YtahhgphlfodonaaDoorStpPrint
import Derived.Laws.StructEq
namespace Go.Proofs.YtahhgphlfodonaaDoor
open Go.RowKit Go.Shelf

namespace M
theorem ex1 : parse [45, 49, 46, 53] = some (-2, 500000000) := by decide +kernel
theorem ex2 : parse [] = none := by decide +kernel
theorem ex3 : pr (norm (-2, 500000000)) = [45, 49, 46, 53] := by decide +kernel
theorem ex4 : pr (norm (7, 0)) = [55] := by decide +kernel
end M

set_option maxRecDepth 100000 in
set_option maxHeartbeats 4000000 in
theorem known_any (B : Nat) (w : World) (hB : B ≤ w.heap.size) (ht : TB B w) : Calls Tryd.prog 11 #[] w fun e w' => e = .returned (.bool true) ∧ Below w.heap.size w w' := by
  have C1 := fun W => parse_any ⟨#[45, 49, 46, 53]⟩ (by decide) W
  have C2 := fun W => parse_any ⟨#[]⟩ (by decide) W
  rw [show tl ⟨#[45, 49, 46, 53]⟩ = [45, 49, 46, 53] from rfl, M.ex1] at C1
  rw [show tl ⟨#[]⟩ = [] from rfl, M.ex2] at C2
  have C3 := fun B W h1 h2 => print_any (-2) 500000000 B W h1 h2
  have C4 := fun B W h1 h2 => print_any 7 0 B W h1 h2
  rw [M.ex3] at C3
  rw [M.ex4] at C4
  unfold ParseIs parseV tv at C1 C2
  unfold TextIs at C3 C4
  dsimp only at C1 C2 C3 C4
  have H1 := Lib.hid C1
  have H2 := Lib.hid C2
  have H3 := Lib.hid C3
  have H4 := Lib.hid C4
  have HT := Lib.hid (ht.up hB)
  clear C1 C2 C3 C4 ht
  go_enter Tryd.func11, Tryd.ntmps11
  go_wp2_with fail
  refine (H1.out _).mono ?_
  rintro e w1 ⟨rfl, hb1⟩
  go_wp2_with fail
  refine (H2.out _).mono ?_
  rintro e w2 ⟨rfl, hb2⟩
  have x1 := (BoxT.new w1 (-2, 500000000)).below hb2 (by simp)
  have b2 : Below w.heap.size w w2 := (hb1.alloc hb1.size _).trans (hb2.mono (by have := hb1.size; simp; omega))
  have x2 := x1.alloc (.cells #[.int .i64 0, .int .i64 0] 25)
  have b3 := b2.alloc b2.size (.cells #[.int .i64 0, .int .i64 0] 25)
  have c0 := x1.cell0
  have c1 := x1.cell1
  dsimp only at c0 c1
  have hlt := x1.lt
  clear hb1 hb2 x1
  go_wp2_with fail
  trace_state
  refine (H3.out w.heap.size _ b3.size (HT.out.on b3)).mono ?_
  rintro e w4 ⟨rfl, hb4⟩
  have b4 := b3.trans (hb4.mono b3.size)
  clear c0 c1 hb4
  go_wp2_with fail
  trace_state
  refine (H4.out w.heap.size _ b4.size (HT.out.on b4)).mono ?_
  rintro e w5 ⟨rfl, hb5⟩
  go_wp2
  go_ret
  exact ⟨rfl, b4.trans (hb5.mono b4.size)⟩
end Go.Proofs.YtahhgphlfodonaaDoor
