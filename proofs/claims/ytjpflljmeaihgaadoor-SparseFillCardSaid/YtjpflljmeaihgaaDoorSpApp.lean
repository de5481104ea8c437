/-
  append of one byte.
-/
import Derived.Test.YtjpflljmeaihgaaDoorSpKnown
namespace Go.Proofs.YtjpflljmeaihgaaDoor
open Go.RowKit Go.Lib

/-- append of one byte, of a block of its own. -/
theorem wpList_appY1 {W : World} {ops : Array Oper} {rest : List Oper} {o : Oper} {a : Act} {Q : Exit → Act → World → Prop} (hgd : o.guard = none) (s x : Operand)
    (ho : o.op = .call { callee := .builtin .append, args := #[s, x], argTypes := #[23, 23] })
    (base : Nat) (v : Value) (zs : List Int) (z : Int) (hs : a.eval s = v) (hown : OwnY W base v zs) (hbase : base ≤ W.heap.size) (hz : 0 ≤ z ∧ z ≤ 255)
    (hx : a.eval x = .slice (some ⟨W.heap.size, 0, none⟩) 1 1) (hl : zs.length ≤ 1000000)
    (h : ∀ v' w', Hid (OwnY w' base v' (zs ++ [z])) → Hid (Below base W w') → Hid ((W.alloc (.cells #[.int .u8 z] 5)).grownBy w' v.ownBlock) → wpList Tryd.prog ops Q rest (a.put o.dst v') w') :
    wpList Tryd.prog ops Q (o :: rest) a (W.alloc (.cells #[.int .u8 z] 5)) := by
  have hrd : Rd (W.alloc (.cells #[.int .u8 z] 5)) (W.heap.size + 1) (some ⟨W.heap.size, 0, none⟩) 1 [z] := Rd.lit W 5 (0, 0) [z] (by intro y hy; rw [List.mem_singleton] at hy; subst hy; exact hz)
  refine wpList_app_bytes hgd s x ho base v zs hs (World.ownsRow.alloc hown _) (W.heap.size + 1) (some ⟨W.heap.size, 0, none⟩) 1 1 [z] hx hrd (by omega) (by rw [World.size_alloc]; omega) ?_
  intro v' w' h1 h2 _
  exact h v' w' (Lib.hid h1) (Lib.hid (below_grown ((Below.refl base W).alloc hbase _) h2 (by rw [World.size_alloc]; omega) (fun g e => (World.ownsRow.lt hown g e).1))) (Lib.hid h2)

end Go.Proofs.YtjpflljmeaihgaaDoor
