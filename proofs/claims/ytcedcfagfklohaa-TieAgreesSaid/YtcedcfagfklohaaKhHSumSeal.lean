/-
  The contract of Seal of the program.
-/
import Derived.Test.YtcedcfagfklohaaKhHSumZero
import Derived.Test.YtcedcfagfklohaaKhNumPut
set_option linter.unusedVariables false
set_option linter.unusedSimpArgs false
namespace Go.Proofs.Ytcedcfagfklohaa.Hd
open Go.RowKit Go.Lib


/-- A block of 512 bytes of its own. -/
def SealPost (t : TypeId) (zs : List Int) (w : World) (e : Ending) (w' : World) : Prop :=
  ∃ g, e = .returned (.slice (some ⟨g, 0, none⟩) 512 512) ∧ w.heap.size ≤ g ∧ Arr w' g t zs ∧ Below w.heap.size w w'

theorem rd_cells {w : World} {B n : Nat} {A : Option Addr} {zs : List Int} (h : Rd w B A n zs) (hn : 0 < n) : ∃ ad, A = some ad ∧ ad.block < B ∧ ∀ j v, (bcells zs)[j]? = some v → w.cell? (ad.add j) = some v := by
  obtain ⟨b, off, rfl, hb, hc⟩ := h.2.2 hn
  refine ⟨_, rfl, hb, fun j v hv => ?_⟩
  obtain ⟨z, hz, rfl⟩ := bcells_at' hv
  rw [add_lit']
  exact hc j z hz

theorem new_cell (w : World) (t : TypeId) (z : Int) : ∀ j u, [Value.int .u8 z][j]? = some u → (w.alloc (.cells #[.int .u8 z] t)).cell? ((⟨w.heap.size, 0, none⟩ : Addr).add j) = some u := by
  intro j u hj
  match j, hj with
  | 0, hj =>
    simp at hj
    subst hj
    simp [Addr.add, World.cell?_alloc_mark]

set_option maxRecDepth 100000 in
/-- The field with its blank, as one step of a region that draws. -/
theorem step_blank {ops : Array Oper} {o : Oper} {a : Act} {W : World} {K : Act → World → Prop} {Q : Exit → Act → World → Prop} {E : Prop} (hgd : o.guard = none) (s x : Operand)
    (ho : o.op = .call { callee := .builtin .append, args := #[s, x], argTypes := #[22, 22] })
    (w w4 : World) (g : Nat) (zs : List Int) (t : TypeId) (FS : List Value) (fa : Addr) (hW : W = (w4.alloc (.cells #[.int .u8 32] 5)).drew) (hs : a.eval s = .slice (some fa) 7 7) (hx : a.eval x = .slice (some ⟨w4.heap.size, 0, none⟩) 1 1)
    (hl : FS.length = 7) (hfb : fa.block < w4.heap.size) (hfc : ∀ j u, FS[j]? = some u → w4.cell? (fa.add j) = some u) (hA : Arr w4 g t zs) (hb : Below w.heap.size w w4)
    (h : ∀ g5 cap5 w5, Hid (∀ j u, (FS ++ [Value.int .u8 32])[j]? = some u → w5.cell? ((⟨g5, 0, none⟩ : Addr).add j) = some u) → Hid (Arr w5 g t zs) → Hid (Below w.heap.size w w5) → K (a.put o.dst (.slice (some ⟨g5, 0, none⟩) 8 cap5)) w5) :
    if Region.wanted o (yielded ops a.tmps) = true then Oper.wp Try.prog o a W K Q else E := by
  obtain ⟨i0, hi, hz0, hz1, hz2⟩ := info_parts u8_parts
  subst hW
  refine step_append_grows hgd s x 22 ho 5 i0 (.int .u8 0) 1 1 Try.underlying22 hi hz0 hz1 hz2 rfl (by decide) (some fa) 7 7 FS hs (fun h => nomatch h) hl ?_ ⟨w4.heap.size, 0, none⟩ 1 1 [.int .u8 32] hx rfl ?_ (by simp [Value.oneCell']) (by decide) (by unfold maxLen; omega) (by omega) ?_
  · intro b hb j u hu
    injection hb with hb
    subst hb
    show (w4.alloc _).cell? _ = _
    rw [World.cell?_alloc_lt _ _ _ (by rw [block_of_add']; exact hfb)]
    exact hfc j u hu
  · exact new_cell w4 5 32
  · intro v5 w5 hown hgrow
    obtain ⟨g5, cap5, rfl, _, _⟩ := hown.form (by decide)
    have hsz : (w4.alloc (.cells #[.int .u8 32] 5)).drew.heap.size = w4.heap.size + 1 := by show (w4.heap.push _).size = _; simp
    refine h g5 cap5 w5 (hid (hown.cells (g := g5) rfl)) (hid ((hA.alloc (.cells #[.int .u8 32] 5)).drew.of_block (hgrow.block g (by rw [hsz]; have := hA.lt; omega) (fun h => nomatch h)))) (hid ?_)
    exact below_grown (below_drew' (hb.alloc hb.size (.cells #[.int .u8 32] 5))) hgrow (by rw [hsz]; have := hb.size; omega) (fun g h => nomatch h)

end Go.Proofs.Ytcedcfagfklohaa.Hd
