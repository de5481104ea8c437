/-
  Rows of numbers of the call's own; append of one.
-/
import Derived.Test.YtjpflljmeaihgaaDoorSpNum
namespace Go.Proofs.YtjpflljmeaihgaaDoor
open Go.RowKit Go.Lib

def icells (zs : List Int) : List Value := zs.map (Value.int .i64)
theorem icells_len (zs : List Int) : (icells zs).length = zs.length := by simp [icells]
theorem icells_app (a b : List Int) : icells (a ++ b) = icells a ++ icells b := by simp [icells]
theorem icells_at {zs : List Int} {j : Nat} {z : Int} (h : zs[j]? = some z) : (icells zs)[j]? = some (.int .i64 z) := by simp [icells, h]
theorem i64_parts : (Tryd.prog.info? 3).map (fun i => (i.zero, i.size, i.bytes)) = some (some (.int .i64 0), 1, 8) := by kernel_rfl
def OwnI (w : World) (base : Nat) (v : Value) (zs : List Int) : Prop := w.ownsRow base 3 1 v zs.length (icells zs)
theorem OwnI.nil (w : World) (base : Nat) : OwnI w base (.slice none 0 0) [] := World.ownsRow_nil _ _ _ _
theorem OwnI.grown {w w' : World} {b : Nat} {v : Value} {l : List Int} (h : OwnI w b v l) {row : Option Nat} (hg : w.grownBy w' row) (hr : v.ownBlock = none ∨ v.ownBlock ≠ row) : OwnI w' b v l := World.ownsRow.kept h hg hr
theorem OwnI.later {w w' : World} {b : Nat} {v : Value} {l : List Int} (h : OwnI w b v l) (hb : Below w.heap.size w w') : OwnI w' b v l := by
  cases hv : v.ownBlock with
  | none => exact h.grown (grown_of_below hb none) (.inl hv)
  | some g => exact h.grown (grown_of_below hb none) (.inr (by rw [hv]; simp))
/-- The slice reads as numbers, in a block below B. -/
def RdI (w : World) (B : Nat) (A : Option Addr) (n : Nat) (zs : List Int) : Prop :=
  zs.length = n ∧ (0 < n → ∃ b off, A = some ⟨b, off, none⟩ ∧ b < B ∧ ∀ (j : Nat) (z : Int), zs[j]? = some z → w.cell? ⟨b, off + j, none⟩ = some (.int .i64 z))
theorem RdI.at_ {w : World} {B n k : Nat} {A : Option Addr} {zs : List Int} (h : RdI w B A n zs) (hk : k < n) : ∃ b off z, A = some ⟨b, off, none⟩ ∧ b < B ∧ zs[k]? = some z ∧ w.cell? ⟨b, off + k, none⟩ = some (.int .i64 z) := by
  obtain ⟨b, off, e, hb, hc⟩ := h.2 (by omega)
  have hl : k < zs.length := by have := h.1; omega
  exact ⟨b, off, _, e, hb, List.getElem?_eq_getElem hl, hc k _ (List.getElem?_eq_getElem hl)⟩
theorem RdI.below {w w' : World} {B n : Nat} {A : Option Addr} {zs : List Int} (h : RdI w B A n zs) (hb : Below B w w') : RdI w' B A n zs :=
  ⟨h.1, fun hn => by
    obtain ⟨b, off, e, hlt, hc⟩ := h.2 hn
    exact ⟨b, off, e, hlt, fun j z hz => (hb.cell (p := ⟨b, off + j, none⟩) hlt).trans (hc j z hz)⟩⟩
theorem RdI.more {w : World} {B B' n : Nat} {A : Option Addr} {zs : List Int} (h : RdI w B A n zs) (hB : B ≤ B') : RdI w B' A n zs :=
  ⟨h.1, fun hn => by
    obtain ⟨b, off, e, hlt, hc⟩ := h.2 hn
    exact ⟨b, off, e, by omega, hc⟩⟩
theorem OwnI.rd {w : World} {base : Nat} {v : Value} {zs : List Int} (h : OwnI w base v zs) : ∃ A c, v = .slice A zs.length c ∧ RdI w w.heap.size A zs.length zs ∧ zs.length ≤ c := by
  obtain ⟨A, c, rfl, h1, _⟩ := own_room h
  refine ⟨A, c, rfl, ⟨rfl, fun hl => ?_⟩, h1⟩
  obtain ⟨g, cap, hv, _, hlt⟩ := World.ownsRow.form h hl
  have hA : A = some ⟨g, 0, none⟩ := by injection hv
  subst hA
  refine ⟨g, 0, rfl, hlt, fun j z hj => ?_⟩
  have hj1 : j < zs.length := (List.getElem?_eq_some_iff.1 hj).1
  have := World.ownsRow.cellAt h j (by omega)
  rw [Nat.zero_add, this]
  exact icells_at hj

/-- append of one number, of a block of its own. -/
theorem wpList_appI1 {W : World} {ops : Array Oper} {rest : List Oper} {o : Oper} {a : Act} {Q : Exit → Act → World → Prop} (hgd : o.guard = none) (s x : Operand)
    (ho : o.op = .call { callee := .builtin .append, args := #[s, x], argTypes := #[59, 59] })
    (base : Nat) (v : Value) (l : List Int) (z : Int) (hs : a.eval s = v) (hown : OwnI W base v l) (hbase : base ≤ W.heap.size)
    (hx : a.eval x = .slice (some ⟨W.heap.size, 0, none⟩) 1 1) (hl : l.length ≤ 1000000)
    (h : ∀ v' w', Hid (OwnI w' base v' (l ++ [z])) → Hid (Below base W w') → wpList Tryd.prog ops Q rest (a.put o.dst v') w') :
    wpList Tryd.prog ops Q (o :: rest) a (W.alloc (.cells #[.int .i64 z] 3)) := by
  obtain ⟨i0, hi, hz0, hz1, hz2⟩ := info_parts i64_parts
  have hownA : (W.alloc (.cells #[.int .i64 z] 3)).ownsRow base 3 1 v l.length (icells l) := World.ownsRow.alloc hown _
  refine wpList_append_own _ hgd s x 59 ho base 3 i0 (.int .i64 0) 1 8 Tryd.underlying59 hi hz0 hz1 hz2 rfl (by decide) v l.length (icells l) hs hownA ⟨W.heap.size, 0, none⟩ 1 1 [.int .i64 z] hx rfl ?_ ?_ ?_ ?_ ?_ ?_
  · intro j u hj
    match j, hj with
    | 0, hj => simp at hj; subst hj; simp [Addr.add, World.cell?_alloc_mark]
  · intro u hu
    simp at hu
    subst hu
    rfl
  · unfold maxLen; omega
  · omega
  · simp; omega
  · intro v' w' hown' hgrow _
    refine h v' w' (Lib.hid ?_) (Lib.hid ?_)
    · unfold OwnI
      rw [icells_app, List.length_append]
      exact hown'
    · refine below_grown ((Below.refl base W).alloc hbase _) hgrow (by simp; omega) ?_
      intro g hg
      exact (World.ownsRow.lt hownA g hg).1

namespace M
/-- The numbers from a place on; behind the end there are none. -/
def numsAt (L : List UInt8) (f : Nat) : Option (List Int) := if f ≤ L.length then nums (cuts (L.drop f)) else some []
theorem numsAt_zero (L : List UInt8) : numsAt L 0 = nums (cuts L) := by simp [numsAt]
theorem numsAt_end {L : List UInt8} {f : Nat} (h : L.length < f) : numsAt L f = some [] := by unfold numsAt; rw [if_neg (by omega)]
theorem numsAt_step {L : List UInt8} {f i : Nat} (hfi : f ≤ i) (hi : i ≤ L.length) (hc : i < L.length → L[i]? = some 44) (hno : ∀ c ∈ (L.drop f).take (i - f), c ≠ 44) :
    numsAt L f = match numOf ((L.drop f).take (i - f)) with | none => none | some v => (numsAt L (i + 1)).map (v :: ·) := by
  unfold numsAt
  rw [if_pos (by omega)]
  by_cases hlt : i < L.length
  · rw [if_pos (by omega)]
    obtain ⟨hl, he⟩ := List.getElem?_eq_some_iff.1 (hc hlt)
    have e : L.drop f = (L.drop f).take (i - f) ++ 44 :: L.drop (i + 1) := by
      conv => lhs; rw [← List.take_append_drop (i - f) (L.drop f)]
      rw [List.drop_drop, show f + (i - f) = i by omega, List.drop_eq_getElem_cons hl, he]
    conv => lhs; rw [e]
    rw [cuts_cut hno]
    rfl
  · rw [if_neg (by omega)]
    obtain rfl : i = L.length := by omega
    have e : (L.drop f).take (L.length - f) = L.drop f := List.take_of_length_le (by rw [List.length_drop]; exact Nat.le_refl _)
    rw [e] at hno ⊢
    rw [cuts_one hno]
    simp only [nums]
    cases numOf (L.drop f) <;> rfl
theorem numsAt_none {L : List UInt8} {f i : Nat} {acc : List Int} (h : nums (cuts L) = (numsAt L f).map (acc ++ ·)) (hfi : f ≤ i) (hi : i ≤ L.length) (hc : i < L.length → L[i]? = some 44) (hno : ∀ c ∈ (L.drop f).take (i - f), c ≠ 44)
    (hn : numOf ((L.drop f).take (i - f)) = none) : nums (cuts L) = none := by
  rw [h, numsAt_step hfi hi hc hno, hn]; rfl
theorem numsAt_some {L : List UInt8} {f i : Nat} {v : Int} {acc : List Int} (h : nums (cuts L) = (numsAt L f).map (acc ++ ·)) (hfi : f ≤ i) (hi : i ≤ L.length) (hc : i < L.length → L[i]? = some 44) (hno : ∀ c ∈ (L.drop f).take (i - f), c ≠ 44)
    (hn : numOf ((L.drop f).take (i - f)) = some v) : nums (cuts L) = (numsAt L (i + 1)).map ((acc ++ [v]) ++ ·) := by
  rw [h, numsAt_step hfi hi hc hno, hn]
  simp only [Option.map_map]
  congr 1
  funext x
  simp
theorem no_more {L : List UInt8} {f i : Nat} {c : UInt8} (hno : ∀ c ∈ (L.drop f).take (i - f), c ≠ 44) (hfi : f ≤ i) (hc : L[i]? = some c) (hne : c ≠ 44) : ∀ c ∈ (L.drop f).take (i + 1 - f), c ≠ 44 := by
  have e : (L.drop f).take (i + 1 - f) = (L.drop f).take (i - f) ++ [c] := by
    rw [show i + 1 - f = (i - f) + 1 by omega]
    obtain ⟨hl, he⟩ := List.getElem?_eq_some_iff.1 hc
    have hl2 : i - f < (L.drop f).length := by rw [List.length_drop]; omega
    rw [List.take_succ_eq_append_getElem hl2, List.getElem_drop]
    simp only [show f + (i - f) = i by omega, he]
  rw [e]
  intro x hx
  rw [List.mem_append, List.mem_singleton] at hx
  rcases hx with hx | rfl
  · exact hno x hx
  · exact hne
end M
theorem tl_mid (r : ByteArray) (f i : Nat) : tl (r.extract f i) = ((tl r).drop f).take (i - f) := by
  unfold tl
  simp [ByteArray.data_extract, List.extract_eq_take_drop]
end Go.Proofs.YtjpflljmeaihgaaDoor
