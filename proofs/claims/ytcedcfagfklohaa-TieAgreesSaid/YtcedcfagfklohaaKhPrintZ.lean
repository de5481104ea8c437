/-
  Texts of one chapter, merged.
-/
import Derived.Test.YtcedcfagfklohaaKhHdMathQ
import Derived.Test.YtcedcfagfklohaaKhHSumMake
import Derived.LoopN
import Derived.LoopTactic
import Derived.StillTailTactics
set_option linter.unusedVariables false
set_option linter.unusedSimpArgs false
namespace Go.Proofs.Ytcedcfagfklohaa.Hd
open Go.RowKit Go.Lib

/-! Print's deferred function. -/
/-! Parts that came in. -/
def PartsB (w : World) (B : Nat) (pv : Value) (l : List (Int × Int)) : Prop :=
  ∃ A c, pv = .slice A l.length c ∧ l.length ≤ c ∧ (0 < l.length → ∃ b off, A = some ⟨b, off, none⟩ ∧ b < B ∧ ∀ (j : Nat) (p : Int × Int), l[j]? = some p → w.cell? ⟨b, off + 2 * j, none⟩ = some (.int .i64 p.1) ∧ w.cell? ⟨b, off + 2 * j + 1, none⟩ = some (.int .i64 p.2))
theorem PartsIs.in_ {w : World} {base : Nat} {pv : Value} {l : List (Int × Int)} (h : PartsIs w base pv l) : PartsB w w.heap.size pv l := by
  obtain ⟨A, c, rfl, h1, h2⟩ := h
  exact ⟨A, c, rfl, h1, fun hl => let ⟨b, off, e, _, h4, h5⟩ := h2 hl; ⟨b, off, e, h4, h5⟩⟩
theorem PartsB.below {w w' : World} {B : Nat} {pv : Value} {l : List (Int × Int)} (h : PartsB w B pv l) (hb : Below B w w') : PartsB w' B pv l := by
  obtain ⟨A, c, rfl, h1, h2⟩ := h
  exact ⟨A, c, rfl, h1, fun hl => let ⟨b, off, e, h4, h5⟩ := h2 hl; ⟨b, off, e, h4, fun j p hp => ⟨(hb.cell (p := ⟨b, off + 2 * j, none⟩) h4).trans (h5 j p hp).1, (hb.cell (p := ⟨b, off + 2 * j + 1, none⟩) h4).trans (h5 j p hp).2⟩⟩⟩
end Go.Proofs.Ytcedcfagfklohaa.Hd

namespace Go.Proofs.Ytcedcfagfklohaa.Hd
open Go.RowKit Go.Lib

/-- A part's variable beside a block that is being laid. -/
structure PP (w0 W : World) (gb g : Nat) (zs : List Int) (p q : Int) : Prop where
  arr : Arr W gb 5 zs
  box : W.heap[g]? = some (.cells #[.int .i64 p, .int .i64 q] 43 (0, 0))
  ne : gb ≠ g
  below : Below gb w0 W
theorem PP.new {w0 W : World} {gb : Nat} {zs : List Int} (ha : Arr W gb 5 zs) (hb : Below gb w0 W) (p q : Int) : PP w0 (W.alloc (.cells #[.int .i64 p, .int .i64 q] 43)) gb W.heap.size zs p q :=
  ⟨ha.alloc _, heap_alloc_new W _, Nat.ne_of_lt ha.lt, hb.alloc (Nat.le_of_lt ha.lt) _⟩
theorem PP.later {w0 W W' : World} {gb g : Nat} {zs : List Int} {p q : Int} (h : PP w0 W gb g zs p q) (hb : Below W.heap.size W W') : PP w0 W' gb g zs p q :=
  ⟨h.arr.below hb h.arr.lt, (hb.block _ (Array.getElem?_eq_some_iff.1 h.box).1).trans h.box, h.ne, h.below.trans (hb.mono (Nat.le_of_lt h.arr.lt))⟩
theorem PP.laid {w0 W : World} {gb g : Nat} {zs : List Int} {p q : Int} (h : PP w0 W gb g zs p q) (ys : List Int) : PP w0 (laid W gb ys) gb g ys p q :=
  ⟨h.arr.laid ys, (setRow_other _ _ _ _ (Ne.symm h.ne)).trans h.box, h.ne, below_setRow h.below (Nat.le_refl _) _⟩
theorem PP.cell0 {w0 W : World} {gb g : Nat} {zs : List Int} {p q : Int} (h : PP w0 W gb g zs p q) : W.cell? ⟨g, 0, none⟩ = some (.int .i64 p) := by rw [cell_of_row _ _ 0 _ _ _ h.box]; rfl
theorem PP.cell1 {w0 W : World} {gb g : Nat} {zs : List Int} {p q : Int} (h : PP w0 W gb g zs p q) : W.cell? ⟨g, 1, none⟩ = some (.int .i64 q) := by rw [cell_of_row _ _ 1 _ _ _ h.box]; rfl
theorem PP.more {w0 W : World} {gb g : Nat} {zs : List Int} {p q : Int} (h : PP w0 W gb g zs p q) (o : Obj) : PP w0 (W.alloc o) gb g zs p q := h.later ((Below.refl _ _).alloc (Nat.le_refl _) _)

namespace M
theorem pputs_zero {zs : List Int} {i : Nat} {p : Int × Int} {l : List (Int × Int)} (h : p.1 = 0 ∧ p.2 = 0) : pputs zs i (p :: l) = none := by rw [pputs, if_pos h]
theorem pputs_bad1 {zs : List Int} {i : Nat} {p : Int × Int} {l : List (Int × Int)} (h : ¬ (p.1 = 0 ∧ p.2 = 0)) (h1 : putOk p.1 12 0 most = false) : pputs zs i (p :: l) = none := by rw [pputs, if_neg h, h1, if_neg (by decide)]
theorem pputs_bad2 {zs : List Int} {i : Nat} {p : Int × Int} {l : List (Int × Int)} (h : ¬ (p.1 = 0 ∧ p.2 = 0)) (h1 : putOk p.1 12 0 most = true) (h2 : putOk p.2 12 0 most = false) : pputs zs i (p :: l) = none := by rw [pputs, if_neg h, h1, if_pos rfl, h2, if_neg (by decide)]
theorem pputs_next {zs : List Int} {i : Nat} {p : Int × Int} {l : List (Int × Int)} (h : ¬ (p.1 = 0 ∧ p.2 = 0)) (h1 : putOk p.1 12 0 most = true) (h2 : putOk p.2 12 0 most = true) :
    pputs zs i (p :: l) = pputs (splice (splice zs (386 + 24 * i) (putR p.1 12)) (386 + 24 * i + 12) (putR p.2 12)) (i + 1) l := by rw [pputs, if_neg h, h1, if_pos rfl, h2, if_pos rfl]
theorem putOk_fits {x : Int} {m : Nat} {lo up : Int} (h : putOk x m lo up = true) : putFits x m = true := by
  unfold putOk at h
  rw [Bool.and_eq_true] at h
  exact h.1
end M

/-- The rounds of printParts: k are done. -/
def PutAt (w : World) (gb : Nat) (zs : List Int) (l : List (Int × Int)) (i : Value) (wr : World) : Prop :=
  ∃ (k : Nat) (zk : List Int), i = .int .i64 k ∧ k ≤ l.length ∧ Hid (zk.length = 512) ∧ Hid (M.pputs zs 0 l = M.pputs zk k (l.drop k)) ∧ Hid (Arr wr gb 5 zk) ∧ Hid (Below gb w wr)

def i64p (l : List (Int × Int)) : Prop := ∀ p ∈ l, (-9223372036854775808 ≤ p.1 ∧ p.1 ≤ 9223372036854775807) ∧ (-9223372036854775808 ≤ p.2 ∧ p.2 ≤ 9223372036854775807)

end Go.Proofs.Ytcedcfagfklohaa.Hd

namespace Go.Proofs.Ytcedcfagfklohaa.Hd
open Go.RowKit Go.Lib

theorem splice_bd {zs ys : List Int} {a : Nat} (h : ∀ z ∈ zs, 0 ≤ z ∧ z ≤ 255) (hy : ∀ z ∈ ys, 0 ≤ z ∧ z ≤ 255) : ∀ z ∈ splice zs a ys, 0 ≤ z ∧ z ≤ 255 := by
  intro z hz
  unfold splice at hz
  rcases List.mem_append.1 hz with h1 | h1
  · exact h z (List.mem_of_mem_take h1)
  · rcases List.mem_append.1 h1 with h2 | h2
    · exact hy z h2
    · exact h z (List.mem_of_mem_drop h2)
theorem listOf_bd {g : Nat → Int} {N : Nat} (hg : ∀ j, 0 ≤ g j ∧ g j ≤ 255) : ∀ z ∈ M.listOf g N, 0 ≤ z ∧ z ≤ 255 := by
  intro z hz
  unfold M.listOf at hz
  obtain ⟨j, _, rfl⟩ := List.mem_map.1 hz
  exact hg j
theorem putR_bd (x m : Int) : ∀ z ∈ M.putR x m, 0 ≤ z ∧ z ≤ 255 := by
  unfold M.putR M.binR
  split
  · exact listOf_bd (M.octG_bd _ _)
  · split
    · exact listOf_bd (M.binG_bd _ _)
    · intro z hz; cases hz
theorem magic_bd (k : Nat) : ∀ z ∈ M.magic k, 0 ≤ z ∧ z ≤ 255 := by
  match k with
  | 0 => decide
  | 1 => decide
  | k + 2 => show ∀ z ∈ [117, 115, 116, 97, 114, 32, 32, 0], (0 : Int) ≤ z ∧ z ≤ 255; decide
theorem set_bd {zs : List Int} {i : Nat} {x : Int} (h : ∀ z ∈ zs, 0 ≤ z ∧ z ≤ 255) (hx : 0 ≤ x ∧ x ≤ 255) : ∀ z ∈ zs.set i x, 0 ≤ z ∧ z ≤ 255 := by
  intro z hz
  rcases List.mem_or_eq_of_mem_set hz with h1 | h1
  · exact h z h1
  · rw [h1]; exact hx
theorem pputs_bd : ∀ (l : List (Int × Int)) (zs : List Int) (i : Nat) (ys : List Int), (∀ z ∈ zs, 0 ≤ z ∧ z ≤ 255) → M.pputs zs i l = some ys → ∀ z ∈ ys, 0 ≤ z ∧ z ≤ 255
  | [], zs, i, ys, h, e => by
    rw [M.pputs] at e
    injection e with e
    subst e; exact h
  | p :: l, zs, i, ys, h, e => by
    rw [M.pputs] at e
    split at e
    · cases e
    · split at e
      · split at e
        · exact pputs_bd l _ _ ys (splice_bd (splice_bd h (putR_bd _ _)) (putR_bd _ _)) e
        · cases e
      · cases e
theorem putP_bd {l : List (Int × Int)} {zs ys : List Int} (h : ∀ z ∈ zs, 0 ≤ z ∧ z ≤ 255) (e : M.putP zs l = some ys) : ∀ z ∈ ys, 0 ≤ z ∧ z ≤ 255 := by
  unfold M.putP at e
  split at e
  · exact pputs_bd l zs 0 ys h e
  · cases e
theorem splice_len {zs ys : List Int} {a n : Nat} (h : zs.length = 512) (hy : ys.length = n) (ha : a + n ≤ 512) : (splice zs a ys).length = 512 := by
  rw [length_splice _ _ _ (by omega), h]
namespace M
/-- What is asked of the texts, one by one. -/
def bareAt (h : Hdr) : Nat → Bool
  | 2 => (h.way != 0) || blank h.user
  | 3 => (h.way != 0) || blank h.group
  | 4 => (h.way == 1) || blank h.pre
  | _ => true
theorem bare_all {h : Hdr} (hj : ∀ j, j < 5 → bareAt h j = true) : bare h = true := by
  have h2 := hj 2 (by decide)
  have h3 := hj 3 (by decide)
  have h4 := hj 4 (by decide)
  unfold bare
  change ((h.way != 0) || blank h.user) = true at h2
  change ((h.way != 0) || blank h.group) = true at h3
  change ((h.way == 1) || blank h.pre) = true at h4
  rw [h2, h3, h4]
  rfl
theorem bare_not {h : Hdr} {j : Nat} (hj : bareAt h j = false) : bare h = false := by
  unfold bare
  match j with
  | 0 => cases hj
  | 1 => cases hj
  | 2 =>
    change ((h.way != 0) || blank h.user) = false at hj
    rw [hj]; rfl
  | 3 =>
    change ((h.way != 0) || blank h.group) = false at hj
    rw [hj]; simp
  | 4 =>
    change ((h.way == 1) || blank h.pre) = false at hj
    rw [hj]; simp
  | j + 5 => cases hj
theorem bare_more {h : Hdr} {k : Nat} (hj : ∀ j, j < k → bareAt h j = true) (hk : bareAt h k = true) : ∀ j, j < k + 1 → bareAt h j = true := by
  intro j h1
  rcases Nat.lt_or_ge j k with h2 | h2
  · exact hj j h2
  · have : j = k := by omega
    subst this; exact hk
theorem known_bd {k : Int} (h : known k = true) : 0 ≤ k ∧ k ≤ 255 := by
  unfold known at h
  simp at h
  omega
end M
end Go.Proofs.Ytcedcfagfklohaa.Hd
