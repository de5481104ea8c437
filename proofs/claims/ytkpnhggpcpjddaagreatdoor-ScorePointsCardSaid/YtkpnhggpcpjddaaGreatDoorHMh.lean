/-
  Texts of one chapter, merged.
-/
import Derived.Test.YtkpnhggpcpjddaaGreatDoorHdMathQ
import Derived.Test.YtkpnhggpcpjddaaGreatDoorHSumMake
import Derived.LoopN
import Derived.LoopTactic
import Derived.StillTailTactics
set_option linter.unusedVariables false
set_option linter.unusedSimpArgs false
/-! head.Print: how it is left; printParts. -/
namespace Go.Proofs.YtkpnhggpcpjddaaGreatDoor
open Go.RowKit Go.Lib

/-! Print's deferred function. -/
/-- A frame of Print: the header's own copy, then the bytes' variable, then the error's. -/
structure QF (w0 w : World) (h : M.Hdr) (pv v : Value) : Prop where
  box : HB w w0.heap.size h pv
  bytes : w.heap[w0.heap.size + 1]? = some (.cells #[v] 22 (0, 0))
  err : w.heap[w0.heap.size + 2]? = some (.cells #[.int .u16 0] 42 (0, 0))
  below : Below w0.heap.size w0 w
theorem QF.keep {w0 w w' : World} {h : M.Hdr} {pv v : Value} (q : QF w0 w h pv v) (hb : Below (w0.heap.size + 3) w w') : QF w0 w' h pv v :=
  ⟨(hb.block _ (by omega)).trans q.box, (hb.block _ (by omega)).trans q.bytes, (hb.block _ (by omega)).trans q.err, q.below.trans (hb.mono (by omega))⟩
theorem QF.size {w0 w : World} {h : M.Hdr} {pv v : Value} (q : QF w0 w h pv v) : w0.heap.size + 3 ≤ w.heap.size := (Array.getElem?_eq_some_iff.1 q.err).1
theorem QF.later {w0 w w' : World} {h : M.Hdr} {pv v : Value} (q : QF w0 w h pv v) (hb : Below w.heap.size w w') : QF w0 w' h pv v := q.keep (hb.mono q.size)

/-- What Print answers. -/
def PrintIs (r : Int × List Int) (w0 : World) (e : Ending) (w' : World) : Prop :=
  (if r.1 = 0 then ∃ g, e = .returned (.tuple #[.slice (some ⟨g, 0, none⟩) 512 512, .int .u16 0]) ∧ w0.heap.size ≤ g ∧ Arr w' g 65 r.2
    else e = .returned (.tuple #[.slice none 0 0, .int .u16 r.1])) ∧ Below w0.heap.size w0 w'
/-! Parts that came in. -/
def PartsB (w : World) (B : Nat) (pv : Value) (l : List (Int × Int)) : Prop :=
  ∃ A c, pv = .slice A l.length c ∧ l.length ≤ c ∧ (0 < l.length → ∃ b off, A = some ⟨b, off, none⟩ ∧ b < B ∧ ∀ (j : Nat) (p : Int × Int), l[j]? = some p → w.cell? ⟨b, off + 2 * j, none⟩ = some (.int .i64 p.1) ∧ w.cell? ⟨b, off + 2 * j + 1, none⟩ = some (.int .i64 p.2))
theorem PartsIs.in_ {w : World} {base : Nat} {pv : Value} {l : List (Int × Int)} (h : PartsIs w base pv l) : PartsB w w.heap.size pv l := by
  obtain ⟨A, c, rfl, h1, h2⟩ := h
  exact ⟨A, c, rfl, h1, fun hl => let ⟨b, off, e, _, h4, h5⟩ := h2 hl; ⟨b, off, e, h4, h5⟩⟩
theorem PartsB.below {w w' : World} {B : Nat} {pv : Value} {l : List (Int × Int)} (h : PartsB w B pv l) (hb : Below B w w') : PartsB w' B pv l := by
  obtain ⟨A, c, rfl, h1, h2⟩ := h
  exact ⟨A, c, rfl, h1, fun hl => let ⟨b, off, e, h4, h5⟩ := h2 hl; ⟨b, off, e, h4, fun j p hp => ⟨(hb.cell (p := ⟨b, off + 2 * j, none⟩) h4).trans (h5 j p hp).1, (hb.cell (p := ⟨b, off + 2 * j + 1, none⟩) h4).trans (h5 j p hp).2⟩⟩⟩
end Go.Proofs.YtkpnhggpcpjddaaGreatDoor

/-! printParts. -/
namespace Go.Proofs.YtkpnhggpcpjddaaGreatDoor
open Go.RowKit Go.Lib

/-- A part's variable beside a block that is being laid. -/
structure PP (w0 W : World) (gb g : Nat) (zs : List Int) (p q : Int) : Prop where
  arr : Arr W gb 5 zs
  box : W.heap[g]? = some (.cells #[.int .i64 p, .int .i64 q] 62 (0, 0))
  ne : gb ≠ g
  below : Below gb w0 W
theorem PP.new {w0 W : World} {gb : Nat} {zs : List Int} (ha : Arr W gb 5 zs) (hb : Below gb w0 W) (p q : Int) : PP w0 (W.alloc (.cells #[.int .i64 p, .int .i64 q] 62)) gb W.heap.size zs p q :=
  ⟨ha.alloc _, heap_alloc_new W _, Nat.ne_of_lt ha.lt, hb.alloc (Nat.le_of_lt ha.lt) _⟩
theorem PP.later {w0 W W' : World} {gb g : Nat} {zs : List Int} {p q : Int} (h : PP w0 W gb g zs p q) (hb : Below W.heap.size W W') : PP w0 W' gb g zs p q :=
  ⟨h.arr.below hb h.arr.lt, (hb.block _ (Array.getElem?_eq_some_iff.1 h.box).1).trans h.box, h.ne, h.below.trans (hb.mono (Nat.le_of_lt h.arr.lt))⟩
theorem PP.laid {w0 W : World} {gb g : Nat} {zs : List Int} {p q : Int} (h : PP w0 W gb g zs p q) (ys : List Int) : PP w0 (laid W gb ys) gb g ys p q :=
  ⟨h.arr.laid ys, (setRow_other _ _ _ _ (Ne.symm h.ne)).trans h.box, h.ne, below_setRow h.below (Nat.le_refl _) _⟩
theorem PP.cell0 {w0 W : World} {gb g : Nat} {zs : List Int} {p q : Int} (h : PP w0 W gb g zs p q) : W.cell? ⟨g, 0, none⟩ = some (.int .i64 p) := by rw [cell_of_row _ _ 0 _ _ _ h.box]; rfl
theorem PP.cell1 {w0 W : World} {gb g : Nat} {zs : List Int} {p q : Int} (h : PP w0 W gb g zs p q) : W.cell? ⟨g, 1, none⟩ = some (.int .i64 q) := by rw [cell_of_row _ _ 1 _ _ _ h.box]; rfl
theorem PP.more {w0 W : World} {gb g : Nat} {zs : List Int} {p q : Int} (h : PP w0 W gb g zs p q) (o : Obj) : PP w0 (W.alloc o) gb g zs p q := h.later ((Below.refl _ _).alloc (Nat.le_refl _) _)

def PartsPut (o : Option (List Int)) (gb : Nat) (w : World) (e : Ending) (w' : World) : Prop :=
  (match o with
    | none => e = .panicked (boom 32)
    | some ys => e = .returned (.tuple #[]) ∧ Arr w' gb 5 ys ∧ ys.length = 512) ∧ Below gb w w'
theorem PartsPut.no {o : Option (List Int)} {gb : Nat} {w w' : World} (ho : o = none) (hb : Below gb w w') : PartsPut o gb w (.panicked (boom 32)) w' := by
  subst ho; exact ⟨rfl, hb⟩
theorem PartsPut.yes {o : Option (List Int)} {ys : List Int} {gb : Nat} {w w' : World} (ho : o = some ys) (ha : Arr w' gb 5 ys) (hl : ys.length = 512) (hb : Below gb w w') : PartsPut o gb w (.returned (.tuple #[])) w' := by
  subst ho; exact ⟨⟨rfl, ha, hl⟩, hb⟩

namespace M
theorem pputs_zero {zs : List Int} {i : Nat} {p : Int × Int} {l : List (Int × Int)} (h : p.1 = 0 ∧ p.2 = 0) : pputs zs i (p :: l) = none := by rw [pputs, if_pos h]
theorem pputs_bad1 {zs : List Int} {i : Nat} {p : Int × Int} {l : List (Int × Int)} (h : ¬ (p.1 = 0 ∧ p.2 = 0)) (h1 : putOk p.1 12 0 most = false) : pputs zs i (p :: l) = none := by rw [pputs, if_neg h, h1, if_neg (by decide)]
theorem pputs_bad2 {zs : List Int} {i : Nat} {p : Int × Int} {l : List (Int × Int)} (h : ¬ (p.1 = 0 ∧ p.2 = 0)) (h1 : putOk p.1 12 0 most = true) (h2 : putOk p.2 12 0 most = false) : pputs zs i (p :: l) = none := by rw [pputs, if_neg h, h1, if_pos rfl, h2, if_neg (by decide)]
theorem pputs_next {zs : List Int} {i : Nat} {p : Int × Int} {l : List (Int × Int)} (h : ¬ (p.1 = 0 ∧ p.2 = 0)) (h1 : putOk p.1 12 0 most = true) (h2 : putOk p.2 12 0 most = true) :
    pputs zs i (p :: l) = pputs (splice (splice zs (386 + 24 * i) (putR p.1 12)) (386 + 24 * i + 12) (putR p.2 12)) (i + 1) l := by rw [pputs, if_neg h, h1, if_pos rfl, h2, if_pos rfl]
theorem putOk_fits {x : Int} {m : Nat} {lo up : Int} (h : putOk x m lo up = true) : putFits x m = true := by
  unfold putOk at h
  rw [Bool.and_eq_true] at h
  exact h.1
end M

/-- The rounds of printParts: k are done. -/
def PutAt (w : World) (gb : Nat) (zs : List Int) (l : List (Int × Int)) (i : Value) (wr : World) : Prop :=
  ∃ (k : Nat) (zk : List Int), i = .int .i64 k ∧ k ≤ l.length ∧ Hid (zk.length = 512) ∧ Hid (M.pputs zs 0 l = M.pputs zk k (l.drop k)) ∧ Hid (Arr wr gb 5 zk) ∧ Hid (Below gb w wr)

def i64p (l : List (Int × Int)) : Prop := ∀ p ∈ l, (-9223372036854775808 ≤ p.1 ∧ p.1 ≤ 9223372036854775807) ∧ (-9223372036854775808 ≤ p.2 ∧ p.2 ≤ 9223372036854775807)

end Go.Proofs.YtkpnhggpcpjddaaGreatDoor

/-! head.Print: its steps. -/
namespace Go.Proofs.YtkpnhggpcpjddaaGreatDoor
open Go.RowKit Go.Lib

/-- A frame of Print, with the block so far. -/
structure RF (w0 W : World) (h : M.Hdr) (pv : Value) (zs : List Int) : Prop where
  q : QF w0 W h pv (.slice (some ⟨w0.heap.size + 3, 0, none⟩) 512 512)
  arr : Arr W (w0.heap.size + 3) 5 zs
  len : zs.length = 512
  bd : ∀ z ∈ zs, 0 ≤ z ∧ z ≤ 255
theorem RF.later {w0 W W' : World} {h : M.Hdr} {pv : Value} {zs : List Int} (r : RF w0 W h pv zs) (hb : Below W.heap.size W W') : RF w0 W' h pv zs := ⟨r.q.later hb, r.arr.below hb r.arr.lt, r.len, r.bd⟩
theorem RF.more {w0 W : World} {h : M.Hdr} {pv : Value} {zs : List Int} (r : RF w0 W h pv zs) (o : Obj) : RF w0 (W.alloc o) h pv zs := r.later ((Below.refl _ _).alloc (Nat.le_refl _) _)
theorem RF.laid {w0 W : World} {h : M.Hdr} {pv : Value} {zs : List Int} (r : RF w0 W h pv zs) {ys : List Int} (hl : ys.length = 512) (hbd : ∀ z ∈ ys, 0 ≤ z ∧ z ≤ 255) : RF w0 (laid W (w0.heap.size + 3) ys) h pv ys :=
  ⟨r.q.keep (below_setRow (Below.refl _ _) (Nat.le_refl _) _), r.arr.laid ys, hl, hbd⟩
theorem RF.cb {w0 W : World} {h : M.Hdr} {pv : Value} {zs : List Int} (r : RF w0 W h pv zs) : W.cell? ⟨w0.heap.size + 1, 0, none⟩ = some (.slice (some ⟨w0.heap.size + 3, 0, none⟩) 512 512) := by rw [cell_of_row _ _ 0 _ _ _ r.q.bytes]; rfl
theorem RF.drew {w0 W : World} {h : M.Hdr} {pv : Value} {zs : List Int} (r : RF w0 W h pv zs) : RF w0 W.drew h pv zs := ⟨⟨r.q.box, r.q.bytes, r.q.err, below_drew' r.q.below⟩, r.arr, r.len, r.bd⟩

theorem QF.start (w : World) (h : M.Hdr) (pv : Value) : QF w (((w.alloc (.cells (hcells h pv) 33)).alloc (.cells #[.slice none 0 0] 22)).alloc (.cells #[.int .u16 0] 42)) h pv (.slice none 0 0) := by
  have h1 := heap_alloc_new (w.alloc (.cells (hcells h pv) 33)) (.cells #[.slice none 0 0] 22)
  have h2 := heap_alloc_new ((w.alloc (.cells (hcells h pv) 33)).alloc (.cells #[.slice none 0 0] 22)) (.cells #[.int .u16 0] 42)
  rw [World.size_alloc] at h1
  rw [World.size_alloc, World.size_alloc] at h2
  refine ⟨((HB.new w h pv).alloc _).alloc _, ?_, h2, (((Below.refl _ w).alloc (Nat.le_refl _) _).alloc (by simp) _).alloc (by simp; omega) _⟩
  rw [Below.heap_alloc _ _ _ (by simp)]
  exact h1

theorem splice_bd {zs ys : List Int} {a : Nat} (h : ∀ z ∈ zs, 0 ≤ z ∧ z ≤ 255) (hy : ∀ z ∈ ys, 0 ≤ z ∧ z ≤ 255) : ∀ z ∈ splice zs a ys, 0 ≤ z ∧ z ≤ 255 := by
  intro z hz
  unfold splice at hz
  rcases List.mem_append.1 hz with h1 | h1
  · exact h z (List.mem_of_mem_take h1)
  · rcases List.mem_append.1 h1 with h2 | h2
    · exact hy z h2
    · exact h z (List.mem_of_mem_drop h2)
theorem listOf_bd {g : Nat → Int} {N : Nat} (hg : ∀ j, 0 ≤ g j ∧ g j ≤ 255) : ∀ z ∈ M.listOf g N, 0 ≤ z ∧ z ≤ 255 := by
  intro z hz
  unfold M.listOf at hz
  obtain ⟨j, _, rfl⟩ := List.mem_map.1 hz
  exact hg j
theorem putR_bd (x m : Int) : ∀ z ∈ M.putR x m, 0 ≤ z ∧ z ≤ 255 := by
  unfold M.putR M.binR
  split
  · exact listOf_bd (M.octG_bd _ _)
  · split
    · exact listOf_bd (M.binG_bd _ _)
    · intro z hz; cases hz
theorem magic_bd (k : Nat) : ∀ z ∈ M.magic k, 0 ≤ z ∧ z ≤ 255 := by
  match k with
  | 0 => decide
  | 1 => decide
  | k + 2 => show ∀ z ∈ [117, 115, 116, 97, 114, 32, 32, 0], (0 : Int) ≤ z ∧ z ≤ 255; decide
theorem set_bd {zs : List Int} {i : Nat} {x : Int} (h : ∀ z ∈ zs, 0 ≤ z ∧ z ≤ 255) (hx : 0 ≤ x ∧ x ≤ 255) : ∀ z ∈ zs.set i x, 0 ≤ z ∧ z ≤ 255 := by
  intro z hz
  rcases List.mem_or_eq_of_mem_set hz with h1 | h1
  · exact h z h1
  · rw [h1]; exact hx
theorem pputs_bd : ∀ (l : List (Int × Int)) (zs : List Int) (i : Nat) (ys : List Int), (∀ z ∈ zs, 0 ≤ z ∧ z ≤ 255) → M.pputs zs i l = some ys → ∀ z ∈ ys, 0 ≤ z ∧ z ≤ 255
  | [], zs, i, ys, h, e => by
    rw [M.pputs] at e
    injection e with e
    subst e; exact h
  | p :: l, zs, i, ys, h, e => by
    rw [M.pputs] at e
    split at e
    · cases e
    · split at e
      · split at e
        · exact pputs_bd l _ _ ys (splice_bd (splice_bd h (putR_bd _ _)) (putR_bd _ _)) e
        · cases e
      · cases e
theorem putP_bd {l : List (Int × Int)} {zs ys : List Int} (h : ∀ z ∈ zs, 0 ≤ z ∧ z ≤ 255) (e : M.putP zs l = some ys) : ∀ z ∈ ys, 0 ≤ z ∧ z ≤ 255 := by
  unfold M.putP at e
  split at e
  · exact pputs_bd l zs 0 ys h e
  · cases e
theorem splice_len {zs ys : List Int} {a n : Nat} (h : zs.length = 512) (hy : ys.length = n) (ha : a + n ≤ 512) : (splice zs a ys).length = 512 := by
  rw [length_splice _ _ _ (by omega), h]
theorem RF.text {w0 W w' : World} {h : M.Hdr} {pv : Value} {zs : List Int} {a m : Nat} {s : ByteArray} {e : Ending} (r : RF w0 W h pv zs) (ham : a + m ≤ 512) (t : TxtPut zs a m s (w0.heap.size + 3) W e w') :
    (M.putT zs a m s = none → e = .panicked (boom 33) ∧ QF w0 w' h pv (.slice (some ⟨w0.heap.size + 3, 0, none⟩) 512 512)) ∧ (∀ ys, M.putT zs a m s = some ys → e = .returned (.tuple #[]) ∧ RF w0 w' h pv ys) := by
  unfold TxtPut at t
  unfold M.putT
  cases hp : S.M.put s.data.toList (m : Int) with
  | none =>
    rw [hp] at t
    exact ⟨fun _ => ⟨t.1, r.q.later t.2⟩, (fun ys h => by cases h)⟩
  | some l =>
    rw [hp] at t
    refine ⟨(fun h => by cases h), fun ys hy => ?_⟩
    injection hy with hy
    subst hy
    obtain ⟨rfl, w1, b1, rfl⟩ := t
    exact ⟨rfl, (r.later b1).laid (splice_len r.len (by rw [S.ints_length]; exact put_len hp) ham) (splice_bd r.bd (S.ints_bd l))⟩
theorem RF.num {w0 W w' : World} {h : M.Hdr} {pv : Value} {zs : List Int} {a m : Nat} {there : Bool} {lo up x : Int} {e : Ending} (r : RF w0 W h pv zs) (ham : a + m ≤ 512) (t : NumPut zs a m there lo up x (w0.heap.size + 3) W e w') :
    (M.putN zs a m there lo up x = none → e = .panicked (boom 32) ∧ QF w0 w' h pv (.slice (some ⟨w0.heap.size + 3, 0, none⟩) 512 512)) ∧ (∀ ys, M.putN zs a m there lo up x = some ys → e = .returned (.tuple #[]) ∧ RF w0 w' h pv ys) := by
  unfold NumPut at t
  unfold M.putN
  cases there with
  | true =>
    rw [if_pos rfl] at t ⊢
    cases ho : M.putOk x m lo up with
    | true =>
      rw [ho, if_pos rfl] at t
      rw [if_pos rfl]
      refine ⟨(fun h => by cases h), fun ys hy => ?_⟩
      injection hy with hy
      subst hy
      obtain ⟨rfl, w1, b1, rfl⟩ := t
      exact ⟨rfl, (r.later b1).laid (splice_len r.len (putR_len (M.putOk_fits ho)) ham) (splice_bd r.bd (putR_bd x m))⟩
    | false =>
      rw [ho, if_neg (by decide)] at t
      rw [if_neg (by decide)]
      exact ⟨fun _ => ⟨t.1, r.q.later t.2⟩, (fun ys h => by cases h)⟩
  | false =>
    rw [if_neg (by decide)] at t ⊢
    by_cases h0 : x = 0
    · rw [if_pos h0] at t ⊢
      refine ⟨(fun h => by cases h), fun ys hy => ?_⟩
      injection hy with hy
      subst hy
      exact ⟨t.1, r.later t.2⟩
    · rw [if_neg h0] at t ⊢
      exact ⟨fun _ => ⟨t.1, r.q.later t.2⟩, (fun ys h => by cases h)⟩

theorem RF.start (w : World) (h : M.Hdr) (pv : Value) (x : Int) (hx : 0 ≤ x ∧ x ≤ 255) : RF w ((((w.alloc (.cells (hcells h pv) 33)).alloc (.cells #[.slice (some ⟨w.heap.size + 1 + 1 + 1, 0, none⟩) 512 512] 22)).alloc (.cells #[.int .u16 0] 42)).alloc (.cells ((bcells (nils 512)).set 156 (.int .u8 x)).toArray 5)) h pv ((nils 512).set 156 x) := by
  have h1 := heap_alloc_new (w.alloc (.cells (hcells h pv) 33)) (.cells #[.slice (some ⟨w.heap.size + 1 + 1 + 1, 0, none⟩) 512 512] 22)
  have h2 := heap_alloc_new ((w.alloc (.cells (hcells h pv) 33)).alloc (.cells #[.slice (some ⟨w.heap.size + 1 + 1 + 1, 0, none⟩) 512 512] 22)) (.cells #[.int .u16 0] 42)
  have h3 := heap_alloc_new (((w.alloc (.cells (hcells h pv) 33)).alloc (.cells #[.slice (some ⟨w.heap.size + 1 + 1 + 1, 0, none⟩) 512 512] 22)).alloc (.cells #[.int .u16 0] 42)) (.cells ((bcells (nils 512)).set 156 (.int .u8 x)).toArray 5)
  rw [World.size_alloc] at h1
  rw [World.size_alloc, World.size_alloc] at h2
  rw [World.size_alloc, World.size_alloc, World.size_alloc] at h3
  refine ⟨⟨(((HB.new w h pv).alloc _).alloc _).alloc _, ?_, ?_, ((((Below.refl _ w).alloc (Nat.le_refl _) _).alloc (by simp) _).alloc (by simp; omega) _).alloc (by simp; omega) _⟩, ?_, by rw [List.length_set, nils_len], set_bd (nils_bd 512) hx⟩
  · rw [Below.heap_alloc _ _ _ (by simp), Below.heap_alloc _ _ _ (by simp)]
    exact h1
  · rw [Below.heap_alloc _ _ _ (by simp)]
    exact h2
  · unfold Arr
    rw [← bcells_set]
    exact h3
namespace M
/-- What is asked of the texts, one by one. -/
def bareAt (h : Hdr) : Nat → Bool
  | 2 => (h.way != 0) || blank h.user
  | 3 => (h.way != 0) || blank h.group
  | 4 => (h.way == 1) || blank h.pre
  | _ => true
theorem bare_all {h : Hdr} (hj : ∀ j, j < 5 → bareAt h j = true) : bare h = true := by
  have h2 := hj 2 (by decide)
  have h3 := hj 3 (by decide)
  have h4 := hj 4 (by decide)
  unfold bare
  change ((h.way != 0) || blank h.user) = true at h2
  change ((h.way != 0) || blank h.group) = true at h3
  change ((h.way == 1) || blank h.pre) = true at h4
  rw [h2, h3, h4]
  rfl
theorem bare_not {h : Hdr} {j : Nat} (hj : bareAt h j = false) : bare h = false := by
  unfold bare
  match j with
  | 0 => cases hj
  | 1 => cases hj
  | 2 =>
    change ((h.way != 0) || blank h.user) = false at hj
    rw [hj]; rfl
  | 3 =>
    change ((h.way != 0) || blank h.group) = false at hj
    rw [hj]; simp
  | 4 =>
    change ((h.way == 1) || blank h.pre) = false at hj
    rw [hj]; simp
  | j + 5 => cases hj
theorem bare_more {h : Hdr} {k : Nat} (hj : ∀ j, j < k → bareAt h j = true) (hk : bareAt h k = true) : ∀ j, j < k + 1 → bareAt h j = true := by
  intro j h1
  rcases Nat.lt_or_ge j k with h2 | h2
  · exact hj j h2
  · have : j = k := by omega
    subst this; exact hk
theorem known_bd {k : Int} (h : known k = true) : 0 ≤ k ∧ k ≤ 255 := by
  unfold known at h
  simp at h
  omega
end M
/-- The rounds of the texts that must not be. -/
def BareAt (w0 : World) (h : M.Hdr) (pv : Value) (zs : List Int) (i : Value) (wr : World) : Prop :=
  ∃ k : Nat, i = .int .i64 k ∧ k ≤ 5 ∧ Hid (∀ j, j < k → M.bareAt h j = true) ∧ Hid (RF w0 wr h pv zs)
end Go.Proofs.YtkpnhggpcpjddaaGreatDoor
