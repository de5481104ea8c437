/-
  head.Print: its steps.
-/
import Derived.Test.YtbjejgnfnpednaaDoorHdPrintP
import Derived.StillTailTactics
namespace Go.Proofs.YtbjejgnfnpednaaDoor
open Go.RowKit Go.Lib

/-- A frame of Print, with the block so far. -/
structure RF (w0 W : World) (h : M.Hdr) (pv : Value) (zs : List Int) : Prop where
  q : QF w0 W h pv (.slice (some ⟨w0.heap.size + 3, 0, none⟩) 512 512)
  arr : Arr W (w0.heap.size + 3) 5 zs
  len : zs.length = 512
  bd : ∀ z ∈ zs, 0 ≤ z ∧ z ≤ 255
theorem RF.later {w0 W W' : World} {h : M.Hdr} {pv : Value} {zs : List Int} (r : RF w0 W h pv zs) (hb : Below W.heap.size W W') : RF w0 W' h pv zs := ⟨r.q.later hb, r.arr.below hb r.arr.lt, r.len, r.bd⟩
theorem RF.more {w0 W : World} {h : M.Hdr} {pv : Value} {zs : List Int} (r : RF w0 W h pv zs) (o : Obj) : RF w0 (W.alloc o) h pv zs := r.later ((Below.refl _ _).alloc (Nat.le_refl _) _)
theorem RF.laid {w0 W : World} {h : M.Hdr} {pv : Value} {zs : List Int} (r : RF w0 W h pv zs) {ys : List Int} (hl : ys.length = 512) (hbd : ∀ z ∈ ys, 0 ≤ z ∧ z ≤ 255) : RF w0 (laid W (w0.heap.size + 3) ys) h pv ys :=
  ⟨r.q.keep (below_setRow (Below.refl _ _) (Nat.le_refl _) _), r.arr.laid ys, hl, hbd⟩
theorem RF.cb {w0 W : World} {h : M.Hdr} {pv : Value} {zs : List Int} (r : RF w0 W h pv zs) : W.cell? ⟨w0.heap.size + 1, 0, none⟩ = some (.slice (some ⟨w0.heap.size + 3, 0, none⟩) 512 512) := by rw [cell_of_row _ _ 0 _ _ _ r.q.bytes]; rfl
theorem RF.drew {w0 W : World} {h : M.Hdr} {pv : Value} {zs : List Int} (r : RF w0 W h pv zs) : RF w0 W.drew h pv zs := ⟨⟨r.q.box, r.q.bytes, r.q.err, below_drew' r.q.below⟩, r.arr, r.len, r.bd⟩

theorem QF.start (w : World) (h : M.Hdr) (pv : Value) : QF w (((w.alloc (.cells (hcells h pv) 25)).alloc (.cells #[.slice none 0 0] 22)).alloc (.cells #[.int .u16 0] 29)) h pv (.slice none 0 0) := by
  have h1 := heap_alloc_new (w.alloc (.cells (hcells h pv) 25)) (.cells #[.slice none 0 0] 22)
  have h2 := heap_alloc_new ((w.alloc (.cells (hcells h pv) 25)).alloc (.cells #[.slice none 0 0] 22)) (.cells #[.int .u16 0] 29)
  rw [World.size_alloc] at h1
  rw [World.size_alloc, World.size_alloc] at h2
  refine ⟨((HB.new w h pv).alloc _).alloc _, ?_, h2, (((Below.refl _ w).alloc (Nat.le_refl _) _).alloc (by simp) _).alloc (by simp; omega) _⟩
  rw [Below.heap_alloc _ _ _ (by simp)]
  exact h1

theorem splice_bd {zs ys : List Int} {a : Nat} (h : ∀ z ∈ zs, 0 ≤ z ∧ z ≤ 255) (hy : ∀ z ∈ ys, 0 ≤ z ∧ z ≤ 255) : ∀ z ∈ splice zs a ys, 0 ≤ z ∧ z ≤ 255 := by
  intro z hz
  unfold splice at hz
  rcases List.mem_append.1 hz with h1 | h1
  · exact h z (List.mem_of_mem_take h1)
  · rcases List.mem_append.1 h1 with h2 | h2
    · exact hy z h2
    · exact h z (List.mem_of_mem_drop h2)
theorem listOf_bd {g : Nat → Int} {N : Nat} (hg : ∀ j, 0 ≤ g j ∧ g j ≤ 255) : ∀ z ∈ M.listOf g N, 0 ≤ z ∧ z ≤ 255 := by
  intro z hz
  unfold M.listOf at hz
  obtain ⟨j, _, rfl⟩ := List.mem_map.1 hz
  exact hg j
theorem putR_bd (x m : Int) : ∀ z ∈ M.putR x m, 0 ≤ z ∧ z ≤ 255 := by
  unfold M.putR M.binR
  split
  · exact listOf_bd (M.octG_bd _ _)
  · split
    · exact listOf_bd (M.binG_bd _ _)
    · intro z hz; cases hz
theorem magic_bd (k : Nat) : ∀ z ∈ M.magic k, 0 ≤ z ∧ z ≤ 255 := by
  match k with
  | 0 => decide
  | 1 => decide
  | k + 2 => show ∀ z ∈ [117, 115, 116, 97, 114, 32, 32, 0], (0 : Int) ≤ z ∧ z ≤ 255; decide
theorem set_bd {zs : List Int} {i : Nat} {x : Int} (h : ∀ z ∈ zs, 0 ≤ z ∧ z ≤ 255) (hx : 0 ≤ x ∧ x ≤ 255) : ∀ z ∈ zs.set i x, 0 ≤ z ∧ z ≤ 255 := by
  intro z hz
  rcases List.mem_or_eq_of_mem_set hz with h1 | h1
  · exact h z h1
  · rw [h1]; exact hx
theorem pputs_bd : ∀ (l : List (Int × Int)) (zs : List Int) (i : Nat) (ys : List Int), (∀ z ∈ zs, 0 ≤ z ∧ z ≤ 255) → M.pputs zs i l = some ys → ∀ z ∈ ys, 0 ≤ z ∧ z ≤ 255
  | [], zs, i, ys, h, e => by
    rw [M.pputs] at e
    injection e with e
    subst e; exact h
  | p :: l, zs, i, ys, h, e => by
    rw [M.pputs] at e
    split at e
    · cases e
    · split at e
      · split at e
        · exact pputs_bd l _ _ ys (splice_bd (splice_bd h (putR_bd _ _)) (putR_bd _ _)) e
        · cases e
      · cases e
theorem putP_bd {l : List (Int × Int)} {zs ys : List Int} (h : ∀ z ∈ zs, 0 ≤ z ∧ z ≤ 255) (e : M.putP zs l = some ys) : ∀ z ∈ ys, 0 ≤ z ∧ z ≤ 255 := by
  unfold M.putP at e
  split at e
  · exact pputs_bd l zs 0 ys h e
  · cases e
theorem splice_len {zs ys : List Int} {a n : Nat} (h : zs.length = 512) (hy : ys.length = n) (ha : a + n ≤ 512) : (splice zs a ys).length = 512 := by
  rw [length_splice _ _ _ (by omega), h]
theorem RF.text {w0 W w' : World} {h : M.Hdr} {pv : Value} {zs : List Int} {a m : Nat} {s : ByteArray} {e : Ending} (r : RF w0 W h pv zs) (ham : a + m ≤ 512) (t : TxtPut zs a m s (w0.heap.size + 3) W e w') :
    (M.putT zs a m s = none → e = .panicked (boom 33) ∧ QF w0 w' h pv (.slice (some ⟨w0.heap.size + 3, 0, none⟩) 512 512)) ∧ (∀ ys, M.putT zs a m s = some ys → e = .returned (.tuple #[]) ∧ RF w0 w' h pv ys) := by
  unfold TxtPut at t
  unfold M.putT
  cases hp : S.M.put s.data.toList (m : Int) with
  | none =>
    rw [hp] at t
    exact ⟨fun _ => ⟨t.1, r.q.later t.2⟩, (fun ys h => by cases h)⟩
  | some l =>
    rw [hp] at t
    refine ⟨(fun h => by cases h), fun ys hy => ?_⟩
    injection hy with hy
    subst hy
    obtain ⟨rfl, w1, b1, rfl⟩ := t
    exact ⟨rfl, (r.later b1).laid (splice_len r.len (by rw [S.ints_length]; exact put_len hp) ham) (splice_bd r.bd (S.ints_bd l))⟩
theorem RF.num {w0 W w' : World} {h : M.Hdr} {pv : Value} {zs : List Int} {a m : Nat} {there : Bool} {lo up x : Int} {e : Ending} (r : RF w0 W h pv zs) (ham : a + m ≤ 512) (t : NumPut zs a m there lo up x (w0.heap.size + 3) W e w') :
    (M.putN zs a m there lo up x = none → e = .panicked (boom 32) ∧ QF w0 w' h pv (.slice (some ⟨w0.heap.size + 3, 0, none⟩) 512 512)) ∧ (∀ ys, M.putN zs a m there lo up x = some ys → e = .returned (.tuple #[]) ∧ RF w0 w' h pv ys) := by
  unfold NumPut at t
  unfold M.putN
  cases there with
  | true =>
    rw [if_pos rfl] at t ⊢
    cases ho : M.putOk x m lo up with
    | true =>
      rw [ho, if_pos rfl] at t
      rw [if_pos rfl]
      refine ⟨(fun h => by cases h), fun ys hy => ?_⟩
      injection hy with hy
      subst hy
      obtain ⟨rfl, w1, b1, rfl⟩ := t
      exact ⟨rfl, (r.later b1).laid (splice_len r.len (putR_len (M.putOk_fits ho)) ham) (splice_bd r.bd (putR_bd x m))⟩
    | false =>
      rw [ho, if_neg (by decide)] at t
      rw [if_neg (by decide)]
      exact ⟨fun _ => ⟨t.1, r.q.later t.2⟩, (fun ys h => by cases h)⟩
  | false =>
    rw [if_neg (by decide)] at t ⊢
    by_cases h0 : x = 0
    · rw [if_pos h0] at t ⊢
      refine ⟨(fun h => by cases h), fun ys hy => ?_⟩
      injection hy with hy
      subst hy
      exact ⟨t.1, r.later t.2⟩
    · rw [if_neg h0] at t ⊢
      exact ⟨fun _ => ⟨t.1, r.q.later t.2⟩, (fun ys h => by cases h)⟩

theorem RF.start (w : World) (h : M.Hdr) (pv : Value) (x : Int) (hx : 0 ≤ x ∧ x ≤ 255) : RF w ((((w.alloc (.cells (hcells h pv) 25)).alloc (.cells #[.slice (some ⟨w.heap.size + 1 + 1 + 1, 0, none⟩) 512 512] 22)).alloc (.cells #[.int .u16 0] 29)).alloc (.cells ((bcells (nils 512)).set 156 (.int .u8 x)).toArray 5)) h pv ((nils 512).set 156 x) := by
  have h1 := heap_alloc_new (w.alloc (.cells (hcells h pv) 25)) (.cells #[.slice (some ⟨w.heap.size + 1 + 1 + 1, 0, none⟩) 512 512] 22)
  have h2 := heap_alloc_new ((w.alloc (.cells (hcells h pv) 25)).alloc (.cells #[.slice (some ⟨w.heap.size + 1 + 1 + 1, 0, none⟩) 512 512] 22)) (.cells #[.int .u16 0] 29)
  have h3 := heap_alloc_new (((w.alloc (.cells (hcells h pv) 25)).alloc (.cells #[.slice (some ⟨w.heap.size + 1 + 1 + 1, 0, none⟩) 512 512] 22)).alloc (.cells #[.int .u16 0] 29)) (.cells ((bcells (nils 512)).set 156 (.int .u8 x)).toArray 5)
  rw [World.size_alloc] at h1
  rw [World.size_alloc, World.size_alloc] at h2
  rw [World.size_alloc, World.size_alloc, World.size_alloc] at h3
  refine ⟨⟨(((HB.new w h pv).alloc _).alloc _).alloc _, ?_, ?_, ((((Below.refl _ w).alloc (Nat.le_refl _) _).alloc (by simp) _).alloc (by simp; omega) _).alloc (by simp; omega) _⟩, ?_, by rw [List.length_set, nils_len], set_bd (nils_bd 512) hx⟩
  · rw [Below.heap_alloc _ _ _ (by simp), Below.heap_alloc _ _ _ (by simp)]
    exact h1
  · rw [Below.heap_alloc _ _ _ (by simp)]
    exact h2
  · unfold Arr
    rw [← bcells_set]
    exact h3
namespace M
/-- What is asked of the texts, one by one. -/
def bareAt (h : Hdr) : Nat → Bool
  | 2 => (h.way != 0) || blank h.user
  | 3 => (h.way != 0) || blank h.group
  | 4 => (h.way == 1) || blank h.pre
  | _ => true
theorem bare_all {h : Hdr} (hj : ∀ j, j < 5 → bareAt h j = true) : bare h = true := by
  have h2 := hj 2 (by decide)
  have h3 := hj 3 (by decide)
  have h4 := hj 4 (by decide)
  unfold bare
  change ((h.way != 0) || blank h.user) = true at h2
  change ((h.way != 0) || blank h.group) = true at h3
  change ((h.way == 1) || blank h.pre) = true at h4
  rw [h2, h3, h4]
  rfl
theorem bare_not {h : Hdr} {j : Nat} (hj : bareAt h j = false) : bare h = false := by
  unfold bare
  match j with
  | 0 => cases hj
  | 1 => cases hj
  | 2 =>
    change ((h.way != 0) || blank h.user) = false at hj
    rw [hj]; rfl
  | 3 =>
    change ((h.way != 0) || blank h.group) = false at hj
    rw [hj]; simp
  | 4 =>
    change ((h.way == 1) || blank h.pre) = false at hj
    rw [hj]; simp
  | j + 5 => cases hj
theorem bare_more {h : Hdr} {k : Nat} (hj : ∀ j, j < k → bareAt h j = true) (hk : bareAt h k = true) : ∀ j, j < k + 1 → bareAt h j = true := by
  intro j h1
  rcases Nat.lt_or_ge j k with h2 | h2
  · exact hj j h2
  · have : j = k := by omega
    subst this; exact hk
theorem known_bd {k : Int} (h : known k = true) : 0 ≤ k ∧ k ≤ 255 := by
  unfold known at h
  simp at h
  omega
end M
/-- The rounds of the texts that must not be. -/
def BareAt (w0 : World) (h : M.Hdr) (pv : Value) (zs : List Int) (i : Value) (wr : World) : Prop :=
  ∃ k : Nat, i = .int .i64 k ∧ k ≤ 5 ∧ Hid (∀ j, j < k → M.bareAt h j = true) ∧ Hid (RF w0 wr h pv zs)
end Go.Proofs.YtbjejgnfnpednaaDoor
