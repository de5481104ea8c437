/-
  strings.Builder, written on in a round: what a builder holds, and which blocks turn.
-/
import Derived.Test.YtpmhmglckeafgaaDoorStrCollect
import Derived.Lib.Builder
import Derived.Lib.AppendStr
namespace Go.Proofs.YtpmhmglckeafgaaDoor
open Go.RowKit Go.Shelf

/-- The builder of block b holds the bytes l; its buffer lies from base on. -/
def Bld (base b : Nat) (l : List UInt8) (w : World) : Prop :=
  ∃ p v, (p = .pointer none ∨ p = .pointer (some ⟨b, 0, none⟩)) ∧ w.heap[b]? = some (.cells #[p, v] 50 (0, 0)) ∧ w.ownsRow base 5 1 v l.length (Lib.byteCells l) ∧ (l = [] → v = .slice none 0 0)

/-- What a step of the builder turns. -/
def bldOwn (base b k : Nat) : Prop := k = b ∨ base ≤ k

theorem Bld.new (w : World) (base : Nat) : Bld base w.heap.size [] (w.alloc (.cells #[.pointer none, .slice none 0 0] 50)) :=
  ⟨_, _, .inl rfl, World.alloc_heap_new w _, World.ownsRow_nil _ _ _ _, fun _ => rfl⟩
theorem Bld.lt {base b : Nat} {l : List UInt8} {w : World} (h : Bld base b l w) : b < w.heap.size := by
  obtain ⟨p, v, _, h, _⟩ := h
  exact (Array.getElem?_eq_some_iff.1 h).1
theorem Bld.turned {own : Nat → Prop} {base b : Nat} {l : List UInt8} {A B : World} (h : Bld base b l A) (ht : Turned own A B) (hb : ¬ own b) (hn : ∀ k, base ≤ k → ¬ own k) : Bld base b l B := by
  have hlt := h.lt
  obtain ⟨p, v, hp, h, hr, hn0⟩ := h
  exact ⟨p, v, hp, (ht.block b hlt hb).trans h, ownsRow_turned hr ht hn, hn0⟩
theorem Bld.is {base b : Nat} {l : List UInt8} {w : World} (h : Bld base b l w) (hb : b < base) : Lib.IsBuilder 50 5 b b (Lib.byteCells l) w := by
  obtain ⟨p, v, hp, h, hr, _⟩ := h
  have hown : v.ownBlock ≠ some b := fun e => by have := ownsRow_block hr _ e; omega
  have hr' : w.ownsRow b 5 1 v (Lib.byteCells l).length (Lib.byteCells l) := by
    rw [Lib.byteCells_length]
    refine ⟨hr.1, ?_⟩
    rcases hr.2 with h0 | ⟨g, cap, cur, h1, h2, h3⟩
    · exact .inl h0
    · exact .inr ⟨g, cap, cur, h1, by omega, h3⟩
  rcases hp with rfl | rfl
  · exact .inl ⟨Nat.le_refl _, v, h, hr', hown⟩
  · exact .inr ⟨Nat.le_refl _, v, h, hr', hown⟩

theorem sizeBld : (Tryd.prog.info? 50).map (·.size) = some 2 := by kernel_rfl
theorem liesBld : liesAt Tryd.prog Tryd.prog.depth 50 (2 / Tryd.prog.cellsOf 50) 0 50 1 = true := by kernel_rfl
theorem infoB : (Tryd.prog.info? 5).map (fun i => (i.zero, i.size, i.bytes)) = some (some (.int .u8 0), 1, 1) := by kernel_rfl

set_option maxHeartbeats 1000000 in
set_option maxRecDepth 100000 in
theorem check_used (b : Nat) (w : World) (h0 : w.cell? ⟨b, 0, none⟩ = some (.pointer (some ⟨b, 0, none⟩))) :
    Calls Tryd.prog 44 #[.pointer (some ⟨b, 0, none⟩)] w fun e w' => e = .returned (.tuple #[]) ∧ w = w' := by
  obtain ⟨j, hj, _⟩ := Option.map_eq_some_iff.1 sizeBld
  go_enter Tryd.func44, Tryd.ntmps44
  go_wp2
  rw [Lib.run_neq_ptr_same w _ Tryd.underlying48 hj]
  go_wp2
  go_end0
  exact ⟨rfl, rfl⟩

set_option maxHeartbeats 1000000 in
set_option maxRecDepth 100000 in
theorem check_fresh (b : Nat) (w : World) (h0 : w.cell? ⟨b, 0, none⟩ = some (.pointer none)) (hsh : w.shape? b = some (50, 2)) (hfz : w.frozen? ⟨b, 0, none⟩ = false) :
    Calls Tryd.prog 44 #[.pointer (some ⟨b, 0, none⟩)] w fun e w' => e = .returned (.tuple #[]) ∧ w' = w.setCell ⟨b, 0, none⟩ (.pointer (some ⟨b, 0, none⟩)) := by
  obtain ⟨j, hj, hjs⟩ := Option.map_eq_some_iff.1 sizeBld
  go_enter Tryd.func44, Tryd.ntmps44
  go_wp2
  rw [Lib.run_to_unsafe w ⟨b, 0, none⟩ Tryd.underlying48 Tryd.underlying67 hj (by rw [hjs]; decide) hsh (Nat.zero_lt_succ 1)]
  simp only [Result.andThen]
  rw [Oper.upon_value]
  go_wp2
  rw [run_callFunc_extern Tryd.func52 (by kernel_rfl) (by kernel_rfl) (by kernel_rfl) (e := Extern.AbiNoEscape.same) (by kernel_rfl)]
  rw [Lib.run_noEscape]
  simp only [Result.andThen]
  rw [Oper.upon_value]
  go_wp2
  rw [Lib.run_from_unsafe w ⟨b, 0, none⟩ Tryd.underlying67 Tryd.underlying48 hj hsh liesBld]
  simp only [Result.andThen]
  rw [Oper.upon_value]
  go_wp2
  go_end0
  exact ⟨rfl, rfl⟩

/-- A used builder. -/
def Bld1 (base b : Nat) (l : List UInt8) (w : World) : Prop :=
  ∃ v, w.heap[b]? = some (.cells #[.pointer (some ⟨b, 0, none⟩), v] 50 (0, 0)) ∧ w.ownsRow base 5 1 v l.length (Lib.byteCells l) ∧ (l = [] → v = .slice none 0 0)
theorem Bld1.any {base b : Nat} {l : List UInt8} {w : World} (h : Bld1 base b l w) : Bld base b l w := by
  obtain ⟨v, h, hr, hn0⟩ := h
  exact ⟨_, v, .inr rfl, h, hr, hn0⟩

theorem check_any (base b : Nat) (hb : b < base) (l : List UInt8) (w : World) (h : Bld base b l w) :
    Calls Tryd.prog 44 #[.pointer (some ⟨b, 0, none⟩)] w fun e w' => e = .returned (.tuple #[]) ∧ Bld1 base b l w' ∧ Turned (bldOwn base b) w w' := by
  obtain ⟨p, v, hp, h, hr, hn0⟩ := h
  have hc : w.cell? ⟨b, 0, none⟩ = some p := by rw [Lib.cell_of_heap h]; rfl
  rcases hp with rfl | rfl
  · refine (check_fresh b w hc (by simp [World.shape?, h]) (Lib.frozen_of_heap h 0)).mono ?_
    rintro e w' ⟨rfl, rfl⟩
    refine ⟨rfl, ⟨v, ?_, ?_, hn0⟩, .setCell (p := ⟨b, 0, none⟩) (.inl rfl) _ _⟩
    · simp [World.setCell, Array.getElem?_modify, h]
    · exact ownsRow_turned hr (.setCell (own := fun k => k = b) (p := ⟨b, 0, none⟩) rfl _ _) (fun k hk e => by omega)
  · refine (check_used b w hc).mono ?_
    rintro e w' ⟨rfl, rfl⟩
    exact ⟨rfl, ⟨v, h, hr, hn0⟩, .refl _ _⟩

theorem byteCells_snoc (l : List UInt8) (c : UInt8) : Lib.byteCells (l ++ [c]) = Lib.byteCells l ++ [.int .u8 c.toNat] := by simp [Lib.byteCells]
theorem byteCells_app (l : List UInt8) (s : ByteArray) : Lib.byteCells (l ++ tl s) = Lib.byteCells l ++ Lib.strCells s := by simp [Lib.byteCells, Lib.strCells, tl]

theorem heap_set1 {w : World} {b : Nat} {p v v' : Value} {T : TypeId} (h : w.heap[b]? = some (.cells #[p, v] T (0, 0))) : (w.setCell ⟨b, 1, none⟩ v').heap[b]? = some (.cells #[p, v'] T (0, 0)) := by
  simp [World.setCell, Array.getElem?_modify, h]

set_option maxHeartbeats 1000000 in
set_option maxRecDepth 100000 in
theorem writeByte_any (base b : Nat) (hb : b < base) (l : List UInt8) (hl : l.length ≤ 10000000) (c : UInt8) (w : World) (h : Bld base b l w) (hbw : base ≤ w.heap.size) :
    Calls Tryd.prog 34 #[.pointer (some ⟨b, 0, none⟩), .int .u8 c.toNat] w fun e w' => e = .returned .nilIface ∧ Bld base b (l ++ [c]) w' ∧ Turned (bldOwn base b) w w' := by
  obtain ⟨i0, hi, hz0, hz1, hz2⟩ := info_parts infoB
  go_enter Tryd.func34, Tryd.ntmps34
  go_wp2_with (go_at_call 44; refine (check_any base b hb l w h).mono ?_)
  rintro e w1 ⟨rfl, ⟨v, hbk, hown, hnil⟩, ht1⟩
  have c0 : w1.cell? ⟨b, 0, none⟩ = some (.pointer (some ⟨b, 0, none⟩)) := by rw [Lib.cell_of_heap hbk]; rfl
  have c1 : w1.cell? ⟨b, 1, none⟩ = some v := by rw [Lib.cell_of_heap hbk]; rfl
  have hblt : b < w1.heap.size := (Array.getElem?_eq_some_iff.1 hbk).1
  have hs1 := ht1.size
  go_wp2_with (at_builtin; refine wpList_append_own _ rfl _ _ 22 rfl base 5 i0 (.int .u8 0) 1 1 Tryd.underlying22 hi hz0 hz1 hz2 rfl (by decide) _ _ _ rfl (hown.alloc _) ⟨w1.heap.size, 0, none⟩ 1 1 [.int .u8 c.toNat] rfl rfl ?c1 ?c2 ?c3 ?c4 ?c5 ?_)
  case c1 =>
    intro j u hj
    match j, hj with
    | 0, hj => simp at hj; subst hj; simp [Addr.add]
  case c2 => intro u hu; simp at hu; subst hu; rfl
  case c3 => unfold maxLen; omega
  case c4 => omega
  case c5 => simp; omega
  intro v' w2 hown' hgrow _
  have hblk := ownsRow_block hown
  have hb2 : w2.heap[b]? = some (.cells #[.pointer (some ⟨b, 0, none⟩), v] 50 (0, 0)) := by
    rw [hgrow.block b (by simp; omega) (fun e => by have := hblk b e.symm; omega), Lib.alloc_old w1 _ b hblt]
    exact hbk
  have d0 : w2.cell? ⟨b, 0, none⟩ = some (.pointer (some ⟨b, 0, none⟩)) := by rw [Lib.cell_of_heap hb2]; rfl
  have d1 : w2.cell? ⟨b, 1, none⟩ = some v := by rw [Lib.cell_of_heap hb2]; rfl
  have f1 : w2.frozen? ⟨b, 1, none⟩ = false := Lib.frozen_of_heap hb2 1
  obtain ⟨g, cap, rfl⟩ := ownsRow_succ hown'
  have ht2 : Turned (bldOwn base b) w w2 := (ht1.trans (.alloc _ _ _)).trans (.grown hgrow (fun r e => .inr (hblk r e)))
  go_wp2
  go_ret
  refine ⟨rfl, ⟨_, _, .inr rfl, heap_set1 hb2, ?_, fun e => by simp at e⟩, ht2.trans (.setCell (p := ⟨b, 1, none⟩) (.inl rfl) _ _)⟩
  rw [byteCells_snoc, List.length_append]
  exact ownsRow_turned hown' (.setCell (own := fun k => k = b) (p := ⟨b, 1, none⟩) rfl _ _) (fun k hk e => by omega)

set_option maxHeartbeats 1000000 in
set_option maxRecDepth 100000 in
theorem writeString_any (base b : Nat) (hb : b < base) (l : List UInt8) (hl : l.length ≤ 10000000) (s : ByteArray) (hs : s.size ≤ 10000000) (w : World) (h : Bld base b l w) (hbw : base ≤ w.heap.size) :
    Calls Tryd.prog 35 #[.pointer (some ⟨b, 0, none⟩), .string s] w fun e w' => e = .returned (.tuple #[.int .i64 s.size, .nilIface]) ∧ Bld base b (l ++ tl s) w' ∧ Turned (bldOwn base b) w w' := by
  obtain ⟨i0, hi, hz0, hz1, hz2⟩ := info_parts infoB
  go_enter Tryd.func35, Tryd.ntmps35
  go_wp2_with (go_at_call 44; refine (check_any base b hb l w h).mono ?_)
  rintro e w1 ⟨rfl, ⟨v, hbk, hown, hnil⟩, ht1⟩
  have c0 : w1.cell? ⟨b, 0, none⟩ = some (.pointer (some ⟨b, 0, none⟩)) := by rw [Lib.cell_of_heap hbk]; rfl
  have c1 : w1.cell? ⟨b, 1, none⟩ = some v := by rw [Lib.cell_of_heap hbk]; rfl
  have hblt : b < w1.heap.size := (Array.getElem?_eq_some_iff.1 hbk).1
  have hs1 := ht1.size
  go_wp2_with (at_builtin; refine Lib.wpList_append_own_string _ rfl _ _ 22 9 rfl base 5 i0 Tryd.underlying22 Tryd.underlying9 hi hz0 hz1 hz2 _ _ _ rfl hown s rfl ?c3 ?c4 ?c5 ?_)
  case c3 => unfold maxLen; omega
  case c4 => omega
  case c5 => omega
  intro v' w2 hown' hgrow hiff
  have HN : l ++ tl s = [] → v' = .slice none 0 0 := fun e => hiff.2 ⟨hnil (List.append_eq_nil_iff.1 e).1, by have := (List.append_eq_nil_iff.1 e).2; exact WideShapes.bytes_inj (by simpa [tl] using this)⟩
  clear hiff hnil
  have hblk := ownsRow_block hown
  have hb2 : w2.heap[b]? = some (.cells #[.pointer (some ⟨b, 0, none⟩), v] 50 (0, 0)) := by
    rw [hgrow.block b hblt (fun e => by have := hblk b e.symm; omega)]
    exact hbk
  have d0 : w2.cell? ⟨b, 0, none⟩ = some (.pointer (some ⟨b, 0, none⟩)) := by rw [Lib.cell_of_heap hb2]; rfl
  have d1 : w2.cell? ⟨b, 1, none⟩ = some v := by rw [Lib.cell_of_heap hb2]; rfl
  have f1 : w2.frozen? ⟨b, 1, none⟩ = false := Lib.frozen_of_heap hb2 1
  have ht2 : Turned (bldOwn base b) w w2 := ht1.trans (.grown hgrow (fun r e => .inr (hblk r e)))
  obtain ⟨ao, n', cap, rfl⟩ : ∃ ao n' cap, v' = .slice ao n' cap := by
    rcases hown'.2 with ⟨hv, _⟩ | ⟨g, cap, cur, hv, _⟩
    · exact ⟨_, _, _, hv⟩
    · exact ⟨_, _, _, hv⟩
  have hsl : (tl s).length = s.size := rfl
  have hown2 := ownsRow_turned hown' (.setCell (own := fun k => k = b) (p := ⟨b, 1, none⟩) rfl _ (.slice ao n' cap)) (fun k hk e => by omega)
  have hb3 := heap_set1 (v' := .slice ao n' cap) hb2
  have ht3 := ht2.trans (.setCell (p := ⟨b, 1, none⟩) (.inl rfl) _ (.slice ao n' cap))
  clear hown'
  have HN := Lib.hid HN
  go_wp2
  go_ret2
  refine ⟨rfl, ⟨_, _, .inr rfl, hb3, ?_, HN.out⟩, ht3⟩
  rw [byteCells_app, List.length_append]
  exact hown2

theorem turned_freeze {own : Nat → Prop} (A : World) {p : Addr} (hp : own p.block) (n : Nat) : Turned own A (A.freeze p n) := by
  unfold World.freeze
  split
  · exact .refl _ _
  · refine ⟨rfl, rfl, rfl, by simp, fun k _ hk => ?_⟩
    simp only [Array.getElem?_modify]
    have hne : ¬ p.block = k := fun e => hk (e ▸ hp)
    rw [if_neg hne]

set_option maxHeartbeats 1000000 in
set_option maxRecDepth 100000 in
theorem bldString_none (base b : Nat) (w : World) (h : Bld base b [] w) :
    Calls Tryd.prog 36 #[.pointer (some ⟨b, 0, none⟩)] w fun e w' => e = .returned (.string ⟨#[]⟩) ∧ Turned (bldOwn base b) w w' := by
  obtain ⟨p, v, hp, hbk, hr, hn⟩ := h
  obtain rfl := hn rfl
  have hUS : ∀ W : World, (Builtin.unsafeString_ #[62, 3] 9 #[.pointer none, .int .i64 0]).run Tryd.prog W = .ok (.string .empty) W := fun W => Lib.run_unsafeString_none W _ _ _ none
  have c1 : w.drew.cell? ⟨b, 1, none⟩ = some (.slice none 0 0) := by
    have : w.drew.heap[b]? = some (.cells #[p, .slice none 0 0] 50 (0, 0)) := hbk
    rw [Lib.cell_of_heap this]; rfl
  have hSD : (Builtin.unsafeSliceData_ #[22] 62 #[.slice none 0 0]).run Tryd.prog w.drew = .ok (.pointer none) w.drew := rfl
  have ht : Turned (bldOwn base b) w w.drew := .drew _ _
  clear hp hr hn
  go_enter Tryd.func36, Tryd.ntmps36
  go_wp2
  go_region
  all_goals (go_wp2; go_ret; exact ⟨rfl, ht⟩)

theorem cellsB : Tryd.prog.cellsOf 5 = 1 := by kernel_rfl

set_option maxHeartbeats 1000000 in
set_option maxRecDepth 100000 in
theorem bldString_some (base b : Nat) (l : List UInt8) (h0 : l ≠ []) (w : World) (h : Bld base b l w) :
    Calls Tryd.prog 36 #[.pointer (some ⟨b, 0, none⟩)] w fun e w' => e = .returned (.string ⟨l.toArray⟩) ∧ Turned (bldOwn base b) w w' := by
  obtain ⟨p, v, hp, hbk, hown, hn⟩ := h
  have hl0 : l.length ≠ 0 := by simpa using h0
  obtain ⟨g, cap, cur, rfl, hbg, hg, hnc, hcm, hcs, htake⟩ : ∃ g cap cur, v = .slice (some ⟨g, 0, none⟩) l.length cap ∧ base ≤ g ∧ w.heap[g]? = some (.cells cur 5 (0, 0)) ∧ l.length ≤ cap ∧ cap ≤ maxLen ∧ cur.size = cap * 1 ∧ cur.toList.take (l.length * 1) = Lib.byteCells l := by
    rcases hown.2 with ⟨_, hz⟩ | ⟨g, cap, cur, hv, r⟩
    · exact absurd hz hl0
    · exact ⟨g, cap, cur, hv, r⟩
  have c1 : w.drew.cell? ⟨b, 1, none⟩ = some (.slice (some ⟨g, 0, none⟩) l.length cap) := by
    have : w.drew.heap[b]? = some (.cells #[p, .slice (some ⟨g, 0, none⟩) l.length cap] 50 (0, 0)) := hbk
    rw [Lib.cell_of_heap this]; rfl
  have hSD : (Builtin.unsafeSliceData_ #[22] 62 #[.slice (some ⟨g, 0, none⟩) l.length cap]).run Tryd.prog w.drew = .ok (.pointer (some ⟨g, 0, none⟩)) w.drew :=
    Lib.run_unsafeSliceData_row _ _ _ _ _ _ (by omega)
  have hUS : (Builtin.unsafeString_ #[62, 3] 9 #[.pointer (some ⟨g, 0, none⟩), .int .i64 l.length]).run Tryd.prog w.drew = .ok (.string ⟨l.toArray⟩) (w.drew.freeze ⟨g, 0, none⟩ l.length) := by
    refine Lib.run_unsafeString_row w.drew 62 3 9 5 Tryd.underlying62 cellsB g cur.size (by have hg' : w.drew.heap[g]? = some (.cells cur 5 (0, 0)) := hg; simp [World.shape?, hg']) l h0 (by omega) (by unfold maxLen at hcm; omega) ?_
    intro j x hx
    have := hown.cells (g := g) rfl j (.int .u8 x.toNat) (by simp [Lib.byteCells, hx])
    exact this
  have ht : Turned (bldOwn base b) w (w.drew.freeze ⟨g, 0, none⟩ l.length) := (Turned.drew _ _).trans (turned_freeze _ (.inr hbg) _)
  clear hp hn htake hcs h0 hown
  go_enter Tryd.func36, Tryd.ntmps36
  go_wp2
  go_region
  all_goals (go_wp2; go_ret; exact ⟨rfl, ht⟩)

/-- The text of a builder. -/
theorem bldString_any (base b : Nat) (l : List UInt8) (w : World) (h : Bld base b l w) :
    Calls Tryd.prog 36 #[.pointer (some ⟨b, 0, none⟩)] w fun e w' => e = .returned (.string ⟨l.toArray⟩) ∧ Turned (bldOwn base b) w w' := by
  by_cases h0 : l = []
  · subst h0; exact bldString_none base b w h
  · exact bldString_some base b l h0 w h
theorem bldLen_any (base b : Nat) (hb : b < base) (l : List UInt8) (w : World) (h : Bld base b l w) :
    Calls Tryd.prog 33 #[.pointer (some ⟨b, 0, none⟩)] w fun e w' => e = .returned (.int .i64 l.length) ∧ w = w' :=
  (Tryd.Builder_Len b b _ w (h.is hb)).mono fun e w' ⟨he, hw⟩ => ⟨by rw [he, Lib.byteCells_length], hw.symm⟩
end Go.Proofs.YtpmhmglckeafgaaDoor
