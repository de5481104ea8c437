/-
  slices.Grow from nil, slices.Concat of two: rows of parts.
-/
import Derived.Test.YtlpblnioodcbnaaGreatDoorMtDelP
import Derived.Test.YtlpblnioodcbnaaGreatDoorMtLoop
set_option linter.unusedVariables false
set_option linter.unusedSimpArgs false
namespace Go.Proofs.YtlpblnioodcbnaaGreatDoor
open Go.RowKit Go.Lib
open Px (R2 tl)
attribute [local go_sem ↓] add_plain
theorem run_grow (w : World) (n : Nat) (h0 : 0 < n) (hn : n ≤ 2000000) (ty : TypeId) :
    (Builtin.append_ #[24, 3] ty #[.slice none 0 0, .int .i64 n]).run Tryz.prog w =
      .ok (.slice (some ⟨w.heap.size, 0, none⟩) n (grownCap w n 0 61)) (w.drew.alloc (.cells (Builtin.zeroCells #[.int .i64 0, .int .i64 0] n ++ Builtin.zeroCells #[.int .i64 0, .int .i64 0] (grownCap w n 0 61 - n)) 61)) := by
  obtain ⟨i0, hi, hz0, hz1, hz2⟩ := info_parts Sp.part_parts
  have hu : Tryz.prog.underlying 3 = some (.int .i64) := by kernel_rfl
  have hw : IntKind.i64.wrap (n : Int) = n := by rw [IntKind.wrap_i64]; omega
  have n1 : ¬ ((n : Int) < 0) := by omega
  have n2 : ¬ (281474976710656 < (n : Int) * 16) := by omega
  have n3 : n ≠ 0 := by omega
  have n6 : ¬ n ≤ 0 := by omega
  have n4 : ¬ (9223372036854775807 < (n : Int)) := by omega
  have n5 : ¬ (281474976710656 < Builtin.nextslicecap n 0 * 16) := by rw [nextslicecap_zero h0]; omega
  simp [Builtin.append_, run_underlying Tryz.underlying24, run_underlying hu, sizeOf, typeInfo, zeroValue, hi, hz0, hz1, hz2, asInt, asIntOf, hw, n1, n2, n3, n4, n5, n6, Question.forced, run_firstCells_none, newRow, grownCap, Value.cells]
  exact fun h => absurd h (by omega)
theorem wpList_growP {w : World} {ops : Array Oper} {rest : List Oper} {o : Oper} {a : Act} {Q : Exit → Act → World → Prop} (hgd : o.guard = none) (s x : Operand)
    (ho : o.op = .call { callee := .builtin .append, args := #[s, x], argTypes := #[24, 3] }) (n : Nat) (h0 : 0 < n) (hn : n ≤ 2000000)
    (hs : a.eval s = .slice none 0 0) (hx : a.eval x = .int .i64 n)
    (h : ∀ c w', Hid (Sp.OwnP w' w.heap.size (.slice (some ⟨w.heap.size, 0, none⟩) 0 c) []) → Hid (Below w.heap.size w w') → n ≤ c → wpList Tryz.prog ops Q rest (a.put o.dst (.slice (some ⟨w.heap.size, 0, none⟩) n c)) w') :
    wpList Tryz.prog ops Q (o :: rest) a w := by
  refine wpList_plain hgd fun K hK => ?_
  unfold Oper.wp execOp
  simp only [ho, resolve, invoke, builtin, Sem.run_bind, Sem.run_pure, Result.andThen_ok, List.map_toArray, List.map_cons, List.map_nil, hs, hx, run_grow w n h0 hn]
  have hge := grownCap_ge w n 0 61
  refine hK _ _ (h _ _ (hid ?_) (hid ?_) hge)
  · refine World.ownsRow_made w.drew _ _ (Nat.le_refl _) (grownCap_le_maxLen w n 0 _ (by unfold maxLen; omega)) ?_
    simp only [Array.size_append, size_zeroCells]
    show n * 2 + _ * 2 = _ * 2
    omega
  · exact ((Below.refl _ w).drew).alloc (Nat.le_refl _) _

set_option maxRecDepth 100000 in
set_option maxHeartbeats 1000000 in
theorem grow_any (n : Nat) (hn : n ≤ 2000000) (w : World) :
    Calls Tryz.prog 138 #[.slice none 0 0, .int .i64 n] w fun e w' => ∃ v', e = .returned v' ∧ Sp.OwnP w' w.heap.size v' [] ∧ Below w.heap.size w w' := by
  by_cases h0 : n = 0
  · subst h0
    go_enter Tryz.func138, Tryz.ntmps138
    go_wp2
    go_ret
    exact ⟨_, rfl, Sp.OwnP.nil _ _, Below.refl _ _⟩
  · have hn1 : ¬ ((n : Int) < 0) := by omega
    have hn2 : (0 : Int) < (n : Int) := by omega
    go_enter Tryz.func138, Tryz.ntmps138
    go_wp2_with (refine wpList_growP rfl (.tmp 20) (.tmp 21) rfl n (by omega) hn (by simp [Act.eval, Act.put]) (by simp [Act.eval, Act.put]) ?_)
    intro c W HO HB hc
    go_wp2
    go_ret
    exact ⟨_, rfl, HO.out, HB.out⟩

theorem rdP_reads {w : World} {B n : Nat} {A : Option Addr} {l : List (Int × Int)} (h : Sp.RdP w B A n l) : Px.Reads w B 2 A n (Sp.pcells l) := by
  refine ⟨by rw [pcells_flat, flat2_len, List.length_map, h.len], fun hn => ?_⟩
  obtain ⟨b, off, e, hb, hc⟩ := h.2 hn
  refine ⟨_, e, hb, fun j u hj => ?_⟩
  rw [Px.add_mk]
  have hjl : j < (Sp.pcells l).length := (List.getElem?_eq_some_iff.1 hj).1
  rw [pcells_flat, flat2_len, List.length_map] at hjl
  obtain ⟨k, hk⟩ : ∃ k, k = j / 2 := ⟨_, rfl⟩
  have hkl : k < l.length := by omega
  have hr := hc k _ (List.getElem?_eq_getElem hkl)
  have hx := Sp.pcells_at (List.getElem?_eq_getElem hkl)
  rcases Nat.mod_two_eq_zero_or_one j with h2 | h2
  · obtain rfl : j = 2 * k := by omega
    rw [hx.1] at hj
    injection hj with hj
    subst hj
    rw [Nat.mul_comm 2 k]
    exact hr.1
  · obtain rfl : j = 2 * k + 1 := by omega
    rw [hx.2] at hj
    injection hj with hj
    subst hj
    rw [Nat.mul_comm 2 k]
    exact hr.2
theorem wpList_appPs {W : World} {ops : Array Oper} {rest : List Oper} {o : Oper} {a : Act} {Q : Exit → Act → World → Prop} (hgd : o.guard = none) (s x : Operand)
    (ho : o.op = .call { callee := .builtin .append, args := #[s, x], argTypes := #[24, 24] })
    (base : Nat) (v : Value) (l m : List (Int × Int)) (B : Nat) (A : Option Addr) (n c : Nat) (hs : a.eval s = v) (hown : Sp.OwnP W base v l) (hbase : base ≤ W.heap.size)
    (hx : a.eval x = .slice A n c) (hr : Sp.RdP W B A n m) (hl : l.length ≤ 1000000) (hm : n ≤ 1000000)
    (h : ∀ v' w', Hid (Sp.OwnP w' base v' (l ++ m)) → Hid (Below base W w') → wpList Tryz.prog ops Q rest (a.put o.dst v') w') :
    wpList Tryz.prog ops Q (o :: rest) a W := by
  obtain ⟨i0, hi, hz0, hz1, hz2⟩ := info_parts Sp.part_parts
  refine Px.wpList_append_any _ hgd s x 24 ho base 61 i0 (.agg #[.int .i64 0, .int .i64 0]) 2 16 Tryz.underlying24 hi hz0 hz1 hz2 rfl (by decide) v l.length (Sp.pcells l) hs hown B A n c (Sp.pcells m) hx (rdP_reads hr) (Sp.pcells_one m) (by unfold maxLen; omega) (by omega) hbase ?_
  intro v' w' hown' hg hat
  have hml := hr.len
  refine h v' w' (hid ?_) (hid ?_)
  · unfold Sp.OwnP
    rw [Sp.pcells_app, List.length_append, hml]
    exact hown'
  · refine Sp.below_grown (Below.refl base W) hg hbase ?_
    intro g hg
    rcases hown.2 with ⟨rfl, _⟩ | ⟨g', cap, cur, rfl, hb, _⟩
    · simp [Value.ownBlock] at hg
    · have : g' = g := by simpa [Value.ownBlock] using hg
      omega
def three {α : Type} (k : Nat) (a b c : α) : α := if k = 0 then a else if k = 1 then b else c

set_option maxRecDepth 100000 in
set_option maxHeartbeats 4000000 in
theorem concat_any (g : Nat) (T : TypeId) (A1 A2 : Option Addr) (n1 n2 c1 c2 : Nat) (l1 l2 : List (Int × Int)) (hn1 : n1 ≤ 1000000) (hn2 : n2 ≤ 1000000) (w : World)
    (hg : w.heap[g]? = some (.cells #[.slice A1 n1 c1, .slice A2 n2 c2] T (0, 0))) (h1 : Sp.RdP w w.heap.size A1 n1 l1) (h2 : Sp.RdP w w.heap.size A2 n2 l2) :
    Calls Tryz.prog 90 #[.slice (some ⟨g, 0, none⟩) 2 2] w fun e w' => ∃ v', e = .returned v' ∧ Sp.OwnP w' w.heap.size v' (l1 ++ l2) ∧ Below w.heap.size w w' := by
  have d0 : w.cell? ⟨g, 0, none⟩ = some (.slice A1 n1 c1) := cell_of_row w g 0 _ _ _ hg
  have d1 : w.cell? ⟨g, 1, none⟩ = some (.slice A2 n2 c2) := cell_of_row w g 1 _ _ _ hg
  have H1 := hid h1
  have H2 := hid h2
  clear h1 h2 hg
  go_enter Tryz.func90, Tryz.ntmps90
  go_wp2
  go_loopw [3, 11] (fun sv iv wr => ∃ (k : Nat), iv = .int .i64 k ∧ k ≤ 2 ∧ sv = three k (.int .i64 0) (.int .i64 n1) (.int .i64 (n1 + n2)) ∧ wr = w) (fun _ iv _ => 2 - (intOf iv).toNat)
  case atStart => exact ⟨0, rfl, by omega, rfl, rfl⟩
  case round =>
    obtain ⟨k, rfl, hk, hs, hw⟩ := hrel
    have hw2 := hw.symm
    clear hw
    subst hw2
    rcases (show k = 0 ∨ k = 1 ∨ k = 2 by omega) with rfl | rfl | rfl
    · obtain rfl : _ = Value.int .i64 0 := hs
      go_wp2
      go_roundw
      case rel => exact ⟨1, by first | rfl | go_num, by omega, by first | rfl | go_num, by first | rfl | trivial⟩
      case measure => simp [intOf]
    · obtain rfl : _ = Value.int .i64 n1 := hs
      go_wp2
      go_roundw
      case rel => exact ⟨2, by first | rfl | go_num, by omega, by first | rfl | go_num, by first | rfl | trivial⟩
      case measure => simp [intOf]
    · obtain rfl : _ = Value.int .i64 ((n1 : Int) + n2) := hs
      have hgr := grow_any (n1 + n2) (by omega)
      rw [Int.natCast_add] at hgr
      have HGR := hid hgr
      clear hgr
      go_wp2_with fail
      refine (HGR.out _).mono ?_
      rintro e w1 ⟨v1, rfl, ho1, hb1⟩
      have HO1 := hid ho1
      have HB1 := hid hb1
      clear ho1 hb1 HGR
      have e0 : w.heap.size ≤ w1.heap.size := HB1.out.size
      go_wp2
      go_loopw [6, 27] (fun nv iv wq => ∃ (k : Nat), iv = .int .i64 k ∧ k ≤ 2 ∧ Hid (Sp.OwnP wq w.heap.size nv (three k [] l1 (l1 ++ l2))) ∧ Hid (Below w.heap.size w wq)) (fun _ iv _ => 2 - (intOf iv).toNat)
      case atStart => exact ⟨0, by first | rfl | go_num, by omega, HO1, HB1⟩
      case round =>
        clear HO1 HB1 e0
        obtain ⟨k, rfl, hk, HO, HB⟩ := hrel
        have e0 := HB.out.size
        have d0q := (HB.out.cell (p := ⟨g, 0, none⟩) (World.block_lt_of_cell? w _ d0)).trans d0
        have d1q := (HB.out.cell (p := ⟨g, 1, none⟩) (World.block_lt_of_cell? w _ d1)).trans d1
        rcases (show k = 0 ∨ k = 1 ∨ k = 2 by omega) with rfl | rfl | rfl
        · have HO3 := hid (show Sp.OwnP wr w.heap.size _ [] from HO.out)
          clear HO
          obtain ⟨Av, cv, rfl, _, _⟩ := HO3.out.rd
          go_wp2_with (refine wpList_appPs rfl (.tmp 31) (.tmp 32) rfl w.heap.size (.slice Av ([] : List (Int × Int)).length cv) [] l1 w.heap.size A1 n1 c1 (by simp [Act.eval, Act.put]) HO3.out e0 (by simp [Act.eval, Act.put]) (H1.out.below HB.out) (by simp) hn1 ?_)
          intro v2 w2 HO2 HB2
          clear HO3
          go_wp2
          go_roundw
          case rel => exact ⟨1, by first | rfl | go_num, by omega, HO2, hid (HB.out.trans HB2.out)⟩
          case measure => simp [intOf]
        · have hl1 := H1.out.len
          have HO3 := hid (show Sp.OwnP wr w.heap.size _ l1 from HO.out)
          clear HO
          obtain ⟨Av, cv, rfl, _, _⟩ := HO3.out.rd
          go_wp2_with (refine wpList_appPs rfl (.tmp 31) (.tmp 32) rfl w.heap.size (.slice Av l1.length cv) l1 l2 w.heap.size A2 n2 c2 (by simp [Act.eval, Act.put]) HO3.out e0 (by simp [Act.eval, Act.put]) (H2.out.below HB.out) (by omega) hn2 ?_)
          intro v2 w2 HO2 HB2
          clear HO3
          go_wp2
          go_roundw
          case rel => exact ⟨2, by first | rfl | go_num, by omega, HO2, hid (HB.out.trans HB2.out)⟩
          case measure => simp [intOf]
        · have HO3 := hid (show Sp.OwnP wr w.heap.size _ (l1 ++ l2) from HO.out)
          clear HO
          obtain ⟨Av, cv, rfl, _, _⟩ := HO3.out.rd
          go_wp2
          go_ret
          exact ⟨_, rfl, HO3.out, HB.out⟩
end Go.Proofs.YtlpblnioodcbnaaGreatDoor
