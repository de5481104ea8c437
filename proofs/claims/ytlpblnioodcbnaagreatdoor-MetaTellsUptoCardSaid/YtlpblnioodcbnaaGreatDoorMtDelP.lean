/-
  slices.DeleteFunc of parts without bytes.
-/
import Derived.Test.YtlpblnioodcbnaaGreatDoorMtDelM
import Derived.Test.YtlpblnioodcbnaaGreatDoorKS
set_option linter.unusedVariables false
set_option linter.unusedSimpArgs false
namespace Go.Proofs.YtlpblnioodcbnaaGreatDoor
open Go.RowKit Go.Lib
open Px (R2 tl)
attribute [local go_sem ↓] add_plain
def encP (p : Int × Int) : Value × Value := (.int .i64 p.1, .int .i64 p.2)
theorem pcells_flat (l : List (Int × Int)) : Sp.pcells l = flat2 (l.map encP) := by
  unfold Sp.pcells flat2
  rw [List.flatMap_map]
  rfl
def keptP (l : List (Int × Int)) (j : Nat) : List (Value × Value) := ((l.take j).filter full).map encP
theorem keptP_yes {l : List (Int × Int)} {j : Nat} (h : j < l.length) (hf : full l[j] = true) : keptP l (j + 1) = keptP l j ++ [encP l[j]] := by
  unfold keptP
  rw [List.take_succ_eq_append_getElem h, List.filter_append, List.map_append]
  simp [List.filter_cons, hf]
theorem keptP_no {l : List (Int × Int)} {j : Nat} (h : j < l.length) (hf : full l[j] = false) : keptP l (j + 1) = keptP l j := by
  unfold keptP
  rw [List.take_succ_eq_append_getElem h, List.filter_append, List.map_append]
  simp [List.filter_cons, hf]
theorem keptP_all {l : List (Int × Int)} {j : Nat} (h : (l.take j).all full = true) : keptP l j = (l.take j).map encP := by
  unfold keptP
  rw [List.filter_eq_self.2 (fun x hx => List.all_eq_true.1 h x hx)]
theorem wpList_clear2 {ops : Array Oper} {rest : List Oper} {o : Oper} {a : Act} {w : World} {Q : Exit → Act → World → Prop} (hgd : o.guard = none) (x : Operand)
    (ho : o.op = .call { callee := .builtin .clear, args := #[x], argTypes := #[24] }) (g off m c : Nat) (C : Array Value) (hx : a.eval x = .slice (some ⟨g, off, none⟩) m c) (hm : 0 < m)
    (hb : w.heap[g]? = some (.cells C 61 (0, 0))) (hl : off + m * 2 ≤ C.size)
    (h : ∀ C' : Array Value, C'.size = C.size → (∀ k, k < off → C'[k]? = C[k]?) → wpList Tryz.prog ops Q rest (a.put o.dst (.tuple #[])) (w.setRow g C')) : wpList Tryz.prog ops Q (o :: rest) a w := by
  refine wpList_plain hgd fun K hK => ?_
  have hz : ∀ w, (zeroValue 61).run Tryz.prog w = .ok (.agg #[.int .i64 0, .int .i64 0]) w := fun w => by kernel_rfl
  obtain ⟨n, rfl⟩ : ∃ n, m = n + 1 := ⟨m - 1, by omega⟩
  have hlen : (Builtin.zeroCells #[Value.int .i64 0, .int .i64 0] (n + 1)).toList.length = (n + 1) * 2 := by simp [Builtin.zeroCells]
  have hst := run_storeCells_at Tryz.prog g off 61 (Builtin.zeroCells #[Value.int .i64 0, .int .i64 0] (n + 1)).toList 0 C w hb (by rw [hlen]; omega) (by
    intro v hv
    unfold Builtin.zeroCells at hv
    simp only [Array.toList_map, List.mem_map] at hv
    obtain ⟨i, _, rfl⟩ := hv
    rcases Nat.mod_two_eq_zero_or_one i with e | e <;> simp [e, Value.oneCell'])
  have hrun : (Builtin.clear_ #[24] o.type #[.slice (some ⟨g, off, none⟩) (n + 1) c]).run Tryz.prog w = .ok (.tuple #[]) (w.setRow g (C.toList.take (off + 0) ++ (Builtin.zeroCells #[Value.int .i64 0, .int .i64 0] (n + 1)).toList ++ C.toList.drop (off + 0 + (Builtin.zeroCells #[Value.int .i64 0, .int .i64 0] (n + 1)).toList.length)).toArray) := by
    simp [Builtin.clear_, run_underlying Tryz.underlying24, hz, hst, Value.cells]
  unfold Oper.wp execOp
  simp only [ho, resolve, invoke, builtin, Sem.run_bind, Sem.run_pure, Result.andThen_ok, List.map_toArray, List.map_cons, List.map_nil, hx, hrun]
  refine hK _ _ (h _ ?_ ?_)
  · have h1 : C.toList.length = C.size := by simp
    simp only [List.size_toArray, List.length_append, List.length_take, List.length_drop, hlen, h1]
    omega
  · intro k hk
    have h1 : C.toList.length = C.size := by simp
    simp only [List.getElem?_toArray, Nat.add_zero]
    rw [List.append_assoc, List.getElem?_append_left (by rw [List.length_take, h1]; omega), List.getElem?_take, if_pos hk]
    simp
set_option maxRecDepth 100000 in
set_option maxHeartbeats 4000000 in
theorem deleteP_any (v : Value) (l : List (Int × Int)) (base : Nat) (hl : l.length ≤ 1000000) (w : World) (h : Sp.OwnP w base v l) (hbase : base ≤ w.heap.size) :
    Calls Tryz.prog 91 #[v, .func (.func 92) #[] #[]] w fun e w' => ∃ v', e = .returned v' ∧ Sp.OwnP w' base v' (l.filter full) ∧ Below base w w' := by
  obtain ⟨A0, c0, rfl, hrd, hc0⟩ := h.rd
  have HI := hid (firstEmpty_any A0 c0 l.length l hl w hrd)
  have HO := hid h
  clear h hrd
  go_enter Tryz.func91, Tryz.ntmps91
  go_wp2_with fail
  refine HI.out.mono ?_
  rintro e w1 ⟨⟨i, rfl, hi⟩, hb1⟩
  have HO1 := hid (HO.out.later hb1)
  have HB1 := hid hb1
  clear hb1 HI
  rcases hi with ⟨rfl, hall⟩ | ⟨k, hk, rfl, hfr, hek⟩
  · have HF := hid (show l.filter full = l from List.filter_eq_self.2 (fun x hx => List.all_eq_true.1 hall x hx))
    clear hall
    go_wp2
    go_ret
    exact ⟨_, rfl, by rw [HF.out]; exact HO1.out, HB1.out.mono hbase⟩
  · obtain ⟨_, hor⟩ := HO1.out
    rcases hor with ⟨he, h0⟩ | ⟨g, cap, cur, he, hbg, hrow, hnc, hcm, hcs, htk⟩
    · exfalso; omega
    · injection he with he1 _ he3
      subst he1 he3
      have hno : full l[k] = false := by unfold full; rw [hek]; rfl
      have hk1 : keptP l (k + 1) = (l.take k).map encP := (keptP_no hk hno).trans (keptP_all hfr)
      have hgl : g < w1.heap.size := (Array.getElem?_eq_some_iff.1 hrow).1
      have HD0 := hid (show DI w1 w1 g c0 61 (keptP l (k + 1)) (l.map encP) (k + 1) from
        ⟨⟨cur, hrow, sift_of_flat hcs (n := l.length) (by rw [List.length_map]) (htk.trans (pcells_flat l)) _ _ (by
          intro q x hq
          rw [hk1, List.getElem?_map, List.getElem?_take] at hq
          rw [List.getElem?_map]
          split at hq
          · exact hq
          · simp at hq)⟩, Fg.refl _ _, hgl⟩)
      have hlk : (keptP l (k + 1)).length = k := by
        rw [hk1, List.length_map, List.length_take]; omega
      have HBG := hid hbg
      have HNC := hid hnc
      have HCM := hid hcm
      clear hrow hcs htk hbg hnc hcm hfr hek hno hk1 HO1 HO
      go_wp2
      rename_i hkk _ _
      simp only [hkk]
      go_loopw [5, 6] (fun iv jv wr => ∃ (j : Nat), jv = .int .i64 j ∧ j ≤ l.length ∧ iv = .int .i64 (keptP l j).length ∧ (keptP l j).length < j ∧ Hid (DI w1 wr g c0 61 (keptP l j) (l.map encP) j)) (fun _ jv _ => l.length - (intOf jv).toNat)
      case atStart => exact ⟨k + 1, by first | rfl | go_num, by omega, by rw [hlk], by omega, HD0⟩
      case round =>
        clear HD0 hlk
        obtain ⟨j, rfl, hj, rfl, hij, HD⟩ := hrel
        by_cases hlt : j < l.length
        · obtain ⟨C, hC, hS⟩ := HD.out.row
          obtain ⟨p, hp⟩ : ∃ p, l[j] = p := ⟨_, rfl⟩
          have hx : (l.map encP)[j]? = some (encP p) := by rw [List.getElem?_map, List.getElem?_eq_getElem hlt, hp]; rfl
          obtain ⟨hc1, hc2⟩ := hS.rest j _ (Nat.le_refl _) hx
          have HS := hid hS
          have hcl : C.size = c0 * 2 := hS.size
          have hjn : (j : Int) < (l.length : Int) := by omega
          obtain ⟨p1, p2⟩ := p
          have d1 : wr.cell? ⟨g, j * 2, none⟩ = some (.int .i64 p1) := (cell_of_row wr g (j * 2) _ _ _ hC).trans hc1
          have d2 : wr.cell? ⟨g, j * 2 + 1, none⟩ = some (.int .i64 p2) := (cell_of_row wr g (j * 2 + 1) _ _ _ hC).trans hc2
          have HE := hid (fun V => isEmpty_any p1 p2 V)
          have HY := hid (fun hf => keptP_yes (l := l) (j := j) hlt hf)
          have HX := hid (fun hf => keptP_no (l := l) (j := j) hlt hf)
          rw [hp] at HY HX
          clear hx hc1 hc2 hS hp
          generalize hi : (keptP l j).length = i at *
          go_upto_region 8 with fail
          have hn := heap_alloc_new wr (.cells #[.int .i64 p1, .int .i64 p2] 61)
          have hsz := World.size_alloc wr (.cells #[.int .i64 p1, .int .i64 p2] 61)
          have hbW := (Below.refl wr.heap.size wr).alloc (Nat.le_refl _) (.cells #[.int .i64 p1, .int .i64 p2] 61)
          have hgr : g < wr.heap.size := (Array.getElem?_eq_some_iff.1 hC).1
          generalize World.alloc wr _ = W at *
          have x0 := cell_of_row W wr.heap.size 0 _ _ _ hn
          have x1 := cell_of_row W wr.heap.size 1 _ _ _ hn
          simp only [List.getElem?_toArray, List.getElem?_cons_zero, List.getElem?_cons_succ] at x0 x1
          go_upto_if 29 with (go_at_call 92; (with_reducible refine (HE.out _).mono ?_); rintro e w5 ⟨rfl, hb5⟩)
          have HC5 := hid (show w5.heap[g]? = some (.cells C 61 (0, 0)) from (hb5.block g (by rw [hsz]; omega)).trans ((hbW.block g hgr).trans hC))
          have HF5 := hid (show Fg g w1 w5 from (HD.out.fg.trans (Fg.of_below hbW)).trans (Fg.of_below hb5))
          have y0 : w5.cell? ⟨wr.heap.size, 0, none⟩ = some (.int .i64 p1) := (hb5.cell (p := ⟨wr.heap.size, 0, none⟩) (by show wr.heap.size < _; omega)).trans x0
          have y1 : w5.cell? ⟨wr.heap.size, 1, none⟩ = some (.int .i64 p2) := (hb5.cell (p := ⟨wr.heap.size, 1, none⟩) (by show wr.heap.size < _; omega)).trans x1
          clear hn hbW hb5 d1 d2 x0 x1 hC HE
          cases hz : (p2 == 0) with
          | true =>
            have HK := hid (HX.out (by show (!(p2 == 0)) = false; rw [hz]; rfl))
            clear hz y0 y1
            go_wp2_with fail
            go_roundw
            case rel => exact ⟨j + 1, by go_num, by omega, by rw [HK.out, hi], by rw [HK.out, hi]; omega, hid (show DI _ _ _ _ _ _ _ _ from ⟨⟨C, HC5.out, by rw [HK.out]; exact HS.out.skip⟩, HF5.out, hgl⟩)⟩
            case measure => simp [intOf]; omega
          | false =>
            have HK := hid (HY.out (by show (!(p2 == 0)) = true; rw [hz]; rfl))
            obtain ⟨a0, ha0⟩ : ∃ a0, C[i * 2]? = some a0 := ⟨_, Array.getElem?_eq_getElem (by have := HNC.out; omega)⟩
            obtain ⟨a1, ha1⟩ : ∃ a1, (C.set! (i * 2) (.int .i64 p1))[i * 2 + 1]? = some a1 := ⟨_, Array.getElem?_eq_getElem (by have := HNC.out; rw [Array.set!_eq_setIfInBounds, Array.size_setIfInBounds]; omega)⟩
            have hrw := heap_setCell_same w5 g (i * 2) _ _ (.int .i64 p1) HC5.out
            have z0 : w5.cell? ⟨g, i * 2, none⟩ = some a0 := (cell_of_row w5 g (i * 2) _ _ _ HC5.out).trans ha0
            have z1 : (w5.setCell ⟨g, i * 2, none⟩ (.int .i64 p1)).cell? ⟨g, i * 2 + 1, none⟩ = some a1 := (cell_of_row _ g (i * 2 + 1) _ _ _ hrw).trans (by first | exact ha1 | simpa using ha1)
            have f0 := frozen_of_row w5 g (i * 2) _ _ HC5.out
            have f1 := frozen_of_row (w5.setCell ⟨g, i * 2, none⟩ (.int .i64 p1)) g (i * 2 + 1) _ _ hrw
            have hin : (i : Int) < (l.length : Int) := by omega
            have HW5 := hid (show DI w1 ((w5.setCell ⟨g, i * 2, none⟩ (.int .i64 p1)).setCell ⟨g, i * 2 + 1, none⟩ (.int .i64 p2)) g c0 61 (keptP l (j + 1)) (l.map encP) (j + 1) from by
              refine ⟨⟨(C.set! (i * 2) (.int .i64 p1)).set! (i * 2 + 1) (.int .i64 p2), ?_, ?_⟩, (HF5.out.trans (Fg.set _ g _ _)).trans (Fg.set _ g _ _), hgl⟩
              · rw [heap_setCell_same _ g (i * 2 + 1) _ _ _ (heap_setCell_same w5 g (i * 2) _ _ _ HC5.out)]
                simp
              · have := HS.out.put (encP (p1, p2)) (by rw [hi]; omega) (by have := HNC.out; omega)
                rw [hi] at this
                rw [HK.out]
                exact this)
            clear hz
            go_wp2_with fail
            go_roundw
            case rel => exact ⟨j + 1, by go_num, by omega, by rw [HK.out, List.length_append, hi]; first | rfl | go_num, by rw [HK.out, List.length_append, List.length_singleton]; omega, HW5⟩
            case measure => simp [intOf]; omega
        · obtain rfl : j = l.length := by omega
          obtain ⟨C, hC, hS⟩ := HD.out.row
          have HS := hid hS
          have HFG := hid HD.out.fg
          have hcl : C.size = c0 * 2 := hS.size
          have hfin : keptP l l.length = (l.filter full).map encP := by unfold keptP; rw [List.take_length]
          have HN := hid (show (l.filter full).length = (keptP l l.length).length by rw [hfin, List.length_map])
          have HK := hid hfin
          clear hS hfin HD
          generalize hi : (keptP l l.length).length = i at *
          have hcn : l.length ≤ c0 := HNC.out
          have hcm : c0 ≤ maxLen := HCM.out
          go_wp2_with (refine wpList_clear2 rfl (.tmp 38) rfl g (i * 2) (l.length - i) (c0 - i) C (by simp [Act.eval, Act.put]) (by omega) hC (by omega) ?_)
          intro C' hs' hp'
          have HC2 := hid (show (wr.setRow g C').heap[g]? = some (.cells C' 61 (0, 0)) from setRow_heap wr g C C' _ _ hC)
          have HB2 := hid (show Below base w (wr.setRow g C') from by
            have hb := HFG.out.below (HB1.out.mono hbase) HBG.out (Nat.le_trans hbase HB1.out.size)
            refine ⟨hb.os, hb.tape, hb.output, by simpa using hb.size, fun q hq => (setRow_other wr g q C' (fun e => ?_)).trans (hb.block q hq)⟩
            have := HBG.out
            omega)
          have HP := hid hp'
          have HS2 := hid hs'
          clear hp' hs' hC
          generalize wr.setRow g C' = W2 at *
          go_wp2
          go_ret
          refine ⟨.slice (some ⟨g, 0, none⟩) i c0, rfl, ?_, HB2.out⟩
          have hn := HN.out
          have hk2 := HK.out
          have hfr : C'.toList.take ((keptP l l.length).length * 2) = flat2 (keptP l l.length) := flat_of_front (fun q x hq => by
            have hql := (List.getElem?_eq_some_iff.1 hq).1
            obtain ⟨g1, g2⟩ := HS.out.front q x hq
            exact ⟨(HP.out _ (by omega)).trans g1, (HP.out _ (by omega)).trans g2⟩)
          unfold Sp.OwnP
          refine ⟨by rw [pcells_flat, flat2_len, List.length_map], .inr ⟨g, c0, C', by rw [hn], HBG.out, HC2.out, by omega, HCM.out, HS2.out, ?_⟩⟩
          rw [pcells_flat, ← hk2, hn, ← hi]
          exact hfr
end Go.Proofs.YtlpblnioodcbnaaGreatDoor
