/-
  slices.DeleteFunc of records whose key is known.
-/
import Derived.Test.YtlpblnioodcbnaaGreatDoorMtDelM
import Derived.Test.YtlpblnioodcbnaaGreatDoorMtLoop
set_option linter.unusedVariables false
set_option linter.unusedSimpArgs false
namespace Go.Proofs.YtlpblnioodcbnaaGreatDoor
open Go.RowKit Go.Lib
open Px (R2 tl)
attribute [local go_sem ↓] add_plain
def encR (p : R2) : Value × Value := (.string p.1, .string p.2)
theorem rcells_flat (l : List R2) : Px.cellsR l = flat2 (l.map encR) := by
  unfold Px.cellsR flat2
  rw [List.flatMap_map]
  rfl
def other (r : R2) : Bool := !(M.isKey (tl r.1))
def FirstKnown (l : List R2) (i : Int) : Prop := (i = -1 ∧ l.all other = true) ∨ ∃ (k : Nat) (h : k < l.length), i = k ∧ (l.take k).all other = true ∧ M.isKey (tl l[k].1) = true
theorem allR_take_succ {l : List R2} {k : Nat} (h : k < l.length) (h1 : (l.take k).all other = true) (h2 : M.isKey (tl l[k].1) = false) : (l.take (k + 1)).all other = true := by
  rw [List.take_succ_eq_append_getElem h, List.all_append, h1]
  simp [other, h2]
set_option maxRecDepth 100000 in
set_option maxHeartbeats 1000000 in
theorem firstKnown_any (A : Option Addr) (c : Nat) (l : List R2) (hl : l.length ≤ 1000000) (w : World) (h : Px.RdR w w.heap.size A l) :
    Calls Tryz.prog 93 #[.slice A l.length c, .func (.func 41) #[] #[]] w fun e w' => (∃ i, e = .returned (.int .i64 i) ∧ FirstKnown l i) ∧ Below w.heap.size w w' := by
  have HR := hid h
  clear h
  go_enter Tryz.func93, Tryz.ntmps93
  go_wp2
  go_loopw [8] (fun iv wr => ∃ (k : Nat), iv = .int .i64 k ∧ k ≤ l.length ∧ Hid ((l.take k).all other = true) ∧ Hid (Below w.heap.size w wr)) (fun iv _ => l.length - (intOf iv).toNat)
  case atStart => exact ⟨0, rfl, Nat.zero_le _, hid rfl, hid (Below.refl _ _)⟩
  case round =>
    obtain ⟨k, rfl, hk, HA, HB⟩ := hrel
    have hbs := HB.out.size
    by_cases hlt : k < l.length
    · obtain ⟨b, off, rfl, hbb, hc1, hc2⟩ := (HR.out.below HB.out).at_ hlt
      obtain ⟨p, hp⟩ : ∃ p, l[k] = p := ⟨_, rfl⟩
      rw [hp] at hc1 hc2
      obtain ⟨p1, p2⟩ := p
      dsimp only at hc1 hc2
      have hi2 : (k : Int) < (l.length : Int) := by omega
      have HE := hid (fun W => isKnown_any p1 p2 W)
      have HL := hid hlt
      have HP := hid hp
      clear hp
      cases hz : M.isKey (tl p1) with
      | true =>
        rw [hz] at HE
        have HZ := hid hz
        clear hz
        go_wp2_with (go_at_call 41; (with_reducible refine (HE.out _).mono ?_); rintro e w1 ⟨rfl, hb1⟩)
        go_ret
        exact ⟨⟨k, rfl, .inr ⟨k, HL.out, rfl, HA.out, by rw [HP.out]; exact HZ.out⟩⟩, HB.out.trans (hb1.mono hbs)⟩
      | false =>
        rw [hz] at HE
        have HZ := hid hz
        clear hz
        have HA2 := hid (allR_take_succ HL.out HA.out (by rw [HP.out]; exact HZ.out))
        go_wp2_with (go_at_call 41; (with_reducible refine (HE.out _).mono ?_); rintro e w1 ⟨rfl, hb1⟩)
        go_roundw
        case rel => exact ⟨k + 1, by go_num, by have := HL.out; omega, HA2, hid (HB.out.trans (hb1.mono hbs))⟩
        case measure => have := HL.out; simp [intOf]; omega
    · obtain rfl : k = l.length := by omega
      have HA2 := hid (show l.all other = true by have := HA.out; rwa [List.take_of_length_le (Nat.le_refl _)] at this)
      clear hlt
      go_wp2
      go_ret
      exact ⟨⟨-1, rfl, .inl ⟨rfl, HA2.out⟩⟩, HB.out⟩
def keptR (l : List R2) (j : Nat) : List (Value × Value) := ((l.take j).filter other).map encR
theorem keptR_yes {l : List R2} {j : Nat} (h : j < l.length) (hf : other l[j] = true) : keptR l (j + 1) = keptR l j ++ [encR l[j]] := by
  unfold keptR
  rw [List.take_succ_eq_append_getElem h, List.filter_append, List.map_append]
  simp [List.filter_cons, hf]
theorem keptR_no {l : List R2} {j : Nat} (h : j < l.length) (hf : other l[j] = false) : keptR l (j + 1) = keptR l j := by
  unfold keptR
  rw [List.take_succ_eq_append_getElem h, List.filter_append, List.map_append]
  simp [List.filter_cons, hf]
theorem keptR_all {l : List R2} {j : Nat} (h : (l.take j).all other = true) : keptR l j = (l.take j).map encR := by
  unfold keptR
  rw [List.filter_eq_self.2 (fun x hx => List.all_eq_true.1 h x hx)]
theorem wpList_clearR {ops : Array Oper} {rest : List Oper} {o : Oper} {a : Act} {w : World} {Q : Exit → Act → World → Prop} (hgd : o.guard = none) (x : Operand)
    (ho : o.op = .call { callee := .builtin .clear, args := #[x], argTypes := #[25] }) (g off m c : Nat) (C : Array Value) (hx : a.eval x = .slice (some ⟨g, off, none⟩) m c) (hm : 0 < m)
    (hb : w.heap[g]? = some (.cells C 30 (0, 0))) (hl : off + m * 2 ≤ C.size)
    (h : ∀ C' : Array Value, C'.size = C.size → (∀ k, k < off → C'[k]? = C[k]?) → wpList Tryz.prog ops Q rest (a.put o.dst (.tuple #[])) (w.setRow g C')) : wpList Tryz.prog ops Q (o :: rest) a w := by
  refine wpList_plain hgd fun K hK => ?_
  have hz : ∀ w, (zeroValue 30).run Tryz.prog w = .ok (.agg #[.string ⟨#[]⟩, .string ⟨#[]⟩]) w := fun w => by kernel_rfl
  obtain ⟨n, rfl⟩ : ∃ n, m = n + 1 := ⟨m - 1, by omega⟩
  have hlen : (Builtin.zeroCells #[Value.string ⟨#[]⟩, .string ⟨#[]⟩] (n + 1)).toList.length = (n + 1) * 2 := by simp [Builtin.zeroCells]
  have hst := run_storeCells_at Tryz.prog g off 30 (Builtin.zeroCells #[Value.string ⟨#[]⟩, .string ⟨#[]⟩] (n + 1)).toList 0 C w hb (by rw [hlen]; omega) (by
    intro v hv
    unfold Builtin.zeroCells at hv
    simp only [Array.toList_map, List.mem_map] at hv
    obtain ⟨i, _, rfl⟩ := hv
    rcases Nat.mod_two_eq_zero_or_one i with e | e <;> simp [e, Value.oneCell'])
  have hrun : (Builtin.clear_ #[25] o.type #[.slice (some ⟨g, off, none⟩) (n + 1) c]).run Tryz.prog w = .ok (.tuple #[]) (w.setRow g (C.toList.take (off + 0) ++ (Builtin.zeroCells #[Value.string ⟨#[]⟩, .string ⟨#[]⟩] (n + 1)).toList ++ C.toList.drop (off + 0 + (Builtin.zeroCells #[Value.string ⟨#[]⟩, .string ⟨#[]⟩] (n + 1)).toList.length)).toArray) := by
    simp [Builtin.clear_, run_underlying Tryz.underlying25, hz, hst, Value.cells]
  unfold Oper.wp execOp
  simp only [ho, resolve, invoke, builtin, Sem.run_bind, Sem.run_pure, Result.andThen_ok, List.map_toArray, List.map_cons, List.map_nil, hx, hrun]
  refine hK _ _ (h _ ?_ ?_)
  · have h1 : C.toList.length = C.size := by simp
    simp only [List.size_toArray, List.length_append, List.length_take, List.length_drop, hlen, h1]
    omega
  · intro k hk
    have h1 : C.toList.length = C.size := by simp
    simp only [List.getElem?_toArray, Nat.add_zero]
    rw [List.append_assoc, List.getElem?_append_left (by rw [List.length_take, h1]; omega), List.getElem?_take, if_pos hk]
    simp
set_option maxRecDepth 100000 in
set_option maxHeartbeats 4000000 in
theorem deleteR_any (v : Value) (l : List R2) (base : Nat) (hl : l.length ≤ 1000000) (w : World) (h : Px.OwnR w base v l) (hbase : base ≤ w.heap.size) :
    Calls Tryz.prog 40 #[v, .func (.func 41) #[] #[]] w fun e w' => ∃ v', e = .returned v' ∧ Px.OwnR w' base v' (l.filter other) ∧ Below base w w' ∧ w.grownBy w' v.ownBlock := by
  obtain ⟨A0, c0, rfl, hrd, hc0, _⟩ := h.rd
  have HI := hid (firstKnown_any A0 c0 l hl w hrd)
  have HO := hid h
  clear h hrd
  go_enter Tryz.func40, Tryz.ntmps40
  go_wp2_with fail
  refine HI.out.mono ?_
  rintro e w1 ⟨⟨i, rfl, hi⟩, hb1⟩
  have HO1 := hid (HO.out.below hb1)
  have HB1 := hid hb1
  clear hb1 HI
  rcases hi with ⟨rfl, hall⟩ | ⟨k, hk, rfl, hfr, hek⟩
  · have HF := hid (show l.filter other = l from List.filter_eq_self.2 (fun x hx => List.all_eq_true.1 hall x hx))
    clear hall
    go_wp2
    go_ret
    exact ⟨_, rfl, by rw [HF.out]; exact HO1.out, HB1.out.mono hbase, ⟨HB1.out.os, HB1.out.tape, HB1.out.output, HB1.out.size, fun k hk _ => HB1.out.block k hk⟩⟩
  · obtain ⟨_, hor⟩ := HO1.out
    rcases hor with ⟨he, h0⟩ | ⟨g, cap, cur, he, hbg, hrow, hnc, hcm, hcs, htk⟩
    · exfalso; omega
    · injection he with he1 _ he3
      subst he1 he3
      have hno : other l[k] = false := by unfold other; rw [hek]; rfl
      have hk1 : keptR l (k + 1) = (l.take k).map encR := (keptR_no hk hno).trans (keptR_all hfr)
      have hgl : g < w1.heap.size := (Array.getElem?_eq_some_iff.1 hrow).1
      have HD0 := hid (show DI w1 w1 g c0 30 (keptR l (k + 1)) (l.map encR) (k + 1) from
        ⟨⟨cur, hrow, sift_of_flat hcs (n := l.length) (by rw [List.length_map]) (htk.trans (rcells_flat l)) _ _ (by
          intro q x hq
          rw [hk1, List.getElem?_map, List.getElem?_take] at hq
          rw [List.getElem?_map]
          split at hq
          · exact hq
          · simp at hq)⟩, Fg.refl _ _, hgl⟩)
      have hlk : (keptR l (k + 1)).length = k := by
        rw [hk1, List.length_map, List.length_take]; omega
      have HBG := hid hbg
      have HNC := hid hnc
      have HCM := hid hcm
      clear hrow hcs htk hbg hnc hcm hfr hek hno hk1 HO1 HO
      go_wp2
      rename_i hkk _ _
      simp only [hkk]
      go_loopw [5, 6] (fun iv jv wr => ∃ (j : Nat), jv = .int .i64 j ∧ j ≤ l.length ∧ iv = .int .i64 (keptR l j).length ∧ (keptR l j).length < j ∧ Hid (DI w1 wr g c0 30 (keptR l j) (l.map encR) j)) (fun _ jv _ => l.length - (intOf jv).toNat)
      case atStart => exact ⟨k + 1, by first | rfl | go_num, by omega, by rw [hlk], by omega, HD0⟩
      case round =>
        clear HD0 hlk
        obtain ⟨j, rfl, hj, rfl, hij, HD⟩ := hrel
        by_cases hlt : j < l.length
        · obtain ⟨C, hC, hS⟩ := HD.out.row
          obtain ⟨p, hp⟩ : ∃ p, l[j] = p := ⟨_, rfl⟩
          have hx : (l.map encR)[j]? = some (encR p) := by rw [List.getElem?_map, List.getElem?_eq_getElem hlt, hp]; rfl
          obtain ⟨hc1, hc2⟩ := hS.rest j _ (Nat.le_refl _) hx
          have HS := hid hS
          have hcl : C.size = c0 * 2 := hS.size
          have hjn : (j : Int) < (l.length : Int) := by omega
          obtain ⟨p1, p2⟩ := p
          have d1 : wr.cell? ⟨g, j * 2, none⟩ = some (.string p1) := (cell_of_row wr g (j * 2) _ _ _ hC).trans hc1
          have d2 : wr.cell? ⟨g, j * 2 + 1, none⟩ = some (.string p2) := (cell_of_row wr g (j * 2 + 1) _ _ _ hC).trans hc2
          have HE := hid (fun V => isKnown_any p1 p2 V)
          have HY := hid (fun hf => keptR_yes (l := l) (j := j) hlt hf)
          have HX := hid (fun hf => keptR_no (l := l) (j := j) hlt hf)
          rw [hp] at HY HX
          clear hx hc1 hc2 hS hp
          generalize hi : (keptR l j).length = i at *
          go_upto_region 8 with fail
          have hn := heap_alloc_new wr (.cells #[.string p1, .string p2] 30)
          have hsz := World.size_alloc wr (.cells #[.string p1, .string p2] 30)
          have hbW := (Below.refl wr.heap.size wr).alloc (Nat.le_refl _) (.cells #[.string p1, .string p2] 30)
          have hgr : g < wr.heap.size := (Array.getElem?_eq_some_iff.1 hC).1
          generalize World.alloc wr _ = W at *
          have x0 := cell_of_row W wr.heap.size 0 _ _ _ hn
          have x1 := cell_of_row W wr.heap.size 1 _ _ _ hn
          simp only [List.getElem?_toArray, List.getElem?_cons_zero, List.getElem?_cons_succ] at x0 x1
          go_upto_if 29 with (go_at_call 41; (with_reducible refine (HE.out _).mono ?_); rintro e w5 ⟨rfl, hb5⟩)
          have HC5 := hid (show w5.heap[g]? = some (.cells C 30 (0, 0)) from (hb5.block g (by rw [hsz]; omega)).trans ((hbW.block g hgr).trans hC))
          have HF5 := hid (show Fg g w1 w5 from (HD.out.fg.trans (Fg.of_below hbW)).trans (Fg.of_below hb5))
          have y0 : w5.cell? ⟨wr.heap.size, 0, none⟩ = some (.string p1) := (hb5.cell (p := ⟨wr.heap.size, 0, none⟩) (by show wr.heap.size < _; omega)).trans x0
          have y1 : w5.cell? ⟨wr.heap.size, 1, none⟩ = some (.string p2) := (hb5.cell (p := ⟨wr.heap.size, 1, none⟩) (by show wr.heap.size < _; omega)).trans x1
          clear hn hbW hb5 d1 d2 x0 x1 hC HE
          cases hz : M.isKey (tl p1) with
          | true =>
            have HK := hid (HX.out (by show (!M.isKey (tl p1)) = false; rw [hz]; rfl))
            clear hz y0 y1
            go_wp2_with fail
            go_roundw
            case rel => exact ⟨j + 1, by go_num, by omega, by rw [HK.out, hi], by rw [HK.out, hi]; omega, hid (show DI _ _ _ _ _ _ _ _ from ⟨⟨C, HC5.out, by rw [HK.out]; exact HS.out.skip⟩, HF5.out, hgl⟩)⟩
            case measure => simp [intOf]; omega
          | false =>
            have HK := hid (HY.out (by show (!M.isKey (tl p1)) = true; rw [hz]; rfl))
            obtain ⟨a0, ha0⟩ : ∃ a0, C[i * 2]? = some a0 := ⟨_, Array.getElem?_eq_getElem (by have := HNC.out; omega)⟩
            obtain ⟨a1, ha1⟩ : ∃ a1, (C.set! (i * 2) (.string p1))[i * 2 + 1]? = some a1 := ⟨_, Array.getElem?_eq_getElem (by have := HNC.out; rw [Array.set!_eq_setIfInBounds, Array.size_setIfInBounds]; omega)⟩
            have hrw := heap_setCell_same w5 g (i * 2) _ _ (.string p1) HC5.out
            have z0 : w5.cell? ⟨g, i * 2, none⟩ = some a0 := (cell_of_row w5 g (i * 2) _ _ _ HC5.out).trans ha0
            have z1 : (w5.setCell ⟨g, i * 2, none⟩ (.string p1)).cell? ⟨g, i * 2 + 1, none⟩ = some a1 := (cell_of_row _ g (i * 2 + 1) _ _ _ hrw).trans (by first | exact ha1 | simpa using ha1)
            have f0 := frozen_of_row w5 g (i * 2) _ _ HC5.out
            have f1 := frozen_of_row (w5.setCell ⟨g, i * 2, none⟩ (.string p1)) g (i * 2 + 1) _ _ hrw
            have hin : (i : Int) < (l.length : Int) := by omega
            have HW5 := hid (show DI w1 ((w5.setCell ⟨g, i * 2, none⟩ (.string p1)).setCell ⟨g, i * 2 + 1, none⟩ (.string p2)) g c0 30 (keptR l (j + 1)) (l.map encR) (j + 1) from by
              refine ⟨⟨(C.set! (i * 2) (.string p1)).set! (i * 2 + 1) (.string p2), ?_, ?_⟩, (HF5.out.trans (Fg.set _ g _ _)).trans (Fg.set _ g _ _), hgl⟩
              · rw [heap_setCell_same _ g (i * 2 + 1) _ _ _ (heap_setCell_same w5 g (i * 2) _ _ _ HC5.out)]
                simp
              · have := HS.out.put (encR (p1, p2)) (by rw [hi]; omega) (by have := HNC.out; omega)
                rw [hi] at this
                rw [HK.out]
                exact this)
            clear hz
            go_wp2_with fail
            go_roundw
            case rel => exact ⟨j + 1, by go_num, by omega, by rw [HK.out, List.length_append, hi]; first | rfl | go_num, by rw [HK.out, List.length_append, List.length_singleton]; omega, HW5⟩
            case measure => simp [intOf]; omega
        · obtain rfl : j = l.length := by omega
          obtain ⟨C, hC, hS⟩ := HD.out.row
          have HS := hid hS
          have HFG := hid HD.out.fg
          have hcl : C.size = c0 * 2 := hS.size
          have hfin : keptR l l.length = (l.filter other).map encR := by unfold keptR; rw [List.take_length]
          have HN := hid (show (l.filter other).length = (keptR l l.length).length by rw [hfin, List.length_map])
          have HK := hid hfin
          clear hS hfin HD
          generalize hi : (keptR l l.length).length = i at *
          have hcn : l.length ≤ c0 := HNC.out
          have hcm : c0 ≤ maxLen := HCM.out
          go_wp2_with (refine wpList_clearR rfl (.tmp 38) rfl g (i * 2) (l.length - i) (c0 - i) C (by simp [Act.eval, Act.put]) (by omega) hC (by omega) ?_)
          intro C' hs' hp'
          have HC2 := hid (show (wr.setRow g C').heap[g]? = some (.cells C' 30 (0, 0)) from setRow_heap wr g C C' _ _ hC)
          have HB2 := hid (show Below base w (wr.setRow g C') from by
            have hb := HFG.out.below (HB1.out.mono hbase) HBG.out (Nat.le_trans hbase HB1.out.size)
            refine ⟨hb.os, hb.tape, hb.output, by simpa using hb.size, fun q hq => (setRow_other wr g q C' (fun e => ?_)).trans (hb.block q hq)⟩
            have := HBG.out
            omega)
          have HG2 := hid (show w.grownBy (wr.setRow g C') (some g) from by
            have hb := (Fg.of_below HB1.out).trans HFG.out
            exact ⟨hb.os, hb.tape, hb.output, by simpa using hb.size, fun q hq hne => (setRow_other wr g q C' (fun e => hne (by rw [e]))).trans (hb.block q hq (fun e => hne (by rw [e])))⟩)
          have HP := hid hp'
          have HS2 := hid hs'
          clear hp' hs' hC
          generalize wr.setRow g C' = W2 at *
          go_wp2
          go_ret
          refine ⟨.slice (some ⟨g, 0, none⟩) i c0, rfl, ?_, HB2.out, HG2.out⟩
          have hn := HN.out
          have hk2 := HK.out
          have hfr : C'.toList.take ((keptR l l.length).length * 2) = flat2 (keptR l l.length) := flat_of_front (fun q x hq => by
            have hql := (List.getElem?_eq_some_iff.1 hq).1
            obtain ⟨g1, g2⟩ := HS.out.front q x hq
            exact ⟨(HP.out _ (by omega)).trans g1, (HP.out _ (by omega)).trans g2⟩)
          unfold Px.OwnR
          refine ⟨by rw [rcells_flat, flat2_len, List.length_map], .inr ⟨g, c0, C', by rw [hn], HBG.out, HC2.out, by omega, HCM.out, HS2.out, ?_⟩⟩
          rw [rcells_flat, ← hk2, hn, ← hi]
          exact hfr
end Go.Proofs.YtlpblnioodcbnaaGreatDoor
