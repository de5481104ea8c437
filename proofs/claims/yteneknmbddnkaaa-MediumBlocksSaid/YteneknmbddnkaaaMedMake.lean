/-
  The contract of the program's Make.
-/
import Derived.Test.YteneknmbddnkaaaMedSort
namespace Go.Proofs.Yteneknmbddnkaaa
open Go.RowKit Go.Lib

/-- Cells stored one behind the other: what the row holds then. -/
theorem setCells_more (g : Nat) (v : Value) : ∀ (vs : List Value) (o : Nat) (w : World), w.setCells g o (vs ++ [v]) = (w.setCells g o vs).setCell ⟨g, o + vs.length, none⟩ v
  | [], o, w => by simp [World.setCells]
  | u :: vs, o, w => by
    have ih := setCells_more g v vs (o + 1) (w.setCell ⟨g, o, none⟩ u)
    simp only [List.cons_append, World.setCells, List.length_cons]
    rw [ih, show o + 1 + vs.length = o + (vs.length + 1) by omega]
theorem bcells_set (a : List Int) (k : Nat) (z : Int) : (bcells a).set k (.int .u8 z) = bcells (a.set k z) := by simp [bcells, List.map_set]
theorem OwnY.stored {w : World} {base g n c : Nat} {ys : List Int} (h : OwnY w base (.slice (some ⟨g, 0, none⟩) n c) ys) (j : Nat) (z : Int) :
    OwnY (w.setCell ⟨g, j, none⟩ (.int .u8 z)) base (.slice (some ⟨g, 0, none⟩) n c) (ys.set j z) ∧ w.grownBy (w.setCell ⟨g, j, none⟩ (.int .u8 z)) (some g) := by
  have hn : n = ys.length := by
    rcases h.2 with ⟨h', _⟩ | ⟨g', cap', cur, h', _⟩
    · cases h'
    · cases h'; rfl
  subst hn
  have h' := World.ownsRow.stored (g := g) (n := ys.length) (cap := c) h j (.int .u8 z)
  refine ⟨?_, h'.2⟩
  unfold OwnY
  rw [List.length_set, ← bcells_set]
  exact h'.1
theorem OwnY.wiped {w : World} {base g n c : Nat} {l zs : List Int} {i : Nat} (h : OwnY w base (.slice (some ⟨g, 0, none⟩) n c) (M.wipe l zs)) : ∀ m : Nat,
    OwnY (w.setCells g (512 * i) (List.replicate m (.int .u8 0))) base (.slice (some ⟨g, 0, none⟩) n c) (M.wipeK l i (512 * i + m) zs) ∧ w.grownBy (w.setCells g (512 * i) (List.replicate m (.int .u8 0))) (some g)
  | 0 => ⟨by rw [List.replicate_zero, Nat.add_zero, M.wipeK_none]; exact h, World.grownBy.refl _ _⟩
  | m + 1 => by
    obtain ⟨h1, h2⟩ := OwnY.wiped h m
    rw [List.replicate_succ', setCells_more, List.length_replicate]
    obtain ⟨h3, h4⟩ := h1.stored (512 * i + m) 0
    refine ⟨?_, h2.trans h4⟩
    rw [← Nat.add_assoc, M.wipeK_step _ _ _ _ (by omega)]
    exact h3

theorem u8_pair : (Try.prog.info? 5).map (fun i => (i.zero, i.size)) = some (some (.int .u8 0), 1) := by kernel_rfl
/-- 'clear' of bytes. -/
theorem wpList_clear {ops : Array Oper} {rest : List Oper} {o : Oper} {a : Act} {w : World} {Q : Exit → Act → World → Prop} (hgd : o.guard = none) (x : Operand)
    (ho : o.op = .call { callee := .builtin .clear, args := #[x], argTypes := #[22] }) (b off n c : Nat) (hx : a.eval x = .slice (some ⟨b, off, none⟩) n c) (hn : 0 < n)
    (hc : ∀ j, j < n → (w.cell? ⟨b, off + j, none⟩).isSome = true) (hf : ∀ j, j < n → w.frozen? ⟨b, off + j, none⟩ = false)
    (h : wpList Try.prog ops Q rest (a.put o.dst (.tuple #[])) (w.setCells b off (List.replicate n (.int .u8 0)))) : wpList Try.prog ops Q (o :: rest) a w := by
  refine wpList_plain hgd fun K hK => ?_
  have hz : ∀ w, (zeroValue 5).run Try.prog w = .ok (.int .u8 0) w := (zero_of_info u8_pair).1
  have hrun := run_clear_slice (P := Try.prog) w 22 5 o.type (.int .u8 0) Try.underlying22 hz rfl rfl b off n c hn hc hf
  unfold Oper.wp execOp
  simp only [ho, resolve, invoke, builtin, Sem.run_bind, Sem.run_pure, Result.andThen_ok, List.map_toArray, List.map_cons, List.map_nil, hx, hrun]
  exact hK _ _ h

theorem results_img {f : Func} {k : Nat} (hf : f.results = #[ResultVar.cell k 27]) {tmps : Array Value} {g : Nat} {u v : Value} {w : World} (hk : tmps.getD k undef = .pointer (some ⟨g, 0, none⟩)) (hb : Blk w g 27 [u, v]) :
    (results f tmps).run Try.prog w = .ok (.agg #[u, v]) w := by
  simp only [results, hf]
  rw [Array.getD_eq_getD_getElem?] at hk
  have c0 := hb.cell (i := 0) rfl
  have c1 := hb.cell (i := 1) rfl
  simp [go_sem, hk, c0, c1]

/-- A new image: its bytes and its bad blocks in rows of their own. -/
def NewImg (zs bad : List Int) (w : World) (e : Ending) (w' : World) : Prop :=
  ∃ u v, e = .returned (.agg #[u, v]) ∧ OwnY w' w.heap.size u zs ∧ OwnI w' w.heap.size v bad ∧ Below w.heap.size w w'

theorem grown_of_below {w w' : World} (h : Below w.heap.size w w') (row : Option Nat) : w.grownBy w' row := ⟨h.os, h.tape, h.output, h.size, fun k hk _ => h.block k hk⟩
theorem RdI.one (w : World) (t : TypeId) (z : Int) (hz : -9223372036854775808 ≤ z ∧ z ≤ 9223372036854775807) : RdI (w.alloc (.cells #[.int .i64 z] t)) (w.heap.size + 1) (some ⟨w.heap.size, 0, none⟩) 1 [z] := by
  refine ⟨rfl, by intro y hy; rw [List.mem_singleton] at hy; subst hy; exact hz, fun _ => ⟨_, 0, rfl, Nat.lt_succ_self _, fun j y hj => ?_⟩⟩
  have hb := Blk.new w t [.int .i64 z]
  cases j with
  | zero => simp at hj; subst hj; exact hb.cell rfl
  | succ j => simp at hj
theorem filter_snoc {p : Int → Bool} {bad : List Int} {k : Nat} {z : Int} (h : bad[k]? = some z) : (bad.take (k + 1)).filter p = (bad.take k).filter p ++ (if p z then [z] else []) := by
  rw [List.take_add_one, h, List.filter_append]
  congr 1
  cases hp : p z <;> simp [hp]

theorem ownsRow_lower {w : World} {base base' : Nat} {e : TypeId} {size : Nat} {v : Value} {n : Nat} {xs : List Value} (h : w.ownsRow base e size v n xs) (hb : base' ≤ base) : w.ownsRow base' e size v n xs := by
  refine ⟨h.1, ?_⟩
  rcases h.2 with h' | ⟨g, cap, cur, h1, h2, h3⟩
  · exact .inl h'
  · exact .inr ⟨g, cap, cur, h1, Nat.le_trans hb h2, h3⟩
theorem OwnI.ne {w : World} {g : Nat} {v : Value} {l : List Int} (h : OwnI w (g + 1) v l) : v.ownBlock ≠ some g := fun e => by have := (World.ownsRow.lt h g e).1; omega
theorem OwnI.old {w : World} {b : Nat} {v : Value} {l : List Int} (h : OwnI w b v l) : v.ownBlock ≠ some w.heap.size := fun e => by have := (World.ownsRow.lt h _ e).2; omega
theorem OwnI.grown {w w' : World} {b : Nat} {v : Value} {l : List Int} (h : OwnI w b v l) {row : Option Nat} (hg : w.grownBy w' row) (hr : v.ownBlock = none ∨ v.ownBlock ≠ row) : OwnI w' b v l := World.ownsRow.kept h hg hr
theorem OwnI.later {w w' : World} {b : Nat} {v : Value} {l : List Int} (h : OwnI w b v l) (hb : Below w.heap.size w w') : OwnI w' b v l := by
  cases hv : v.ownBlock with
  | none => exact h.grown (grown_of_below hb none) (.inl hv)
  | some g => exact h.grown (grown_of_below hb none) (.inr (by rw [hv]; simp))
theorem OwnY.grown {w w' : World} {b : Nat} {v : Value} {l : List Int} (h : OwnY w b v l) {row : Option Nat} (hg : w.grownBy w' row) (hr : v.ownBlock = none ∨ v.ownBlock ≠ row) : OwnY w' b v l := World.ownsRow.kept h hg hr
theorem OwnY.later {w w' : World} {b : Nat} {v : Value} {l : List Int} (h : OwnY w b v l) (hb : Below w.heap.size w w') : OwnY w' b v l := by
  cases hv : v.ownBlock with
  | none => exact h.grown (grown_of_below hb none) (.inl hv)
  | some g => exact h.grown (grown_of_below hb none) (.inr (by rw [hv]; simp))
theorem OwnI.at_ {w : World} {b n c : Nat} {A : Option Addr} {l : List Int} (h : OwnI w b (.slice A n c) l) {k : Nat} {z : Int} (hz : l[k]? = some z) : ∃ g, A = some ⟨g, 0, none⟩ ∧ b ≤ g ∧ g < w.heap.size ∧ w.cell? ⟨g, k, none⟩ = some (.int .i64 z) := by
  have hk := (List.getElem?_eq_some_iff.1 hz).1
  obtain ⟨g, cap, hv, hb, hlt⟩ := World.ownsRow.form h (by omega)
  cases hv
  refine ⟨g, rfl, hb, hlt, ?_⟩
  have := World.ownsRow.cellAt (g := g) (n := l.length) (cap := c) h k (by omega)
  rw [this]
  simp [icells, hz]
theorem OwnY.some_ {w : World} {b n c : Nat} {A : Option Addr} {l : List Int} (h : OwnY w b (.slice A n c) l) (hl : 0 < l.length) : ∃ g, A = some ⟨g, 0, none⟩ ∧ b ≤ g ∧ g < w.heap.size := by
  obtain ⟨g, cap, hv, hb, hlt⟩ := World.ownsRow.form h hl
  cases hv
  exact ⟨g, rfl, hb, hlt⟩
theorem OwnY.there {w : World} {b g n c : Nat} {l : List Int} (h : OwnY w b (.slice (some ⟨g, 0, none⟩) n c) l) (hn : n = l.length) (j : Nat) (hj : j < n) : (w.cell? ⟨g, j, none⟩).isSome = true ∧ w.frozen? ⟨g, j, none⟩ = false := by
  subst hn
  have h1 := World.ownsRow.cellAt (g := g) (n := l.length) (cap := c) h j (by omega)
  refine ⟨?_, World.ownsRow.frozenAt (g := g) (n := l.length) (cap := c) h j⟩
  rw [h1]
  simp [bcells, hj]

/-- Loop 1's state. -/
def Mk1 (w1 : World) (gx : Nat) (u : Value) (l : List Int) (wr : World) : Prop := ∃ v, Blk wr gx 27 [u, v] ∧ OwnI wr (gx + 1) v l ∧ Below gx w1 wr

set_option maxRecDepth 100000 in
set_option maxHeartbeats 1000000 in
theorem make_any (A : Option Addr) (n c : Nat) (zs : List Int) (A' : Option Addr) (n' c' : Nat) (bad : List Int) (w : World) (B : Nat) (hr : Rd w B A n zs) (hi : RdI w B A' n' bad) (hB : B ≤ w.heap.size) (hn : n ≤ 1000000) (hn' : n' ≤ 1000000) :
    Calls Try.prog 10 #[.slice A n c, .slice A' n' c'] w (NewImg (M.wipe (M.bads n bad) zs) (M.bads n bad) w) := by
  have HL := hid hi.len
  have HZ := hid hr.len
  have HU : Hid (u8s zs) := hid hr.bd
  have HBD := hid hi.bd
  obtain ⟨o, ho⟩ : ∃ o, o = Obj.cells #[Value.slice none 0 0, Value.slice none 0 0] 27 := ⟨_, rfl⟩
  have HO := hid ho
  have HC := hid (cloneB_any A n c zs (w.alloc o) B (hr.alloc hB _) (by simp; omega) (by omega))
  have HA := hid hi
  clear hr hi ho
  go_enter Try.func10, Try.ntmps10
  go_wp2_with fail
  rw [← HO.out]
  (with_reducible refine HC.out.mono ?_)
  rintro e w1 ⟨u, rfl, hu, b1⟩
  obtain ⟨Au, cu, rfl, hru, hcu, hmu⟩ := hu.rd HU.out
  rw [HZ.out] at hu hru hcu ⊢
  have HY := hid hu
  have HRU := hid hru
  clear hu hru
  go_wp2
  have hx1 : Blk (w1.alloc (.cells #[.slice Au n cu, .slice none 0 0] 27)) w1.heap.size 27 [.slice Au n cu, .slice none 0 0] := Blk.new w1 _ _
  have hbx : Below w1.heap.size w1 (w1.alloc (.cells #[.slice Au n cu, .slice none 0 0] 27)) := (Below.refl _ _).alloc (Nat.le_refl _) _
  have hb01 : Below w.heap.size w w1 := ((Below.refl _ _).alloc (Nat.le_refl _) _).trans (b1.mono (by simp))
  have HAK := hid (fun W (hb : Below w.heap.size w W) => HA.out.keep (w' := W) fun p hp => hb.cell (Nat.lt_of_lt_of_le hp hB))
  have hsw : w.heap.size < w1.heap.size := by have := b1.size; rw [World.size_alloc] at this; omega
  have HT := hid (fun (i : Int) (W : World) (A2 : Option Addr) (n2 c2 : Nat) (hi : -9223372036854775808 ≤ i ∧ i ≤ 9223372036854775807) => there_any Au n cu A2 n2 c2 i W (by omega) hi)
  go_loopw [7, 15] (fun _ i wr => ∃ k : Nat, k ≤ n' ∧ i = .int .i64 k ∧ Mk1 w1 w1.heap.size (.slice Au n cu) ((bad.take k).filter (M.there n)) wr) (fun _ i _ => n' - (intOf i).toNat)
  case atStart => exact ⟨0, Nat.zero_le _, rfl, _, hx1, OwnI.nil _ _, hbx⟩
  case round =>
    obtain ⟨k, hk, rfl, v, hx, hown, hbel⟩ := hrel
    obtain ⟨A2, c2, hv, h2, m2⟩ := own_room hown
    have hmk : ((bad.take k).filter (M.there n)).length ≤ k := Nat.le_trans (List.length_filter_le _ _) (List.length_take_le _ _)
    generalize hm : ((bad.take k).filter (M.there n)).length = m at *
    subst hv
    have c0 := hx.cell (i := 0) rfl
    have c1 := hx.cell (i := 1) rfl
    have f1 := hx.frozen 1
    have hxlt := hx.lt
    by_cases hlt : k < n'
    · obtain ⟨b, off, z, hAd, hb, hz0, hz1, hzk, hc⟩ := (HAK.out wr (hb01.trans (hbel.mono (Nat.le_of_lt hsw)))).at_ hlt
      have HX := hid hx
      have HW := hid hown
      have HBE := hid hbel
      have HZK := hid hzk
      have HM := hid hm
      have HS := hid (filter_snoc (p := M.there n) hzk)
      clear hx hown hbel hzk hm
      rw [hAd]
      go_wp2_with fail
      (with_reducible refine (HT.out z _ A2 m c2 ⟨hz0, hz1⟩).mono ?_)
      rintro e w2 ⟨rfl, b2⟩
      have hx2 := HX.out.below b2 HX.out.lt
      have hown2 := HW.out.later b2
      by_cases ht : M.there n z = true
      · rw [ht]
        have c1 := hx2.cell (i := 1) rfl
        go_wp2_with (refine wpList_app_ints rfl (.tmp 23) (.tmp 25) rfl (w1.heap.size + 1) (.slice A2 m c2) _ (by simp [Act.eval]) (World.ownsRow.alloc hown2 _) (w2.heap.size + 1) (some ⟨w2.heap.size, 0, none⟩) 1 1 [z] (by simp [Act.eval]) (RdI.one _ _ z ⟨hz0, hz1⟩) (by rw [HM.out]; omega) (by rw [World.size_alloc]; have := b2.size; omega) ?_; intro v' w3 h31 h32 h33; obtain ⟨A3, c3, rfl, _, _⟩ := own_room h31; have hx3 := (hx2.alloc _).grown h32 HW.out.ne; have c13 := hx3.cell (i := 1) rfl; have f13 := hx3.frozen 1; have HX3 := hid hx3; have HG3 := hid h32; have HO3 := hid h31; clear hx3 h32 h31 h33)
        have HSS := hid (by have := HS.out; rw [if_pos ht] at this; exact this)
        go_roundw
        case rel =>
          refine ⟨k + 1, by omega, by go_num, _, HX3.out.set 1 _, ?_, ?_⟩
          · rw [HSS.out]
            have h := HO3.out
            rw [List.length_append, List.length_singleton] at h
            exact h.grown (grownBy_setCell w3 w1.heap.size 1 _) (.inr h.ne)
          · exact ((below_grown (((HBE.out.trans (b2.mono (Nat.le_of_lt hxlt))).alloc (by have := b2.size; omega) _)) HG3.out (by rw [World.size_alloc]; have := b2.size; omega) (fun g e => by have := (World.ownsRow.lt HW.out g e).1; omega))).setCell (p := ⟨w1.heap.size, 1, none⟩) (Nat.le_refl _) _
        case measure => simp [intOf]; omega
      · have ht' : M.there n z = false := by simpa using ht
        rw [ht']
        have HSS := hid (by have := HS.out; rw [if_neg ht, List.append_nil] at this; exact this)
        go_wp2
        go_roundw
        case rel =>
          refine ⟨k + 1, by omega, by go_num, _, hx2, ?_, HBE.out.trans (b2.mono (Nat.le_of_lt hxlt))⟩
          rw [HSS.out]
          exact HW.out.later b2
        case measure => simp [intOf]; omega
    · have hall : bad.take k = bad := List.take_of_length_le (by rw [HL.out]; omega)
      rw [hall] at hown hm
      have HS := hid (sortI_any _ _ _ wr hown (by rw [hm]; omega))
      rw [← hm] at *
      have HX := hid hx
      have HBE := hid hbel
      have HW := hid hown
      clear hx hown hbel hm hall
      go_wp2_with fail
      (with_reducible refine HS.out.mono ?_)
      rintro e w2 ⟨rfl, hs2, g2⟩
      have hx2 := HX.out.grown g2 HW.out.ne
      have hb2 : Below w1.heap.size w1 w2 := below_grown HBE.out g2 (Nat.le_of_lt hxlt) (fun g e => by have := (World.ownsRow.lt HW.out g e).1; omega)
      have c12 := hx2.cell (i := 1) rfl
      have HC2 := hid (compactI_any _ _ _ w2 hs2 (by rw [List.length_mergeSort]; omega))
      have HX2 := hid hx2
      have HW2 := hid hs2
      clear hx2 hs2 g2
      go_wp2_with fail
      (with_reducible refine HC2.out.mono ?_)
      rintro e w3 ⟨v3, rfl, hs3, g3, e3⟩
      rw [M.sorted_bads] at hs3
      have hx3 := HX2.out.grown g3 HW2.out.ne
      have hb3 : Below w1.heap.size w1 w3 := below_grown hb2 g3 hb2.size (fun g e => by have := (World.ownsRow.lt HW2.out g e).1; omega)
      have HLM : Hid (∀ i ∈ M.bads n bad, M.there n i = true) := hid (fun i hi => (M.mem_bads.1 hi).1)
      have HLL := hid (M.bads_le n bad)
      have hu3 := HY.out.later hb3
      clear HT HAK HA HBD HC HC2 HS HX HW HX2 HW2 HRU HL e3 g3 hb2 hx1 hbx
      generalize M.bads n bad = L at *
      obtain ⟨A3, c3, rfl, h3, m3⟩ := own_room hs3
      have f13 := hx3.frozen 1
      have c13 := hx3.cell (i := 1) rfl
      have hll : L.length ≤ 1000000 := by have := HLL.out; omega
      have HX3 := hid (hx3.set 1 (.slice A3 L.length c3))
      have hs4 := hs3.grown (grownBy_setCell w3 w1.heap.size 1 (.slice A3 L.length c3)) (.inr hs3.ne)
      have hu4 := hu3.grown (grownBy_setCell w3 w1.heap.size 1 (.slice A3 L.length c3)) (.inr (fun e => by have := (World.ownsRow.lt HY.out _ e).2; omega))
      have hb4 : Below w1.heap.size w1 (w3.setCell ⟨w1.heap.size, 1, none⟩ (.slice A3 L.length c3)) := hb3.setCell (p := ⟨w1.heap.size, 1, none⟩) (Nat.le_refl _) _
      have c14 := HX3.out.cell (i := 1) rfl
      have HS4 := hid hs4
      have HU4 := hid hu4
      have HB4 := hid hb4
      clear hx3 hs3 hu3 hb3 hs4 hu4 hb4
      go_wp2
      generalize hw4 : w3.setCell ⟨w1.heap.size, 1, none⟩ (.slice A3 L.length c3) = w4 at *
      clear hw4 f13 c13 c14
      go_loopw [9, 39] (fun _ i wr => ∃ k : Nat, k ≤ L.length ∧ i = .int .i64 k ∧ OwnY wr (w.alloc o).heap.size (.slice Au n cu) (M.wipe (L.take k) zs) ∧ w4.grownBy wr (Value.slice Au n cu).ownBlock) (fun _ i _ => L.length - (intOf i).toNat)
      case atStart => exact ⟨0, Nat.zero_le _, rfl, by rw [List.take_zero, M.wipe_nil]; exact HU4.out, World.grownBy.refl _ _⟩
      case round =>
        obtain ⟨k, hk, rfl, hown, hgr⟩ := hrel
        have hgb := World.ownsRow.lt HY.out
        have hxr := HX3.out.grown hgr (fun e => by have := (hgb _ e).2; omega)
        have hbr : Below (w.alloc o).heap.size (w.alloc o) wr := below_grown (b1.trans (HB4.out.mono b1.size)) hgr (Nat.le_trans b1.size HB4.out.size) (fun g e => (hgb g e).1)
        have c0 := hxr.cell (i := 0) rfl
        have c1 := hxr.cell (i := 1) rfl
        by_cases hlt : k < L.length
        · obtain ⟨z, hz⟩ : ∃ z, L[k]? = some z := ⟨_, List.getElem?_eq_getElem hlt⟩
          have ht := HLM.out z (List.mem_of_getElem? hz)
          obtain ⟨i, rfl, hi1, hi2⟩ := M.there_nat ht
          obtain ⟨gb, rfl, hg0, hg1⟩ := hown.some_ (by rw [M.wipe_len, HZ.out]; omega)
          obtain ⟨g3, rfl, hg30, hg31, hc3⟩ := HS4.out.at_ hz
          have hgb1 := hgb gb rfl
          have hc3' : wr.cell? ⟨g3, k, none⟩ = some (.int .i64 i) := World.grownBy.cell hgr hc3 (fun e => by injection e with e; simp at e; omega)
          have HST := hid (stretch_any gb 0 n cu (some ⟨g3, 0, none⟩) L.length c3 i wr (by omega) hcu hmu hi2)
          rw [Nat.zero_add] at HST
          have HW := hid hown
          have HG := hid hgr
          have HTK : Hid (L.take (k + 1) = L.take k ++ [(i : Int)]) := hid (by rw [List.take_add_one, hz]; rfl)
          have HBR := hid hbr
          have hmc : 0 < min 512 (n - 512 * i) := by omega
          have hml : 512 * i + min 512 (n - 512 * i) ≤ n := by omega
          have hma : min (512 * i + 512) n ≤ 512 * i + min 512 (n - 512 * i) := by omega
          have hmb : 512 * i + min 512 (n - 512 * i) ≤ 512 * i + 512 := by omega
          clear hown hgr hz ht hc3 hgb hbr hxr
          generalize min 512 (n - 512 * i) = m at *
          go_wp2_with fail
          (with_reducible refine HST.out.mono ?_)
          rintro e w5 ⟨rfl, b5⟩
          have hw5 := HW.out.later b5
          have HTH := hid (fun j (hj : j < n) => hw5.there (by rw [M.wipe_len, HZ.out]) j hj)
          have HWP := hid (hw5.wiped (i := i) m)
          have HG5 := hid (HG.out.trans (grown_of_below b5 (some gb)))
          clear hw5
          go_wp2_with (refine wpList_clear rfl (.tmp 45) rfl gb (512 * i) m (cu - 512 * i) (by simp [Act.eval, Act.put]) hmc (fun j hj => (HTH.out _ (by omega)).1) (fun j hj => (HTH.out _ (by omega)).2) ?_)
          go_roundw
          case rel =>
            refine ⟨k + 1, by omega, by go_num, ?_, HG5.out.trans HWP.out.2⟩
            rw [HTK.out, ← M.wipeK_all _ i (512 * i + m) zs hmb (by rw [HZ.out]; exact hma)]
            exact HWP.out.1
          case measure => simp [intOf]; omega
        · have hall : L.take k = L := List.take_of_length_le (by omega)
          rw [hall] at hown
          have hg4 : Blk wr w.heap.size 27 [.slice none 0 0, .slice none 0 0] := by
            have h0 : Blk (w.alloc o) w.heap.size 27 [.slice none 0 0, .slice none 0 0] := by rw [HO.out]; exact Blk.new w _ _
            exact h0.below hbr (by simp)
          have c40 := hg4.cell (i := 0) rfl
          have c41 := hg4.cell (i := 1) rfl
          have f40 := hg4.frozen 0
          have f41 := hg4.frozen 1
          have HX := hid hxr
          have HG4 := hid hg4
          have HW := hid hown
          have HBR := hid hbr
          have HSR := hid (HS4.out.grown hgr (by
            cases hq : (Value.slice A3 L.length c3).ownBlock with
            | none => exact .inl rfl
            | some g => exact .inr (fun e => by have := (World.ownsRow.lt HS4.out g hq).1; have := (hgb g e.symm).2; omega)))
          clear hg4 hxr hown hbr hgr hall
          go_wp2
          have h4 := (HG4.out.set 0 (.slice Au n cu)).set 1 (.slice A3 L.length c3)
          have hgw : wr.grownBy ((wr.setCell ⟨w.heap.size, 0, none⟩ (.slice Au n cu)).setCell ⟨w.heap.size, 1, none⟩ (.slice A3 L.length c3)) (some w.heap.size) := (grownBy_setCell wr _ 0 _).trans (grownBy_setCell _ _ 1 _)
          refine bodyPost_ret (results_img rfl (by rfl) h4) rfl ⟨_, _, rfl, ?_, ?_, ?_⟩
          · exact (ownsRow_lower HW.out (by simp)).kept hgw (.inr (fun e => by have := (World.ownsRow.lt HW.out _ e).1; rw [World.size_alloc] at this; omega))
          · exact (ownsRow_lower HSR.out (by omega)).kept hgw (.inr (fun e => by have := (World.ownsRow.lt HSR.out _ e).1; omega))
          · exact below_grown ((Below.refl _ _).alloc (Nat.le_refl _) _ |>.trans (HBR.out.mono (by simp))) hgw (by have := HBR.out.size; rw [World.size_alloc] at this; omega) (fun g e => by injection e with e; omega)
end Go.Proofs.Yteneknmbddnkaaa
