/-
  head.Parts.
-/
import Derived.Test.YtkpnhggpcpjddaaGreatDoorHMe
import Derived.LoopN
set_option linter.unusedVariables false
set_option linter.unusedSimpArgs false
namespace Go.Proofs.YtkpnhggpcpjddaaGreatDoor
open Go.RowKit Go.Lib

namespace M
theorem parts_end {zs : List Int} {a0 n0 x r : Nat} {acc : List (Int × Int)} (h : parts zs a0 n0 = (parts zs x r).map (acc ++ ·)) (hr : r = 0) : parts zs a0 n0 = some acc := by
  subst hr
  rw [h]
  simp [parts]
theorem parts_short {zs : List Int} {a0 n0 x r : Nat} {acc : List (Int × Int)} (h : parts zs a0 n0 = (parts zs x (r + 1)).map (acc ++ ·)) (hl : zs.length < x + 24) : parts zs a0 n0 = none := by
  rw [h, parts, if_pos hl]; rfl
theorem parts_bad {zs : List Int} {a0 n0 x r : Nat} {acc : List (Int × Int)} (h : parts zs a0 n0 = (parts zs x (r + 1)).map (acc ++ ·)) (hl : ¬ zs.length < x + 24) (hk : (numOk zs x 12 0 most && numOk zs (x + 12) 12 0 most) = false) : parts zs a0 n0 = none := by
  rw [h, parts, if_neg hl, hk]; rfl
theorem parts_zero {zs : List Int} {a0 n0 x r : Nat} {acc : List (Int × Int)} (h : parts zs a0 n0 = (parts zs x (r + 1)).map (acc ++ ·)) (hl : ¬ zs.length < x + 24) (hk : (numOk zs x 12 0 most && numOk zs (x + 12) 12 0 most) = true)
    (hz : num zs x 12 = 0 ∧ num zs (x + 12) 12 = 0) : parts zs a0 n0 = some acc := by
  rw [h, parts, if_neg hl, hk, if_pos rfl, if_pos hz]; simp
theorem parts_next {zs : List Int} {a0 n0 x r : Nat} {acc : List (Int × Int)} (h : parts zs a0 n0 = (parts zs x (r + 1)).map (acc ++ ·)) (hl : ¬ zs.length < x + 24) (hk : (numOk zs x 12 0 most && numOk zs (x + 12) 12 0 most) = true)
    (hz : ¬ (num zs x 12 = 0 ∧ num zs (x + 12) 12 = 0)) : parts zs a0 n0 = (parts zs (x + 24) r).map ((acc ++ [(num zs x 12, num zs (x + 12) 12)]) ++ ·) := by
  rw [h, parts, if_neg hl, hk, if_pos rfl, if_neg hz, Option.map_map]
  congr 1
  funext l
  simp
end M

theorem PL.next1 {w0 w w' : World} {v : Value} {l : List (Int × Int)} {q : Int × Int} {A : Option Addr} {c : Nat} (p : PL w0 w v l) (ho : OwnP w' (w0.heap.size + 2) (.slice A (l ++ [q]).length c) (l ++ [q])) (hb : Below (w0.heap.size + 2) w w') :
    PL w0 (w'.setCell ⟨w0.heap.size, 0, none⟩ (.slice A (l.length + 1) c)) (.slice A (l.length + 1) c) (l ++ [q]) := by
  rw [List.length_append, List.length_singleton] at ho
  exact p.next ho hb
/-- The rounds of Parts: k are done. -/
def PartsAt (w : World) (zs : List Int) (a0 n0 : Nat) (x i : Value) (wr : World) : Prop :=
  ∃ (k : Nat) (acc : List (Int × Int)) (v : Value), i = .int .i64 k ∧ k ≤ n0 ∧ x = .int .i64 ((a0 + 24 * k : Nat) : Int) ∧ Hid (M.parts zs a0 n0 = (M.parts zs (a0 + 24 * k) (n0 - k)).map (acc ++ ·)) ∧ acc.length ≤ k ∧ Hid (PL w wr v acc)

theorem pair_at0 (g : Nat) (a : Int) (w : World) : (Instr.index 96 (.agg (pairV g a)) (.int .i64 0)).run Tryz.prog w = .ok (.agg #[.int .i64 a, .int .i64 12, .bool true, .int .i64 0, .int .i64 4611686018427387904, .pointer (some ⟨g, 0, none⟩)]) w := by kernel_rfl
theorem pair_at1 (g : Nat) (a : Int) (w : World) : (Instr.index 96 (.agg (pairV g a)) (.int .i64 1)).run Tryz.prog w = .ok (.agg #[.int .i64 (a + 12), .int .i64 12, .bool true, .int .i64 0, .int .i64 4611686018427387904, .pointer (some ⟨g, 1, none⟩)]) w := by kernel_rfl

set_option maxRecDepth 100000 in
set_option maxHeartbeats 2000000 in
theorem parts_any (A : Option Addr) (n c : Nat) (zs : List Int) (a m : Int) (w : World) (B : Nat) (hr : Rd w B A n zs) (hB : B ≤ w.heap.size) (hc : n ≤ c) (hcm : c ≤ maxLen) (hn : n ≤ 1000000) :
    Calls Tryz.prog 57 #[.slice A n c, .int .i64 a, .int .i64 m] w (PartsTo (M.parts zs (M.clip a 512) (M.clip m 21)) w) := by
  have hmf : ∀ (fn : Fn) (first cap : Array Value) (w : World), (Instr.makeFunc fn first cap).run Tryz.prog w = .ok (.func fn first cap) w := fun _ _ _ _ => rfl
  have e1 : min (max a 0) 512 = ((M.clip a 512 : Nat) : Int) := by unfold M.clip; omega
  have e2 : min (max m 0) 21 = ((M.clip m 21 : Nat) : Int) := by unfold M.clip; omega
  have h0 : M.clip a 512 ≤ 512 := by unfold M.clip; omega
  have h1 : M.clip m 21 ≤ 21 := by unfold M.clip; omega
  generalize M.clip a 512 = a0 at *
  generalize M.clip m 21 = n0 at *
  have HL := hid hr.len
  go_enter_defers Tryz.func57, Tryz.ntmps57
  go_wp2
  clear e1 e2
  go_loopw [1, 18] (fun x i wr => PartsAt w zs a0 n0 x i wr) (fun _ i _ => n0 - (RowKit.intOf i).toNat)
  case atStart =>
    refine ⟨0, [], .slice none 0 0, rfl, Nat.zero_le _, rfl, hid (by simp), Nat.le_refl _, hid ⟨?_, ?_, World.ownsRow_nil _ _ _ _, ((Below.refl _ w).alloc (Nat.le_refl _) _).alloc (by simp) _⟩⟩
    · rw [Below.heap_alloc _ _ _ (by simp)]; exact heap_alloc_new w _
    · have := heap_alloc_new (w.alloc (.cells #[.slice none 0 0] 31)) (.cells #[.bool false] 4)
      rwa [World.size_alloc] at this
  case round =>
    obtain ⟨k, acc, v, rfl, hk, rfl, hpt, hacc, HP⟩ := hrel
    obtain ⟨A9, c9, rfl, _, _⟩ := HP.out.own.parts
    by_cases hkn : k < n0
    · obtain ⟨r, hr1⟩ : ∃ r, n0 - k = r + 1 := ⟨n0 - k - 1, by omega⟩
      rw [hr1] at hpt
      have hx : a0 + 24 * k ≤ 1100 := by omega
      have HK1 : Hid (a0 + 24 * k + 24 = a0 + 24 * (k + 1) ∧ r = n0 - (k + 1)) := hid (by omega)
      generalize a0 + 24 * k = x at *
      have hi : decide ((k : Int) < (n0 : Int)) = true := by simp; omega
      by_cases hl : zs.length < x + 24
      · have hno := hid (M.parts_short hpt.out hl)
        have e3 : decide ((24 : Int) ≤ (n : Int) - (x : Int)) = false := by rw [decide_eq_false_iff_not]; have := HL.out; omega
        go_wp2_with (go_at_call 48; (with_reducible refine (demand_no _ _).mono ?_); rintro e w1 ⟨rfl, rfl⟩)
        exact parts_stop hno.out HP.out rfl rfl
      · obtain ⟨b, off, rfl, hbB, _⟩ := hr.2.2 (by have := HL.out; omega)
        have e3 : decide ((24 : Int) ≤ (n : Int) - (x : Int)) = true := by rw [decide_eq_true_eq]; have := HL.out; omega
        have HRd := hid (fun (W : World) (hW : Below wr.heap.size wr W) => (show Rd W B (some ⟨b, off, none⟩) n zs from hr.keep fun p hp => (HP.out.below.trans (hW.mono HP.out.below.size)).cell (Nat.lt_of_lt_of_le hp hB)))
        have HN1 := hid (fun (W : World) (p q : Int) (hW : PS wr W p q) => show Calls Tryz.prog 55 #[.agg #[.int .i64 x, .int .i64 12, .bool true, .int .i64 0, .int .i64 4611686018427387904, .pointer (some ⟨wr.heap.size, 0, none⟩)], .slice (some ⟨b, off, none⟩) n c] W (NumTo zs x 12 true 0 M.most ⟨wr.heap.size, 0, none⟩ W) from number_parse x 12 true 0 M.most wr.heap.size 0 b off n c zs _ W B (HRd.out W hW.below) (Nat.le_trans hB (Nat.le_trans HP.out.below.size hW.below.size)) (by have := HL.out; omega) (by decide) hc hcm hW.cell0 (hW.frozen 0))
        have HN2 := hid (fun (W : World) (p q : Int) (hW : PS wr W p q) => show Calls Tryz.prog 55 #[.agg #[.int .i64 ((x : Int) + 12), .int .i64 12, .bool true, .int .i64 0, .int .i64 4611686018427387904, .pointer (some ⟨wr.heap.size, 1, none⟩)], .slice (some ⟨b, off, none⟩) n c] W (NumTo zs (x + 12) 12 true 0 M.most ⟨wr.heap.size, 1, none⟩ W) from number_parse (x + 12) 12 true 0 M.most wr.heap.size 1 b off n c zs _ W B (HRd.out W hW.below) (Nat.le_trans hB (Nat.le_trans HP.out.below.size hW.below.size)) (by have := HL.out; omega) (by decide) hc hcm hW.cell1 (hW.frozen 1))
        have px0 := pair_at0 wr.heap.size x
        have px1 := pair_at1 wr.heap.size x
        have HLL := hid hl
        clear hl hr hi
        go_wp2_with (go_at_call 48; (with_reducible refine (demand_yes _ _).mono ?_); rintro e w1 ⟨rfl, rfl⟩)
        (with_reducible refine (pair_any wr.heap.size x (by omega) (by omega) _).mono ?_)
        rintro e w2 ⟨rfl, b2⟩
        have S2 := hid ((PS.new wr).later b2)
        clear b2
        go_wp2_with fail
        refine wp_loop_rounds 3 ?_
        rw [rounds_succ]
        go_wp2_with fail
        (with_reducible refine (HN1.out _ 0 0 (S2.out.later ((Below.refl _ _).alloc (Nat.le_refl _) _))).mono ?_)
        rintro e w3 h3
        unfold NumTo at h3
        rw [if_pos rfl] at h3
        cases hk1 : M.numOk zs x 12 0 M.most with
        | false =>
          have hno := hid (M.parts_bad hpt.out HLL.out (by rw [hk1]; rfl))
          rw [hk1, if_neg (by decide)] at h3
          obtain ⟨rfl, b3⟩ := h3
          exact parts_stop hno.out (HP.out.later ((S2.out.later ((Below.refl _ _).alloc (Nat.le_refl _) _)).below.trans (b3.mono (Nat.le_trans S2.out.below.size (by simp))))) rfl rfl
        | true =>
          rw [hk1, if_pos rfl] at h3
          obtain ⟨rfl, w4, b4, rfl⟩ := h3
          have S4 := hid (((S2.out.later ((Below.refl _ _).alloc (Nat.le_refl _) _)).later b4).set0 (M.num zs x 12))
          clear b4 S2
          generalize w4.setCell _ _ = w5 at *
          go_wp2_with fail
          rw [rounds_succ]
          go_wp2_with fail
          (with_reducible refine (HN2.out _ _ 0 (S4.out.later ((Below.refl _ _).alloc (Nat.le_refl _) _))).mono ?_)
          rintro e w6 h6
          unfold NumTo at h6
          rw [if_pos rfl] at h6
          cases hk2 : M.numOk zs (x + 12) 12 0 M.most with
          | false =>
            have hno := hid (M.parts_bad hpt.out HLL.out (by rw [hk1, hk2]; rfl))
            rw [hk2, if_neg (by decide)] at h6
            obtain ⟨rfl, b6⟩ := h6
            exact parts_stop hno.out (HP.out.later ((S4.out.later ((Below.refl _ _).alloc (Nat.le_refl _) _)).below.trans (b6.mono (Nat.le_trans S4.out.below.size (by simp))))) rfl rfl
          | true =>
            rw [hk2, if_pos rfl] at h6
            obtain ⟨rfl, w7, b7, rfl⟩ := h6
            have S7 := ((S4.out.later ((Below.refl _ _).alloc (Nat.le_refl _) _)).later b7).set1 (M.num zs (x + 12) 12)
            clear b7 S4
            generalize w7.setCell _ _ = w8 at *
            have HZ := hid (M.parts_zero hpt.out HLL.out (by rw [hk1, hk2]; rfl))
            have HX := hid (M.parts_next hpt.out HLL.out (by rw [hk1, hk2]; rfl))
            generalize M.num zs x 12 = x1 at *
            generalize M.num zs (x + 12) 12 = y1 at *
            have c0 := S7.cell0
            have c1 := S7.cell1
            have HP8 := hid (HP.out.later S7.below)
            have d0 : w8.cell? ⟨w.heap.size, 0, none⟩ = some (.slice A9 acc.length c9) := by rw [cell_of_row _ _ 0 _ _ _ HP8.out.box]; rfl
            have d1 : w8.cell? ⟨w.heap.size + 1, 0, none⟩ = some (.bool false) := by rw [cell_of_row _ _ 0 _ _ _ HP8.out.ok]; rfl
            have f0 := frozen_of_row _ _ 0 _ _ HP8.out.box
            have f1 := frozen_of_row _ _ 0 _ _ HP8.out.ok
            clear S7 HN1 HN2 HRd HP
            by_cases hz : x1 = 0 ∧ y1 = 0
            · obtain ⟨rfl, rfl⟩ := hz
              have hE := hid (HZ.out ⟨rfl, rfl⟩)
              clear HZ HX
              go_wp2_with fail
              rw [rounds_succ]
              go_wp2
              exact parts_end hE.out (by have := heap_setCell_same w8 _ 0 _ _ (.slice A9 acc.length c9) HP8.out.box; rw [heap_setCell_other _ _ _ _ (by simp)]; simpa using this)
                (by have := (heap_setCell_other w8 ⟨w.heap.size, 0, none⟩ (w.heap.size + 1) (.slice A9 acc.length c9) (by simp)).trans HP8.out.ok; have := heap_setCell_same _ _ 0 _ _ (.bool true) this; simpa using this)
                ((OwnP.parts (ownsRow_setCell_below (ownsRow_setCell_below HP8.out.own (by simp) _) (by simp) _)).lower (by omega))
                ((HP8.out.below.setCell (p := ⟨w.heap.size, 0, none⟩) (Nat.le_refl _) _).setCell (p := ⟨w.heap.size + 1, 0, none⟩) (by simp) _) rfl rfl
            · have HY := hid (HX.out hz)
              have hz2 : (x1 == 0 && y1 == 0) = false := by
                rw [Bool.and_eq_false_iff, beq_eq_false_iff_ne, beq_eq_false_iff_ne]; omega
              clear HZ HX
              go_wp2_with fail
              rw [rounds_succ]
              by_cases hx0 : x1 = 0
              case' pos =>
                subst hx0
                have t0 : (y1 == 0) = false := by simpa using hz2
              case' neg => have t0 : (x1 == 0) = false := by simpa using hx0
              all_goals
                have hbs : w.heap.size + 2 ≤ w8.heap.size := (Array.getElem?_eq_some_iff.1 HP8.out.ok).1
                have HD := hid (fun (W : World) (hW : Below (w.heap.size + 2) w8 W) => (show W.cell? ⟨w.heap.size, 0, none⟩ = some (.slice A9 acc.length c9) ∧ W.frozen? ⟨w.heap.size, 0, none⟩ = false from
                  ⟨(hW.cell (p := ⟨w.heap.size, 0, none⟩) (by simp)).trans d0, (frozen_of_heap (hW.block w.heap.size (by omega))).trans f0⟩))
                have HKK := hid HK1.out
                clear hz hz2 HK1
                go_wp2_with (refine wpList_appP rfl (.tmp 38) (.tmp 40) rfl (w.heap.size + 2) _ acc _ _ (by simp [Act.eval]) HP8.out.own hbs (by simp [Act.eval]) (by omega) ?_; intro v' w9 ho9 hb9; obtain ⟨A10, c10, rfl, _, _⟩ := ho9.out.parts; obtain ⟨g0, g1⟩ := HD.out _ hb9.out)
                go_round
                case rel => exact ⟨k + 1, _, _, by go_num, by omega, by rw [← HKK.out.1]; go_num, by rw [← HKK.out.1, ← HKK.out.2]; exact HY, by simp; omega, hid (HP8.out.next1 ho9.out hb9.out)⟩
                case measure => simp [RowKit.intOf]; omega
    · obtain rfl : k = n0 := by omega
      have hE := hid (M.parts_end hpt.out (by omega))
      have d0 : wr.cell? ⟨w.heap.size, 0, none⟩ = some (.slice A9 acc.length c9) := by rw [cell_of_row _ _ 0 _ _ _ HP.out.box]; rfl
      have d1 : wr.cell? ⟨w.heap.size + 1, 0, none⟩ = some (.bool false) := by rw [cell_of_row _ _ 0 _ _ _ HP.out.ok]; rfl
      have f0 := frozen_of_row _ _ 0 _ _ HP.out.box
      have f1 := frozen_of_row _ _ 0 _ _ HP.out.ok
      clear hpt hkn
      go_wp2
      exact parts_end hE.out (by have := heap_setCell_same wr _ 0 _ _ (.slice A9 acc.length c9) HP.out.box; rw [heap_setCell_other _ _ _ _ (by simp)]; simpa using this)
        (by have := (heap_setCell_other wr ⟨w.heap.size, 0, none⟩ (w.heap.size + 1) (.slice A9 acc.length c9) (by simp)).trans HP.out.ok; have := heap_setCell_same _ _ 0 _ _ (.bool true) this; simpa using this)
        ((OwnP.parts (ownsRow_setCell_below (ownsRow_setCell_below HP.out.own (by simp) _) (by simp) _)).lower (by omega))
        ((HP.out.below.setCell (p := ⟨w.heap.size, 0, none⟩) (Nat.le_refl _) _).setCell (p := ⟨w.heap.size + 1, 0, none⟩) (by simp) _) rfl rfl
end Go.Proofs.YtkpnhggpcpjddaaGreatDoor
