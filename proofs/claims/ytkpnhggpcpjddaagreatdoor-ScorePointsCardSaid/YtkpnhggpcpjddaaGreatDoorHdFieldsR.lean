/-
  The document's fields.
-/
import Derived.Test.YtkpnhggpcpjddaaGreatDoorHdInts
import Derived.Test.YtkpnhggpcpjddaaGreatDoorHdRefParts
import Derived.Test.YtkpnhggpcpjddaaGreatDoorHdMathP
import Derived.Test.YtkpnhggpcpjddaaGreatDoorHMl
import Derived.Deep.CutRange
set_option linter.unusedVariables false
set_option linter.unusedSimpArgs false
namespace Go.Proofs.YtkpnhggpcpjddaaGreatDoor
open Go.RowKit Go.Lib
namespace M
theorem parN_least (zs : List Int) : -most ≤ parN zs := by
  unfold parN
  split
  · unfold binN
    split
    · rename_i h
      unfold binOk at h
      rw [Bool.and_eq_true, Bool.and_eq_true, decide_eq_true_eq, decide_eq_true_eq] at h
      exact h.2.1
    · decide
  · unfold octN
    split
    · have h := val_take_nonneg zs (digs zs).length
      rw [List.take_length] at h
      exact Int.le_trans (by decide : -most ≤ 0) h
    · decide
/-- A way's numbers. -/
def fl (zs : List Int) (v : Int) : List Int := [num zs 100 8, num zs 108 8, num zs 116 8, num zs 124 12, num zs 136 12, if v = 0 then 0 else num zs 329 8, if v = 0 then 0 else num zs 337 8]
def fOk (zs : List Int) (v : Int) : Bool := rnOk zs 0 v 0 && (rnOk zs 0 v 1 && (rnOk zs 0 v 2 && (rnOk zs 0 v 3 && (rnOk zs 0 v 4 && (rnOk zs 0 v 5 && rnOk zs 0 v 6)))))
theorem allOk_eq (zs : List Int) (k v : Int) : allOk zs k v = (fOk zs v && rnOk zs k v 7) := by
  unfold allOk fOk
  simp only [Bool.and_assoc]
  rfl
def fTest (zs : List Int) (a m : Nat) (up : Int) (k : Nat) : Bool := parOk (sub zs a m) && (!(decide (num zs a m < 0) && decide (k ≠ 4)) && !decide (up < num zs a m))
theorem fTest_4 (zs : List Int) : numOk zs 136 12 (-most) most = fTest zs 136 12 most 4 := by
  have h1 : decide (-most ≤ num zs 136 12) = true := by rw [decide_eq_true_eq]; exact parN_least _
  have h2 : decide (num zs 136 12 ≤ most) = true := by rw [decide_eq_true_eq]; exact parN_most _
  have h3 : decide (most < num zs 136 12) = false := by rw [decide_eq_false_iff_not]; exact Int.not_lt.2 (parN_most _)
  unfold numOk fTest
  rw [h1, h2, h3]
  simp
theorem fTest_n (zs : List Int) (a m : Nat) (up : Int) (k : Nat) (hk : k ≠ 4) : numOk zs a m 0 up = fTest zs a m up k := by
  unfold numOk fTest
  by_cases h1 : 0 ≤ num zs a m
  · have e1 : decide (num zs a m < 0) = false := by rw [decide_eq_false_iff_not]; omega
    by_cases h2 : num zs a m ≤ up
    · have e2 : decide (up < num zs a m) = false := by rw [decide_eq_false_iff_not]; omega
      simp [h1, h2, e1, e2]
    · have e2 : decide (up < num zs a m) = true := by rw [decide_eq_true_eq]; omega
      simp [h1, h2, e1, e2]
  · have e1 : decide (num zs a m < 0) = true := by rw [decide_eq_true_eq]; omega
    simp [h1, e1, hk]
/-- One of the seven. -/
theorem field_row (zs : List Int) (v : Int) (k : Nat) (hk : k < 7) : ∃ (a m : Nat) (up : Int), (a + m ≤ 500 ∧ m ≤ 12 ∧ 0 < a ∧ 8 ≤ m) ∧ (0 ≤ up ∧ up ≤ 4611686018427387904) ∧
    ([.int .i64 100, .int .i64 108, .int .i64 116, .int .i64 124, .int .i64 136, .int .i64 329, .int .i64 337] : List Value)[k]? = some (.int .i64 (a : Int)) ∧
    ([.int .i64 8, .int .i64 8, .int .i64 8, .int .i64 12, .int .i64 12, .int .i64 8, .int .i64 8] : List Value)[k]? = some (.int .i64 (m : Int)) ∧
    ([.int .i64 4611686018427387904, .int .i64 4611686018427387904, .int .i64 4611686018427387904, .int .i64 1099511627776, .int .i64 4611686018427387904, .int .i64 4611686018427387904, .int .i64 4611686018427387904] : List Value)[k]? = some (.int .i64 up) ∧
    (¬ (4 < k ∧ v = 0) → (fl zs v)[k]? = some (num zs a m) ∧ rnOk zs 0 v k = fTest zs a m up k) ∧ ((4 < k ∧ v = 0) → (fl zs v)[k]? = some 0 ∧ rnOk zs 0 v k = true) := by
  have h7 : k = 0 ∨ k = 1 ∨ k = 2 ∨ k = 3 ∨ k = 4 ∨ k = 5 ∨ k = 6 := by omega
  rcases h7 with rfl | rfl | rfl | rfl | rfl | rfl | rfl
  · exact ⟨100, 8, most, by decide, by decide, rfl, rfl, rfl, fun _ => ⟨rfl, fTest_n _ _ _ _ _ (by decide)⟩, fun h => absurd h.1 (by decide)⟩
  · exact ⟨108, 8, most, by decide, by decide, rfl, rfl, rfl, fun _ => ⟨rfl, fTest_n _ _ _ _ _ (by decide)⟩, fun h => absurd h.1 (by decide)⟩
  · exact ⟨116, 8, most, by decide, by decide, rfl, rfl, rfl, fun _ => ⟨rfl, fTest_n _ _ _ _ _ (by decide)⟩, fun h => absurd h.1 (by decide)⟩
  · exact ⟨124, 12, maxSize, by decide, by decide, rfl, rfl, rfl, fun _ => ⟨rfl, fTest_n _ _ _ _ _ (by decide)⟩, fun h => absurd h.1 (by decide)⟩
  · exact ⟨136, 12, most, by decide, by decide, rfl, rfl, rfl, fun _ => ⟨rfl, fTest_4 _⟩, fun h => absurd h.1 (by decide)⟩
  · refine ⟨329, 8, most, by decide, by decide, rfl, rfl, rfl, fun h => ?_, fun h => ?_⟩
    · have hv : v ≠ 0 := fun e => h ⟨by decide, e⟩
      have e : (v != 0) = true := by simpa using hv
      exact ⟨by unfold fl; rw [if_neg hv]; rfl, by unfold rnOk; rw [e]; exact fTest_n _ _ _ _ _ (by decide)⟩
    · obtain ⟨_, rfl⟩ := h
      exact ⟨rfl, rfl⟩
  · refine ⟨337, 8, most, by decide, by decide, rfl, rfl, rfl, fun h => ?_, fun h => ?_⟩
    · have hv : v ≠ 0 := fun e => h ⟨by decide, e⟩
      have e : (v != 0) = true := by simpa using hv
      exact ⟨by unfold fl; rw [if_neg hv, if_neg hv]; rfl, by unfold rnOk; rw [e]; exact fTest_n _ _ _ _ _ (by decide)⟩
    · obtain ⟨_, rfl⟩ := h
      exact ⟨rfl, rfl⟩
theorem fOk_no {zs : List Int} {v : Int} {k : Nat} (hk : k < 7) (h : rnOk zs 0 v k = false) : fOk zs v = false := by
  have h7 : k = 0 ∨ k = 1 ∨ k = 2 ∨ k = 3 ∨ k = 4 ∨ k = 5 ∨ k = 6 := by omega
  unfold fOk
  rcases h7 with rfl | rfl | rfl | rfl | rfl | rfl | rfl <;> rw [h] <;> simp
theorem fOk_yes {zs : List Int} {v : Int} (h : ∀ j, j < 7 → rnOk zs 0 v j = true) : fOk zs v = true := by
  unfold fOk
  rw [h 0 (by decide), h 1 (by decide), h 2 (by decide), h 3 (by decide), h 4 (by decide), h 5 (by decide), h 6 (by decide)]
  rfl
theorem fl_len (zs : List Int) (v : Int) : (fl zs v).length = 7 := rfl
end M
theorem three_new (w : World) (o1 o2 o3 : Obj) : (((w.alloc o1).alloc o2).alloc o3).heap[w.heap.size]? = some o1 ∧ (((w.alloc o1).alloc o2).alloc o3).heap[w.heap.size + 1]? = some o2 ∧
    (((w.alloc o1).alloc o2).alloc o3).heap[w.heap.size + 1 + 1]? = some o3 ∧ Below w.heap.size w (((w.alloc o1).alloc o2).alloc o3) ∧ (((w.alloc o1).alloc o2).alloc o3).heap.size = w.heap.size + 3 := by
  refine ⟨?_, ?_, ?_, (((Below.refl _ _).alloc (Nat.le_refl _) _).alloc (by simp) _).alloc (by simp; omega) _, by simp⟩
  · rw [Below.heap_alloc _ _ _ (by simp only [World.size_alloc]; omega), Below.heap_alloc _ _ _ (by simp only [World.size_alloc]; omega)]; exact heap_alloc_new w _
  · rw [Below.heap_alloc _ _ _ (by simp only [World.size_alloc]; omega)]; have := heap_alloc_new (w.alloc o1) o2; rwa [World.size_alloc] at this
  · have := heap_alloc_new ((w.alloc o1).alloc o2) o3; rwa [World.size_alloc, World.size_alloc] at this
/-- What the document's fields answers. -/
def FieldsTo (zs : List Int) (v : Int) (w : World) (e : Ending) (w' : World) : Prop :=
  (∃ A n c, e = .returned (.tuple #[.slice A n c, .bool (M.fOk zs v)]) ∧ (M.fOk zs v = true → ∃ g, A = some ⟨g, 0, none⟩ ∧ n = 7 ∧ g < w'.heap.size ∧ w.heap.size ≤ g ∧ ∀ j z, (M.fl zs v)[j]? = some z → w'.cell? ⟨g, j, none⟩ = some (.int .i64 z))) ∧ Below w.heap.size w w'
theorem FieldsTo.no {zs : List Int} {v : Int} {w w' : World} {k : Nat} (hk : k < 7) (h : M.rnOk zs 0 v k = false) (hb : Below w.heap.size w w') : FieldsTo zs v w (.returned (.tuple #[.slice none 0 0, .bool false])) w' := by
  have e := M.fOk_no hk h
  refine ⟨⟨none, 0, 0, by rw [e], fun h => ?_⟩, hb⟩
  rw [e] at h
  cases h
/-- The rounds of the document's fields. -/
def FieldsAt (w W : World) (zs : List Int) (v : Int) (x i : Value) (wr : World) : Prop :=
  ∃ k : Nat, i = .int .i64 k ∧ k ≤ 7 ∧ Hid (OwnI wr (w.heap.size + 3) x ((M.fl zs v).take k)) ∧ Hid (∀ j, j < k → M.rnOk zs 0 v j = true) ∧ Hid (Below (w.heap.size + 3) W wr)
theorem FieldsAt.next {w W wr w1 : World} {zs : List Int} {v z : Int} {x v1 i : Value} {k : Nat} {cs : Array Value} (hi : i = .int .i64 ((k + 1 : Nat) : Int)) (hk : k < 7) (HO : Hid (OwnI wr (w.heap.size + 3) x ((M.fl zs v).take k))) (HOk : Hid (∀ j, j < k → M.rnOk zs 0 v j = true)) (HW : Hid (Below (w.heap.size + 3) W wr))
    (hz : (M.fl zs v)[k]? = some z) (hok : M.rnOk zs 0 v k = true) (o1 : OwnI w1 (w.heap.size + 3) v1 ((M.fl zs v).take k ++ [z])) (g1 : (wr.alloc (.cells cs 3)).grownBy w1 x.ownBlock) (hbs : w.heap.size + 3 ≤ wr.heap.size) : FieldsAt w W zs v v1 i w1 := by
  refine ⟨k + 1, hi, hk, hid ?_, hid (fun j hj => ?_), hid ?_⟩
  · have e : (M.fl zs v).take (k + 1) = (M.fl zs v).take k ++ [z] := by rw [List.take_add_one, hz]; rfl
    rw [e]; exact o1
  · by_cases e : j = k
    · subst e; exact hok
    · exact HOk.out j (by omega)
  · exact ((HW.out.trans ((Below.refl _ _).alloc hbs (.cells cs 3)))).trans ⟨g1.os, g1.tape, g1.output, g1.size, fun j hj => g1.block j (by simp; omega) (fun e => by have := (World.ownsRow.lt HO.out j e.symm).1; omega)⟩

set_option maxRecDepth 100000 in
set_option maxHeartbeats 4000000 in
theorem refFields_any (A : Option Addr) (c : Nat) (zs : List Int) (v : Int) (w : World) (hr : Rd w w.heap.size A 512 zs) (hc : 512 ≤ c) (hcm : c ≤ maxLen) :
    Calls Tryz.prog 63 #[.slice A 512 c, .int .i64 v] w (FieldsTo zs v w) := by
  obtain ⟨b, off, rfl, hbw, _⟩ := hr.2.2 (by decide)
  have HF := hid (three_new w (.cells #[.int .i64 100, .int .i64 108, .int .i64 116, .int .i64 124, .int .i64 136, .int .i64 329, .int .i64 337] 3) (.cells #[.int .i64 8, .int .i64 8, .int .i64 8, .int .i64 12, .int .i64 12, .int .i64 8, .int .i64 8] 3)
    (.cells #[.int .i64 4611686018427387904, .int .i64 4611686018427387904, .int .i64 4611686018427387904, .int .i64 1099511627776, .int .i64 4611686018427387904, .int .i64 4611686018427387904, .int .i64 4611686018427387904] 3))
  have HR := hid (⟨hr, hc, hcm⟩ : _ ∧ _ ∧ _)
  clear hr hc hcm hbw
  go_enter Tryz.func63, Tryz.ntmps63
  go_wp2_with fail
  generalize World.alloc (World.alloc (World.alloc w _) _) _ = W at *
  go_loopw [9, 10] (fun x i wr => FieldsAt w W zs v x i wr) (fun _ i _ => 7 - (RowKit.intOf i).toNat)
  case atStart => exact ⟨0, rfl, Nat.zero_le _, hid (World.ownsRow_nil _ _ _ _), hid (fun j hj => absurd hj (Nat.not_lt_zero j)), hid (Below.refl _ _)⟩
  case round =>
    obtain ⟨k, rfl, hk, HO, HOk, HW⟩ := hrel
    by_cases hlt : k < 7
    · obtain ⟨a, m, up, ⟨ham, hm12, ha0, hm8⟩, hup, hra, hrm, hru, hyes, hno⟩ := M.field_row zs v k hlt
      have hC := fun (V : World) (hV : Below (w.heap.size + 3) W V) => (⟨cell_of ((hV.block _ (by omega)).trans HF.out.1) (by simpa using hra), cell_of ((hV.block _ (by omega)).trans HF.out.2.1) (by simpa using hrm), cell_of ((hV.block _ (by omega)).trans HF.out.2.2.1) (by simpa using hru)⟩ :
        V.cell? ⟨w.heap.size, k, none⟩ = some (.int .i64 (a : Int)) ∧ V.cell? ⟨w.heap.size + 1, k, none⟩ = some (.int .i64 (m : Int)) ∧ V.cell? ⟨w.heap.size + 1 + 1, k, none⟩ = some (.int .i64 up))
      have HC := hid hC
      clear hC hra hrm hru
      have hbs : w.heap.size + 3 ≤ wr.heap.size := by have := HF.out.2.2.2.2; have := HW.out.size; omega
      by_cases h40 : 4 < k ∧ v = 0
      · obtain ⟨hfl, hok⟩ := hno h40
        have HN := hid (⟨hfl, hok⟩ : _ ∧ _)
        have HLT := hid hlt
        obtain ⟨h4, rfl⟩ := h40
        clear hyes hno hfl hok
        go_wp2_with (refine wpList_appI rfl (.tmp 26) (.tmp 27) rfl (w.heap.size + 3) _ _ [0] _ rfl 1 rfl (by simp [Act.eval]) HO.out hbs (by simp [Act.eval]) (by rw [List.length_take]; have := M.fl_len zs 0; simp; omega) ?_; intro v1 w1 o1 g1 c1)
        go_roundw
        case rel => exact FieldsAt.next (by go_num) HLT.out HO HOk HW HN.out.1 HN.out.2 o1.out g1.out hbs
        case measure => simp [RowKit.intOf]; omega
      · obtain ⟨hfl, hrk⟩ := hyes h40
        have HN := hid (⟨hfl, hrk⟩ : _ ∧ _)
        have HLT := hid hlt
        clear hyes hno hfl hrk
        have HT : Hid (M.fTest zs a m up k = (M.parOk (M.sub zs a m) && (!(decide (M.num zs a m < 0) && decide (k ≠ 4)) && !decide (up < M.num zs a m)))) := hid rfl
        have HPr := hid (fun (V : World) (hV : Below (w.heap.size + 3) W V) => (by
          have hrd := (HR.out.1.below (HF.out.2.2.2.1.trans (hV.mono (by omega)))).sub (a := a) (m := m) (by omega)
          exact parseRef_any (some ⟨b, off + a, none⟩) m (c - a) (M.sub zs a m) V _ hrd (by have := HR.out.2.1; omega) (by have := HR.out.2.2; omega) : Calls Tryz.prog 61 #[.slice (some ⟨b, off + a, none⟩) m (c - a)] V (fun e w' => e = .returned (.tuple #[.int .i64 (M.num zs a m), .bool (M.parOk (M.sub zs a m))]) ∧ V = w')))
        have HC1 := hid (fun V (hV : Below (w.heap.size + 3) W V) => (HC.out V hV).1)
        have HC2 := hid (fun V (hV : Below (w.heap.size + 3) W V) => (HC.out V hV).2.1)
        have hc512 := HR.out.2.1
        have SL := hid (show (a : Int) + (m : Int) ≤ (c : Int) by omega)
        have SL2 := hid (show ¬ (c = a) by omega)
        have SL3 := hid (show IntKind.i64.wrap ((a : Int) + (m : Int)) = ((a + m : Nat) : Int) by rw [IntWalk.i64_in _ (by omega)]; omega)
        have SL4 := hid (show 0 ≤ (a : Int) + (m : Int) by omega)
        have SL5 := hid (show ((a : Int) + (m : Int)).toNat = a + m by omega)
        clear hc512
        go_upto_region 8 with fail
        go_cut [25] from 16 to 24 (fun x wx => x = .bool false ∧ wr = wx)
        case first =>
          by_cases h4 : 4 < k
          · have hv0 : (v == 0) = false := by simpa using fun e => h40 ⟨h4, e⟩
            go_wp2_with fail
            go_meet
            case rel => exact ⟨rfl, rfl⟩
          · go_wp2_with fail
            go_meet
            case rel => exact ⟨rfl, rfl⟩
        case rest =>
          obtain ⟨rfl, rfl⟩ := hcut
          clear h40
          go_wp2_with fail
          refine wp_region_held_drew (S := fun V => Below (w.heap.size + 3) W V) (by kernel_rfl) (below_drwR HW.out) (fun hS => ?_)
          have HOd : Hid (OwnI wr.drew (w.heap.size + 3) u9 ((M.fl zs v).take k)) := hid HO.out
          generalize hSV : wr.drew = V at *
          clear hSV
          refine takeH (i := 0) (v := ?_) 30 rfl rfl (by kernel_rfl) (by kernel_rfl) (by kernel_rfl) (fun _ _ _ h => h) (by rfl) ?hy0 hS ?rest0
          case hy0 => (intro W hW; clear hW; go_simp; first | done | with_reducible rfl)
          try simp only [Act.put, List.setIfInBounds_toArray, List.set_cons_zero, List.set_cons_succ]
          refine takeH (i := 1) (v := ?_) 31 rfl rfl (by kernel_rfl) (by kernel_rfl) (by kernel_rfl) (fun _ _ _ h => h) (by rfl) ?hy1 hS ?rest1
          case hy1 => (intro W hW; clear hW; go_simp; first | done | with_reducible rfl)
          try simp only [Act.put, List.setIfInBounds_toArray, List.set_cons_zero, List.set_cons_succ]
          refine takeH (i := 2) (v := ?_) 32 rfl rfl (by kernel_rfl) (by kernel_rfl) (by kernel_rfl) (fun _ _ _ h => h) (by rfl) ?hy2 hS ?rest2
          case hy2 => (intro W hW; clear hW; go_simp; first | done | with_reducible rfl)
          try simp only [Act.put, List.setIfInBounds_toArray, List.set_cons_zero, List.set_cons_succ]
          refine takeH (i := 3) (v := ?_) 33 rfl rfl (by kernel_rfl) (by kernel_rfl) (by kernel_rfl) (fun _ _ _ h => h) (by rfl) ?hy3 hS ?rest3
          case hy3 => (intro W hW; have f0 := HLT.out; clear hW; go_simp; first | done | with_reducible rfl)
          try simp only [Act.put, List.setIfInBounds_toArray, List.set_cons_zero, List.set_cons_succ]
          refine takeH (i := 4) (v := ?_) 34 rfl rfl (by kernel_rfl) (by kernel_rfl) (by kernel_rfl) (fun _ _ _ h => h) (by rfl) ?hy4 hS ?rest4
          case hy4 => (intro W hW; have f0 := HC1.out W hW; clear hW; go_simp; first | done | with_reducible rfl)
          try simp only [Act.put, List.setIfInBounds_toArray, List.set_cons_zero, List.set_cons_succ]
          refine takeH (i := 5) (v := ?_) 35 rfl rfl (by kernel_rfl) (by kernel_rfl) (by kernel_rfl) (fun _ _ _ h => h) (by rfl) ?hy5 hS ?rest5
          case hy5 => (intro W hW; clear hW; go_simp; first | done | with_reducible rfl)
          try simp only [Act.put, List.setIfInBounds_toArray, List.set_cons_zero, List.set_cons_succ]
          refine takeH (i := 6) (v := ?_) 36 rfl rfl (by kernel_rfl) (by kernel_rfl) (by kernel_rfl) (fun _ _ _ h => h) (by rfl) ?hy6 hS ?rest6
          case hy6 => (intro W hW; clear hW; go_simp; first | done | with_reducible rfl)
          try simp only [Act.put, List.setIfInBounds_toArray, List.set_cons_zero, List.set_cons_succ]
          refine takeH (i := 7) (v := ?_) 37 rfl rfl (by kernel_rfl) (by kernel_rfl) (by kernel_rfl) (fun _ _ _ h => h) (by rfl) ?hy7 hS ?rest7
          case hy7 => (intro W hW; have f0 := HLT.out; clear hW; go_simp; first | done | with_reducible rfl)
          try simp only [Act.put, List.setIfInBounds_toArray, List.set_cons_zero, List.set_cons_succ]
          refine takeH (i := 8) (v := ?_) 38 rfl rfl (by kernel_rfl) (by kernel_rfl) (by kernel_rfl) (fun _ _ _ h => h) (by rfl) ?hy8 hS ?rest8
          case hy8 => (intro W hW; have f0 := HC1.out W hW; clear hW; go_simp; first | done | with_reducible rfl)
          try simp only [Act.put, List.setIfInBounds_toArray, List.set_cons_zero, List.set_cons_succ]
          refine takeH (i := 9) (v := ?_) 39 rfl rfl (by kernel_rfl) (by kernel_rfl) (by kernel_rfl) (fun _ _ _ h => h) (by rfl) ?hy9 hS ?rest9
          case hy9 => (intro W hW; clear hW; go_simp; first | done | with_reducible rfl)
          try simp only [Act.put, List.setIfInBounds_toArray, List.set_cons_zero, List.set_cons_succ]
          refine takeH (i := 10) (v := ?_) 40 rfl rfl (by kernel_rfl) (by kernel_rfl) (by kernel_rfl) (fun _ _ _ h => h) (by rfl) ?hy10 hS ?rest10
          case hy10 => (intro W hW; clear hW; go_simp; first | done | with_reducible rfl)
          try simp only [Act.put, List.setIfInBounds_toArray, List.set_cons_zero, List.set_cons_succ]
          refine takeH (i := 11) (v := ?_) 41 rfl rfl (by kernel_rfl) (by kernel_rfl) (by kernel_rfl) (fun _ _ _ h => h) (by rfl) ?hy11 hS ?rest11
          case hy11 => (intro W hW; have f0 := HLT.out; clear hW; go_simp; first | done | with_reducible rfl)
          try simp only [Act.put, List.setIfInBounds_toArray, List.set_cons_zero, List.set_cons_succ]
          refine takeH (i := 12) (v := ?_) 42 rfl rfl (by kernel_rfl) (by kernel_rfl) (by kernel_rfl) (fun _ _ _ h => h) (by rfl) ?hy12 hS ?rest12
          case hy12 => (intro W hW; have f0 := HC2.out W hW; clear hW; go_simp; first | done | with_reducible rfl)
          try simp only [Act.put, List.setIfInBounds_toArray, List.set_cons_zero, List.set_cons_succ]
          refine takeH (i := 13) (v := ?_) 43 rfl rfl (by kernel_rfl) (by kernel_rfl) (by kernel_rfl) (fun _ _ _ h => h) (by rfl) ?hy13 hS ?rest13
          case hy13 => (intro W hW; have f0 := SL3.out; clear hW; go_simp; first | done | with_reducible rfl)
          try simp only [Act.put, List.setIfInBounds_toArray, List.set_cons_zero, List.set_cons_succ]
          refine takeH (i := 14) (v := ?_) 44 rfl rfl (by kernel_rfl) (by kernel_rfl) (by kernel_rfl) (fun _ _ _ h => h) (by rfl) ?hy14 hS ?rest14
          case hy14 => (intro W hW; have f0 := SL.out; have f1 := SL2.out; have f2 := SL4.out; have f3 := SL5.out; clear hW; go_simp; first | done | with_reducible rfl)
          try simp only [Act.put, List.setIfInBounds_toArray, List.set_cons_zero, List.set_cons_succ]
          have HSV := hid hS
          refine loneH (i := 15) 45 rfl rfl (by kernel_rfl) (by rfl) (fun K hK => ?_)
          go_simp
          (with_reducible refine (HPr.out _ hS).mono ?_)
          rintro e w1 ⟨rfl, rfl⟩
          refine hK.out _ _ HSV.out (fun hS => ?_)
          clear hK K
          try simp only [Act.put, List.setIfInBounds_toArray, List.set_cons_zero, List.set_cons_succ]
          refine takeH (i := 16) (v := ?_) 29 rfl rfl (by kernel_rfl) (by kernel_rfl) (by kernel_rfl) (fun _ _ _ h => h) (by rfl) ?hy16 hS ?rest16
          case hy16 => (intro W hW; clear hW; go_simp; first | done | with_reducible rfl)
          try simp only [Act.put, List.setIfInBounds_toArray, List.set_cons_zero, List.set_cons_succ]
          refine takeH (i := 17) (v := ?_) 46 rfl rfl (by kernel_rfl) (by kernel_rfl) (by kernel_rfl) (fun _ _ _ h => h) (by rfl) ?hy17 hS ?rest17
          case hy17 => (intro W hW; clear hW; go_simp; first | done | with_reducible rfl)
          try simp only [Act.put, List.setIfInBounds_toArray, List.set_cons_zero, List.set_cons_succ]
          refine takeH (i := 18) (v := ?_) 47 rfl rfl (by kernel_rfl) (by kernel_rfl) (by kernel_rfl) (fun _ _ _ h => h) (by rfl) ?hy18 hS ?rest18
          case hy18 => (intro W hW; clear hW; go_simp; first | done | with_reducible rfl)
          try simp only [Act.put, List.setIfInBounds_toArray, List.set_cons_zero, List.set_cons_succ]
          refine takeH (i := 19) (v := ?_) 11 rfl rfl (by kernel_rfl) (by kernel_rfl) (by kernel_rfl) (fun _ _ _ h => h) (by rfl) ?hy19 hS ?rest19
          case hy19 => (intro W hW; clear hW; go_simp; first | done | with_reducible rfl)
          try simp only [Act.put, List.setIfInBounds_toArray, List.set_cons_zero, List.set_cons_succ]
          refine takeH (i := 20) (v := ?_) 12 rfl rfl (by kernel_rfl) (by kernel_rfl) (by kernel_rfl) (fun _ _ _ h => h) (by rfl) ?hy20 hS ?rest20
          case hy20 => (intro W hW; clear hW; go_simp; first | done | with_reducible rfl)
          try simp only [Act.put, List.setIfInBounds_toArray, List.set_cons_zero, List.set_cons_succ]
          refine wpAnyH_done (by kernel_rfl) ?_ _
          try simp only [Act.put, List.setIfInBounds_toArray, List.set_cons_zero, List.set_cons_succ]
          have hcu := (HC.out V HSV.out).2.2
          have hbs : w.heap.size + 3 ≤ V.heap.size := by have := HF.out.2.2.2.2; have := HSV.out.size; omega
          clear HPr HC1 HC2 SL SL2 SL3 SL4 SL5 HC hS
          generalize M.parOk (M.sub zs a m) = o1 at *
          generalize M.num zs a m = x1 at *
          generalize M.fTest zs a m up k = q at *
          go_upto_region 11 with fail
          go_cut [65] from 26 to 64 (fun x wx => x = .bool (!q) ∧ V = wx)
          case first =>
            cases o1 with
            | false =>
              have HQ := hid (show q = false by rw [HT.out]; rfl)
              go_wp2_with fail
              go_meet
              case rel => exact ⟨by rw [HQ.out]; rfl, rfl⟩
            | true =>
              by_cases h4 : k = 4
              · have e4 : ((k : Int) != 4) = false := by subst h4; rfl
                by_cases hx0 : x1 < 0
                · have hu : ¬ (up < x1) := by omega
                  have HQ := hid (show q = true by rw [HT.out]; simp [hx0, hu, h4])
                  clear h4
                  go_wp2_with fail
                  go_meet
                  case rel => exact ⟨by rw [HQ.out]; rfl, rfl⟩
                · by_cases hu : up < x1
                  · have HQ := hid (show q = false by rw [HT.out]; simp [hx0, hu, h4])
                    clear h4
                    go_wp2_with fail
                    go_meet
                    case rel => exact ⟨by rw [HQ.out]; rfl, rfl⟩
                  · have HQ := hid (show q = true by rw [HT.out]; simp [hx0, hu, h4])
                    clear h4
                    go_wp2_with fail
                    go_meet
                    case rel => exact ⟨by rw [HQ.out]; rfl, rfl⟩
              · have e4 : ((k : Int) != 4) = true := by simp; omega
                by_cases hx0 : x1 < 0
                · have hu : ¬ (up < x1) := by omega
                  have HQ := hid (show q = false by rw [HT.out]; simp [hx0, hu, h4])
                  clear h4
                  go_wp2_with fail
                  go_meet
                  case rel => exact ⟨by rw [HQ.out]; rfl, rfl⟩
                · by_cases hu : up < x1
                  · have HQ := hid (show q = false by rw [HT.out]; simp [hx0, hu, h4])
                    clear h4
                    go_wp2_with fail
                    go_meet
                    case rel => exact ⟨by rw [HQ.out]; rfl, rfl⟩
                  · have HQ := hid (show q = true by rw [HT.out]; simp [hx0, hu, h4])
                    clear h4
                    go_wp2_with fail
                    go_meet
                    case rel => exact ⟨by rw [HQ.out]; rfl, rfl⟩
          case rest =>
            obtain ⟨rfl, rfl⟩ := hcut
            clear hcu
            cases q with
            | false =>
              go_wp2_with fail
              go_ret2
              exact FieldsTo.no HLT.out HN.out.2 (HF.out.2.2.2.1.trans (HSV.out.mono (by omega)))
            | true =>
              go_wp2_with (refine wpList_appI rfl (.tmp 66) (.tmp 68) rfl (w.heap.size + 3) _ _ [x1] _ rfl 1 rfl (by simp [Act.eval]) HOd.out hbs (by simp [Act.eval]) (by rw [List.length_take]; have := M.fl_len zs v; simp; omega) ?_; intro v1 w1 o1 g1 c1)
              go_roundw
              case rel => exact FieldsAt.next (by go_num) HLT.out HOd HOk HSV HN.out.1 HN.out.2 o1.out g1.out hbs
              case measure => have := HLT.out; simp [RowKit.intOf]; omega
    · obtain rfl : k = 7 := by omega
      have h7 : (M.fl zs v).take 7 = M.fl zs v := List.take_of_length_le (by rw [M.fl_len]; exact Nat.le_refl _)
      rw [h7] at HO
      obtain ⟨g, cg, rfl, hg, hgb, hcl⟩ := HO.out.form (by rw [M.fl_len]; decide)
      have HCl := hid hcl
      have hok := M.fOk_yes HOk.out
      have HE := hid (show FieldsTo zs v w (.returned (.tuple #[.slice (some ⟨g, 0, none⟩) (M.fl zs v).length cg, .bool true])) wr from
        ⟨⟨_, _, _, by rw [hok], fun _ => ⟨g, rfl, M.fl_len zs v, hg, by omega, hcl⟩⟩, HF.out.2.2.2.1.trans (HW.out.mono (by omega))⟩)
      clear hcl hok h7
      go_wp2_with fail
      go_ret2
      exact HE.out
end Go.Proofs.YtkpnhggpcpjddaaGreatDoor
