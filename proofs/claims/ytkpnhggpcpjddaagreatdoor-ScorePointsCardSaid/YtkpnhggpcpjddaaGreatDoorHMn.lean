/-
  Texts of one chapter, merged.
-/
import Derived.Test.YtkpnhggpcpjddaaGreatDoorHMl
import Derived.Test.YtkpnhggpcpjddaaGreatDoorHdPrintW
import Derived.Deep.CutRange
import Derived.Test.YtkpnhggpcpjddaaGreatDoorHMj
set_option linter.unusedVariables false
set_option linter.unusedSimpArgs false
/-! The document's fits answers. -/
namespace Go.Proofs.YtkpnhggpcpjddaaGreatDoor
open Go.RowKit Go.Lib

/-- Some bool, and nothing turns; true: there are few parts. -/
def SomeBool (n : Nat) (w : World) (e : Ending) (w' : World) : Prop := (∃ b : Bool, e = .returned (.bool b) ∧ (b = true → n ≤ 4)) ∧ Below w.heap.size w w'
def IsFew (n : Nat) (v : Value) : Prop := ∃ b : Bool, v = .bool b ∧ (b = false → n ≤ 4)
theorem few_no {n : Nat} {b : Bool} (h : (b || decide (4 < (n : Int))) = false) : n ≤ 4 := by
  rw [Bool.or_eq_false_iff, decide_eq_false_iff_not] at h
  omega
def IsBool (v : Value) : Prop := ∃ b : Bool, v = .bool b

set_option maxRecDepth 100000 in
set_option maxHeartbeats 2000000 in
theorem refFits_any (h : M.Hdr) (A : Option Addr) (c : Nat) (w : World) (hi : HIn w h (.slice A h.parts.length c)) (hfew : h.parts.length ≤ 1000) :
    Calls Tryz.prog 31 #[.agg (hcells h (.slice A h.parts.length c))] w (SomeBool h.parts.length w) := by
  have hb1 : Below w.heap.size w (w.alloc (.cells (hcells h (.slice A h.parts.length c)) 33)) := (Below.refl _ _).alloc (Nat.le_refl _) _
  have HP := hid (PartsB.below hi.parts hb1)
  have HW := hid hb1
  have B1 := hid (HB.new w h (.slice A h.parts.length c))
  clear hi hb1
  generalize hn : h.parts.length = n at *
  have HN := hid hn
  clear hn
  have k8 := HB.cell B1.out (i := 8) (v := .int .i64 h.way) rfl
  have k4 := HB.cell B1.out (i := 4) (v := .int .i64 h.size) rfl
  have k16 := HB.cell B1.out (i := 16) (v := .int .i64 h.real) rfl
  have k14 := HB.cell B1.out (i := 14) (v := .slice A n c) rfl
  have k9 := HB.cell B1.out (i := 9) (v := .string h.user) rfl
  have k10 := HB.cell B1.out (i := 10) (v := .string h.group) rfl
  have k11 := HB.cell B1.out (i := 11) (v := .int .i64 h.major) rfl
  have k12 := HB.cell B1.out (i := 12) (v := .int .i64 h.minor) rfl
  have k13 := HB.cell B1.out (i := 13) (v := .string h.pre) rfl
  have k6 := HB.cell B1.out (i := 6) (v := .int .u8 h.kind) rfl
  have k15 := HB.cell B1.out (i := 15) (v := .bool h.more) rfl
  clear B1
  go_enter Tryz.func31, Tryz.ntmps31
  go_upto_region 1 with fail
  generalize World.alloc w _ = W at *
  go_cut [27] from 4 to 26 (fun v wx => IsFew n v ∧ W = wx)
  case first =>
    go_wp2_with fail
    all_goals
      go_meet
      case rel => first | exact ⟨⟨true, rfl, fun h => nomatch h⟩, rfl⟩ | exact ⟨⟨_, rfl, few_no⟩, rfl⟩
  case rest =>
    obtain ⟨⟨b1, rfl, hle⟩, rfl⟩ := hcut
    cases b1
    · have HLE := hid (hle rfl)
      clear hle
      go_upto_region 3 with fail
      go_cut [60] from 28 to 59 (fun v wx => IsBool v ∧ W = wx)
      case first =>
        go_wp2_with fail
        all_goals
          go_meet
          case rel => exact ⟨⟨_, rfl⟩, rfl⟩
      case rest =>
        obtain ⟨⟨b2, rfl⟩, rfl⟩ := hcut
        clear k4 k9 k10 k11 k12 k13
        cases b2
        · go_wp2_with fail
          go_loop [3] (fun i => ∃ k : Nat, i = .int .i64 k ∧ k ≤ n) (fun i => n - (RowKit.intOf i).toNat)
          case atStart => exact ⟨0, rfl, Nat.zero_le _⟩
          case round =>
            obtain ⟨k, rfl, hk⟩ := hrel
            by_cases hkn : k < n
            · obtain ⟨A', c', he, _, hcells⟩ := HP.out
              injection he with he1 he2 he3
              clear he2
              subst he1 he3
              obtain ⟨ba, oa, rfl, _, hca⟩ := hcells (by rw [HN.out]; omega)
              clear hcells
              obtain ⟨⟨p, q⟩, hpk⟩ : ∃ p, h.parts[k]? = some p := ⟨_, List.getElem?_eq_getElem (by rw [HN.out]; exact hkn)⟩
              obtain ⟨a0, a1⟩ := hca k _ hpk
              dsimp only at a0 a1
              rw [show 2 * k = k * 2 by omega] at a0 a1
              clear hca hpk
              go_wp2_with fail
              all_goals first
                | (go_ret
                   exact ⟨⟨_, rfl, fun _ => by first | exact HLE.out | decide⟩, HW.out⟩)
                | (go_round
                   case rel => exact ⟨k + 1, (by go_num), hkn⟩
                   case measure => simp [RowKit.intOf]; omega)
            · go_wp2_with fail
              all_goals
                go_ret
                exact ⟨⟨_, rfl, fun _ => by first | exact HLE.out | decide⟩, HW.out⟩
        · go_wp2
          go_ret
          exact ⟨⟨_, rfl, fun _ => by first | exact HLE.out | decide⟩, HW.out⟩
    · go_wp2
      go_ret
      exact ⟨⟨false, rfl, fun h => nomatch h⟩, HW.out⟩
end Go.Proofs.YtkpnhggpcpjddaaGreatDoor

/-! The document's fits, exactly. -/
namespace Go.Proofs.YtkpnhggpcpjddaaGreatDoor
open Go.RowKit Go.Lib

theorem blank_iff {s : ByteArray} : M.blank s = true ↔ s.toList = [] := by unfold M.blank; exact beq_iff_eq
theorem f3_succ {l : List (Int × Int)} {k : Nat} {p q : Int} (h : l[k]? = some (p, q)) : M.f3 (l.take (k + 1)) = (M.f3 (l.take k) && !(p == 0 && q == 0)) := by
  rw [List.take_add_one, h]
  unfold M.f3
  rw [List.all_append]
  simp
theorem f3_no {l : List (Int × Int)} (h : ((0 : Int), (0 : Int)) ∈ l) : M.f3 l = false := by
  unfold M.f3
  rw [List.all_eq_false]
  exact ⟨_, h, by decide⟩
theorem not_eq {x y : Bool} (h : x = true ↔ ¬ (y = true)) : x = !y := by
  cases x <;> cases y <;> simp_all
set_option maxRecDepth 100000 in
set_option maxHeartbeats 2000000 in
theorem refFitsX_any (h : M.Hdr) (A : Option Addr) (c : Nat) (w : World) (hi : HIn w h (.slice A h.parts.length c)) (hfew : h.parts.length ≤ 1000) :
    Calls Tryz.prog 31 #[.agg (hcells h (.slice A h.parts.length c))] w (fun e w' => e = .returned (.bool (M.fits h)) ∧ Below w.heap.size w w') := by
  have hb1 : Below w.heap.size w (w.alloc (.cells (hcells h (.slice A h.parts.length c)) 33)) := (Below.refl _ _).alloc (Nat.le_refl _) _
  have HP := hid (PartsB.below hi.parts hb1)
  have HW := hid hb1
  have B1 := hid (HB.new w h (.slice A h.parts.length c))
  clear hi hb1
  have HF1 := hid (M.f1_iff (h := h))
  have HF4 := hid (M.f4_iff (h := h))
  have HF2 := hid (M.f2_iff (h := h))
  generalize hn : h.parts.length = n at *
  have HN := hid hn
  clear hn
  have k8 := HB.cell B1.out (i := 8) (v := .int .i64 h.way) rfl
  have k4 := HB.cell B1.out (i := 4) (v := .int .i64 h.size) rfl
  have k16 := HB.cell B1.out (i := 16) (v := .int .i64 h.real) rfl
  have k14 := HB.cell B1.out (i := 14) (v := .slice A n c) rfl
  have k9 := HB.cell B1.out (i := 9) (v := .string h.user) rfl
  have k10 := HB.cell B1.out (i := 10) (v := .string h.group) rfl
  have k11 := HB.cell B1.out (i := 11) (v := .int .i64 h.major) rfl
  have k12 := HB.cell B1.out (i := 12) (v := .int .i64 h.minor) rfl
  have k13 := HB.cell B1.out (i := 13) (v := .string h.pre) rfl
  have k6 := HB.cell B1.out (i := 6) (v := .int .u8 h.kind) rfl
  have k15 := HB.cell B1.out (i := 15) (v := .bool h.more) rfl
  clear B1
  go_enter Tryz.func31, Tryz.ntmps31
  go_upto_region 1 with fail
  generalize World.alloc w _ = W at *
  go_cut [27] from 4 to 26 (fun v wx => v = .bool (!M.f1 h) ∧ W = wx)
  case first =>
    go_wp2_with fail
    all_goals
      go_meet
      case rel =>
        refine ⟨congrArg Value.bool (not_eq ?_), rfl⟩
        rw [HF1.out]
        unfold M.maxSize
        simp only [Bool.or_eq_true, decide_eq_true_eq, true_iff]
        omega
  case rest =>
    obtain ⟨rfl, rfl⟩ := hcut
    cases hf1 : M.f1 h
    case true =>
      have HLE := hid (HF1.out.1 hf1)
      have HF1' := hid hf1
      clear hf1
      rw [show (!true) = false from rfl]
      go_upto_region 3 with fail
      go_cut [60] from 28 to 59 (fun v wx => v = .bool (!M.f2 h) ∧ W = wx)
      case first =>
        go_wp2_with fail
        all_goals
          go_meet
          case rel =>
            refine ⟨congrArg Value.bool (not_eq ?_), rfl⟩
            rw [HF2.out]
            simp only [blank_iff]
            simp [*]
      case rest =>
        obtain ⟨rfl, rfl⟩ := hcut
        clear k4 k9 k10 k11 k12 k13
        cases hf2 : M.f2 h
        case true =>
          have HF2' := hid hf2
          clear hf2
          rw [show (!true) = false from rfl]
          go_wp2_with fail
          go_loop [3] (fun i => ∃ k : Nat, i = .int .i64 k ∧ k ≤ n ∧ Hid (M.f3 (h.parts.take k) = true)) (fun i => n - (RowKit.intOf i).toNat)
          case atStart => exact ⟨0, rfl, Nat.zero_le _, hid rfl⟩
          case round =>
            obtain ⟨k, rfl, hk, HK⟩ := hrel
            by_cases hkn : k < n
            · obtain ⟨A', c', he, _, hcells⟩ := HP.out
              injection he with he1 he2 he3
              clear he2
              subst he1 he3
              obtain ⟨ba, oa, rfl, _, hca⟩ := hcells (by rw [HN.out]; omega)
              clear hcells
              obtain ⟨⟨p, q⟩, hpk⟩ : ∃ p, h.parts[k]? = some p := ⟨_, List.getElem?_eq_getElem (by rw [HN.out]; exact hkn)⟩
              obtain ⟨a0, a1⟩ := hca k _ hpk
              have HS := hid (f3_succ hpk)
              have HM := hid (List.mem_of_getElem? hpk)
              dsimp only at a0 a1
              rw [show 2 * k = k * 2 by omega] at a0 a1
              clear hca hpk
              by_cases h0 : p = 0 ∧ q = 0
              · obtain ⟨rfl, rfl⟩ := h0
                have HE := hid (show M.fits h = false by
                  unfold M.fits
                  rw [HF1'.out, HF2'.out, f3_no HM.out]
                  rfl)
                go_wp2_with fail
                go_ret
                exact ⟨(by rw [HE.out]; rfl), HW.out⟩
              · have HK2 := hid (show M.f3 (h.parts.take (k + 1)) = true by
                  rw [HS.out, HK.out, Bool.true_and, Bool.not_eq_true', Bool.and_eq_false_iff, beq_eq_false_iff_ne, beq_eq_false_iff_ne]
                  omega)
                have H0 := hid h0
                clear h0
                go_wp2_with fail
                all_goals first
                  | (go_round
                     case rel => exact ⟨k + 1, (by go_num), hkn, HK2⟩
                     case measure => simp [RowKit.intOf]; omega)
                  | (exfalso
                     rename_i hp0 hq0 _
                     exact H0.out ⟨hp0, beq_iff_eq.1 hq0⟩)
            · obtain rfl : k = n := by omega
              have HE := hid (show M.fits h = M.f4 h by
                unfold M.fits
                have := HK.out
                rw [List.take_of_length_le (by rw [HN.out]; exact Nat.le_refl _)] at this
                rw [HF1'.out, HF2'.out, this]
                rfl)
              go_wp2_with fail
              all_goals
                go_ret
                refine ⟨congrArg (fun b => Ending.returned (Value.bool b)) ?_, HW.out⟩
                rw [HE.out, Bool.eq_iff_iff, HF4.out]
                simp [*]
        case false =>
          have HE := hid (show M.fits h = false by
            unfold M.fits
            rw [HF1'.out, hf2]
            rfl)
          clear hf2
          rw [show (!false) = true from rfl]
          go_wp2
          go_ret
          exact ⟨(by rw [HE.out]; rfl), HW.out⟩
    case false =>
      have HE := hid (show M.fits h = false by
        unfold M.fits
        rw [hf1]
        rfl)
      clear hf1
      rw [show (!false) = true from rfl]
      go_wp2
      go_ret
      exact ⟨(by rw [HE.out]; rfl), HW.out⟩

end Go.Proofs.YtkpnhggpcpjddaaGreatDoor
