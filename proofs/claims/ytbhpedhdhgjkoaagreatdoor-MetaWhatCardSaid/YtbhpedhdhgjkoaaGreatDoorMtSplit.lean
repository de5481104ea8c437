/-
  A name, and what stands ahead of it.
-/
import Derived.Test.YtbhpedhdhgjkoaaGreatDoorMtText
import Derived.Deep.QuietTactic
set_option linter.unusedVariables false
set_option linter.unusedSimpArgs false
namespace Go.Proofs.YtbhpedhdhgjkoaaGreatDoor
open Go.RowKit Go.Lib
open Px (R2 tl)

namespace M
theorem cutPlace_at {l : List UInt8} {k : Nat} (h : cutsAt l k = true) (hk : k < l.length) (hn : ∀ j, j < k → cutsAt l j = false) : cutPlace l = some k := by
  unfold cutPlace
  rw [List.find?_range_eq_some]
  exact ⟨h, List.mem_range.2 hk, fun j hj => by rw [hn j hj]; rfl⟩
theorem cutPlace_no {l : List UInt8} (hn : ∀ j, cutsAt l j = false) : cutPlace l = none := by
  unfold cutPlace
  rw [List.find?_eq_none]
  intro j _
  rw [hn j]; simp
end M
/-- What Split answers. -/
def splitV (s : ByteArray) : Value := .tuple #[.string (M.split s).1, .string (M.split s).2.1, .bool (M.split s).2.2]
theorem split_short {s : ByteArray} (h : s.size ≤ 100) : splitV s = .tuple #[.string ⟨#[]⟩, .string s, .bool true] := by
  unfold splitV M.split
  rw [if_pos h]
theorem split_at {s : ByteArray} {k : Nat} (h : 100 < s.size) (hc : M.cutPlace (tl s) = some k) : splitV s = .tuple #[.string (s.extract 0 k), .string (s.extract (k + 1) s.size), .bool true] := by
  unfold splitV M.split
  rw [if_neg (by omega), hc]
theorem split_no {s : ByteArray} (h : 100 < s.size) (hc : M.cutPlace (tl s) = none) : splitV s = .tuple #[.string ⟨#[]⟩, .string (s.extract 0 100), .bool false] := by
  unfold splitV M.split
  rw [if_neg (by omega), hc]
theorem ret_val {a b : Value} (h : a = b) : Ending.returned a = .returned b := by rw [h]
theorem at_tl (s : ByteArray) (k : Nat) (h : k < s.size) : (tl s)[k]? = some (s[k]'h) := List.getElem?_eq_getElem (l := tl s) (i := k) h
set_option maxRecDepth 100000 in
set_option maxHeartbeats 1000000 in
theorem split_any (s : ByteArray) (hs : s.size ≤ 1000000) (w : World) : Calls Tryz.prog 66 #[.string s] w fun e w' => e = .returned (splitV s) ∧ Below w.heap.size w w' := by
  by_cases h1 : s.size ≤ 100
  · have d1 : decide ((s.size : Int) ≤ 100) = true := by rw [decide_eq_true_eq]; omega
    have HE := hid (split_short h1)
    clear h1
    go_enter Tryz.func66, Tryz.ntmps66
    go_wp2
    go_ret3
    exact ⟨ret_val HE.out.symm, Below.refl _ _⟩
  · have d1 : decide ((s.size : Int) ≤ 100) = false := by rw [decide_eq_false_iff_not]; omega
    have hw1 : IntKind.i64.wrap ((s.size : Int) - 100) = (s.size : Int) - 100 := IntWalk.i64_in _ (by omega)
    have hw2 : IntKind.i64.wrap ((s.size : Int) - 100 - 1) = ((s.size - 101 : Nat) : Int) := by
      have := IntWalk.i64_in ((s.size : Int) - 100 - 1) (by omega)
      rw [this]; omega
    have hw3 : IntKind.i64.wrap ((s.size : Int) - 1) = (s.size : Int) - 1 := IntWalk.i64_in _ (by omega)
    have H100 := hid (show 100 < s.size by omega)
    clear h1
    have hlen : (tl s).length = s.size := rfl
    go_enter Tryz.func66, Tryz.ntmps66
    go_wp2
    go_loopw [5] (fun iv wr => ∃ (k : Nat), iv = .int .i64 k ∧ k ≤ s.size ∧ Hid (s.size ≤ k + 101) ∧ Hid (∀ j, j < k → M.cutsAt (tl s) j = false) ∧ Hid (Below w.heap.size w wr)) (fun iv _ => s.size - (intOf iv).toNat)
    case atStart =>
      refine ⟨s.size - 101, rfl, by omega, hid (by omega), hid ?_, hid (Below.refl _ _)⟩
      intro j hj
      unfold M.cutsAt
      have : decide ((tl s).length ≤ j + 101) = false := by rw [decide_eq_false_iff_not, hlen]; omega
      rw [this, Bool.and_false]
    case round =>
      obtain ⟨k, rfl, hk, HL, HN, HB⟩ := hrel
      have HL2 := hid (show s.size ≤ k + 1 + 101 from Nat.le_trans HL.out (by omega))
      clear hw1 hw2
      by_cases hgo : k ≤ 155 ∧ k + 1 < s.size
      · have e1 : decide ((k : Int) ≤ 155) = true := by rw [decide_eq_true_eq]; omega
        have e2 : decide ((k : Int) < (s.size : Int) - 1) = true := by rw [decide_eq_true_eq]; omega
        have hks : k < s.size := by omega
        by_cases h0 : 0 < k
        · have e3 : decide ((k : Int) > 0) = true := by rw [decide_eq_true_eq]; omega
          have hnx := IntWalk.i64_in ((k : Int) + 1) (by omega)
          go_wp2_with fail
          · rename_i h47 K9 a9
            have hc : M.cutsAt (tl s) k = true := by
              unfold M.cutsAt
              have h47' : s[k].toNat = 47 := by
                have := eq_of_beq h47
                omega
              rw [at_tl s k hks, show s[k] = 47 from UInt8.toNat_inj.1 h47', hlen]
              simp only [Bool.and_eq_true, decide_eq_true_eq]
              refine ⟨⟨⟨⟨by rfl, h0⟩, hgo.1⟩, by omega⟩, ?_⟩
              exact HL.out
            have HE := hid (split_at H100.out (M.cutPlace_at hc (by rw [hlen]; exact hks) HN.out))
            clear h47 hc HL
            go_quiet (fail)
            go_wp2
            go_ret3
            exact ⟨ret_val HE.out.symm, Px.below_drewN' HB.out _⟩
          · rename_i h47
            have HN2 := hid (show ∀ j, j < k + 1 → M.cutsAt (tl s) j = false from fun j hj => by
              by_cases e : j = k
              · subst e
                unfold M.cutsAt
                rw [at_tl s j hks]
                have : (some s[j] == some (47 : UInt8)) = false := by
                  rw [beq_eq_false_iff_ne]
                  intro h
                  rw [Option.some.injEq] at h
                  rw [h] at h47
                  simp at h47
                rw [this]; rfl
              · exact HN.out j (by omega))
            clear h47
            go_roundw
            case rel => exact ⟨k + 1, by go_num, by omega, HL2, HN2, HB⟩
            case measure => simp [intOf]; omega
        · obtain rfl : k = 0 := by omega
          have e3 : decide (((0 : Nat) : Int) > 0) = false := by decide
          have HN2 := hid (show ∀ j, j < 0 + 1 → M.cutsAt (tl s) j = false from fun j hj => by
            obtain rfl : j = 0 := by omega
            unfold M.cutsAt
            simp)
          go_wp2_with fail
          go_roundw
          case rel => exact ⟨1, by go_num, by omega, HL2, HN2, HB⟩
          case measure => simp [intOf]; omega
      · have HNO := hid (show ∀ j, M.cutsAt (tl s) j = false from fun j => by
          by_cases hj : j < k
          · exact HN.out j hj
          · unfold M.cutsAt
            rw [hlen]
            by_cases h5 : k ≤ 155
            · have : decide (j + 2 ≤ s.size) = false := by rw [decide_eq_false_iff_not]; omega
              rw [this]; simp
            · have : decide (j ≤ 155) = false := by rw [decide_eq_false_iff_not]; omega
              rw [this]; simp)
        have HE := hid (split_no H100.out (M.cutPlace_no HNO.out))
        clear HNO HN
        by_cases h5 : k ≤ 155
        · have e1 : decide ((k : Int) ≤ 155) = true := by rw [decide_eq_true_eq]; omega
          have e2 : decide ((k : Int) < (s.size : Int) - 1) = false := by rw [decide_eq_false_iff_not]; omega
          have h100 := H100.out
          clear hgo h5
          go_wp2_with fail
          go_quiet (fail)
          go_wp2
          go_ret3
          exact ⟨ret_val HE.out.symm, Px.below_drewN' HB.out _⟩
        · have e1 : decide ((k : Int) ≤ 155) = false := by rw [decide_eq_false_iff_not]; omega
          have h100 := H100.out
          clear hgo h5
          go_wp2_with fail
          go_quiet (fail)
          go_wp2
          go_ret3
          exact ⟨ret_val HE.out.symm, Px.below_drewN' HB.out _⟩
end Go.Proofs.YtbhpedhdhgjkoaaGreatDoor
