/-
  The document's Parts.
-/
import Derived.Test.YtkpnhggpcpjddaaGreatDoorHdParts
import Derived.Test.YtkpnhggpcpjddaaGreatDoorHdRef
import Derived.Deep.CutRange
set_option linter.unusedVariables false
set_option linter.unusedSimpArgs false
namespace Go.Proofs.YtkpnhggpcpjddaaGreatDoor
open Go.RowKit Go.Lib

theorem parN_most (zs : List Int) : parN zs ≤ M.most := by
  unfold parN
  split
  · unfold M.binN
    split
    · rename_i h
      unfold M.binOk at h
      rw [Bool.and_eq_true, Bool.and_eq_true, decide_eq_true_eq, decide_eq_true_eq] at h
      exact h.2.2
    · decide
  · unfold M.octN
    split
    · rename_i h
      unfold M.octOk at h
      rw [Bool.and_eq_true, decide_eq_true_eq] at h
      exact h.2
    · decide
theorem numOk_low (zs : List Int) (a : Nat) : M.numOk zs a 12 0 M.most = (M.parOk (M.sub zs a 12) && !decide (M.num zs a 12 < 0)) := by
  have h1 : decide (M.num zs a 12 ≤ M.most) = true := by rw [decide_eq_true_eq]; exact parN_most _
  unfold M.numOk
  rw [h1, Bool.and_true]
  congr 1
  by_cases h : 0 ≤ M.num zs a 12
  · have h2 : ¬ M.num zs a 12 < 0 := by omega
    simp [h, h2]
  · have h2 : M.num zs a 12 < 0 := by omega
    simp [h, h2]

theorem OwnP.nil' (w : World) (base : Nat) : OwnP w base (.slice none 0 0) [] := ⟨rfl, .inl ⟨rfl, rfl⟩⟩
/-- The rounds of the document's Parts: k are done. -/
def PartsAtR (w : World) (zs : List Int) (a0 n0 : Nat) (x i : Value) (wr : World) : Prop :=
  ∃ (k : Nat) (acc : List (Int × Int)) (A1 : Option Addr) (n1 c1 : Nat), i = .int .i64 k ∧ k ≤ n0 ∧ x = .slice A1 n1 c1 ∧ Hid (M.parts zs a0 n0 = (M.parts zs (a0 + 24 * k) (n0 - k)).map (acc ++ ·)) ∧ acc.length ≤ k ∧ Hid (OwnP wr w.heap.size (.slice A1 n1 c1) acc) ∧ Hid (Below w.heap.size w wr)

set_option maxRecDepth 100000 in
set_option maxHeartbeats 2000000 in
theorem refParts_any (A : Option Addr) (n c : Nat) (zs : List Int) (a m : Int) (w : World) (hr : Rd w w.heap.size A n zs) (hc : n ≤ c) (hcm : c ≤ maxLen) (hn : n ≤ 1000000) :
    Calls Tryz.prog 81 #[.slice A n c, .int .i64 a, .int .i64 m] w (PartsTo (M.parts zs (M.clip a 512) (M.clip m 21)) w) := by
  have e1 : (max 0 (min a 512) : Int) = ((M.clip a 512 : Nat) : Int) := by unfold M.clip; omega
  have e2 : (max 0 (min m 21) : Int) = ((M.clip m 21 : Nat) : Int) := by unfold M.clip; omega
  have h0 : M.clip a 512 ≤ 512 := by unfold M.clip; omega
  have h1 : M.clip m 21 ≤ 21 := by unfold M.clip; omega
  generalize M.clip a 512 = a0 at *
  generalize M.clip m 21 = n0 at *
  have HL := hid hr.len
  have HRd := hid (fun (W : World) (hW : Below w.heap.size w W) => hr.below hW)
  have HCM := hid hcm
  have E1 := hid e1
  have E2 := hid e2
  clear hcm e1 e2
  go_enter Tryz.func81, Tryz.ntmps81
  go_upto_region 1 with fail
  go_cut [1] from 15 to 17 (fun s1 wx => s1 = .int .i64 a0 ∧ w = wx)
  case first =>
    go_wp2_with fail
    all_goals
      go_meet
      case rel => exact ⟨congrArg (Value.int .i64) (by have := E1.out; omega), rfl⟩
  case rest =>
    obtain ⟨rfl, rfl⟩ := hcut
    go_upto_region 2 with fail
    go_cut [2] from 18 to 20 (fun s1 wx => s1 = .int .i64 n0 ∧ w = wx)
    case first =>
      go_wp2_with fail
      all_goals
        go_meet
        case rel => exact ⟨congrArg (Value.int .i64) (by have := E2.out; omega), rfl⟩
    case rest =>
      obtain ⟨rfl, rfl⟩ := hcut
      go_wp2_with fail
      go_loopw [8, 9] (fun x i wr => PartsAtR w zs a0 n0 x i wr) (fun _ i _ => n0 - (RowKit.intOf i).toNat)
      case atStart => exact ⟨0, [], none, 0, 0, rfl, Nat.zero_le _, rfl, hid (by simp), Nat.le_refl _, hid (OwnP.nil' _ _), hid (Below.refl _ _)⟩
      case round =>
        obtain ⟨k, acc, A1, n1, c1, rfl, hk, rfl, hpt, hacc, HO, HB⟩ := hrel
        by_cases hkn : k < n0
        · obtain ⟨r, hr1⟩ : ∃ r, n0 - k = r + 1 := ⟨n0 - k - 1, by omega⟩
          rw [hr1] at hpt
          have HK1 := hid (show a0 + 24 * k + 24 = a0 + 24 * (k + 1) ∧ r = n0 - (k + 1) by omega)
          have hx : a0 + 24 * k ≤ 1100 := by omega
          have f1 : IntKind.i64.wrap (24 * (k : Int)) = 24 * (k : Int) := IntWalk.i64_in _ (by omega)
          have f2 : IntKind.i64.wrap ((a0 : Int) + 24 * (k : Int)) = ((a0 + 24 * k : Nat) : Int) := by rw [IntWalk.i64_in _ (by omega)]; omega
          generalize a0 + 24 * k = x at *
          by_cases hl : zs.length < x + 24
          · have hno := hid (M.parts_short hpt.out hl)
            have e3 : decide ((n : Int) < (x : Int) + 24) = true := by rw [decide_eq_true_eq]; have := HL.out; omega
            go_wp2
            go_ret2
            rw [hno.out]
            exact ⟨rfl, HB.out⟩
          · have HLx := hid hl
            obtain ⟨b, off, rfl, _, _⟩ := hr.2.2 (by have := HL.out; omega)
            have hle : x + 24 ≤ n := by have := HL.out; omega
            have e3 : decide ((n : Int) < (x : Int) + 24) = false := by rw [decide_eq_false_iff_not]; omega
            have R1 := hid ((HRd.out wr HB.out).sub (a := x) (m := 12) (by omega))
            have R2 := hid ((HRd.out wr HB.out).sub (a := x + 12) (m := 12) (by omega))
            have HC1 := hid (show 12 ≤ c - x ∧ 12 ≤ c - (x + 12) ∧ c - x ≤ maxLen ∧ c - (x + 12) ≤ maxLen by have := HCM.out; omega)
            have g1 : ¬ (c = x) := by omega
            have g2 : ¬ (c = x + 12) := by omega
            have HZ := hid (M.parts_zero hpt.out hl)
            have HN := hid (M.parts_next hpt.out hl)
            have HBd := hid (M.parts_bad hpt.out hl)
            have k1 := numOk_low zs x
            have k2 := numOk_low zs (x + 12)
            have HKK := hid (⟨k1, k2⟩ : _ ∧ _)
            clear hl hr k1 k2 hpt
            go_wp2_with fail
            refine (show Calls Tryz.prog 61 #[.slice (some ⟨b, off + x, none⟩) 12 (c - x)] wr (fun e w' => e = .returned (.tuple #[.int .i64 (M.num zs x 12), .bool (M.parOk (M.sub zs x 12))]) ∧ wr = w') from parseRef_any (some ⟨b, off + x, none⟩) 12 (c - x) (M.sub zs x 12) _ _ R1.out HC1.out.1 HC1.out.2.2.1).mono ?_
            rintro e w1 ⟨rfl, rfl⟩
            go_wp2_with fail
            refine (show Calls Tryz.prog 61 #[.slice (some ⟨b, off + (x + 12), none⟩) 12 (c - (x + 12))] wr (fun e w' => e = .returned (.tuple #[.int .i64 (M.num zs (x + 12) 12), .bool (M.parOk (M.sub zs (x + 12) 12))]) ∧ wr = w') from parseRef_any (some ⟨b, off + (x + 12), none⟩) 12 (c - (x + 12)) (M.sub zs (x + 12) 12) _ _ R2.out HC1.out.2.1 HC1.out.2.2.2).mono ?_
            rintro e w1 ⟨rfl, rfl⟩
            have hk1 := HKK.out.1
            have hk2 := HKK.out.2
            have HZ2 := hid (fun h1 h2 => HZ.out h1 h2)
            have HN2 := hid (fun h1 h2 => HN.out h1 h2)
            have HB2 := hid (fun h1 => HBd.out h1)
            clear HKK HZ HN HBd R1 R2 HC1 g1 g2 e3
            generalize M.numOk zs x 12 0 M.most = q1 at *
            generalize M.numOk zs (x + 12) 12 0 M.most = q2 at *
            generalize M.parOk (M.sub zs x 12) = o1 at *
            generalize M.parOk (M.sub zs (x + 12) 12) = o2 at *
            generalize M.num zs x 12 = x1 at *
            generalize M.num zs (x + 12) 12 = y1 at *
            cases o1 with
            | false =>
              have hno := hid (HB2.out (by rw [hk1]; rfl))
              clear hk1 hk2
              go_wp2
              go_ret2
              rw [hno.out]
              exact ⟨rfl, HB.out⟩
            | true =>
              cases o2 with
              | false =>
                have hno := hid (HB2.out (by rw [hk2, Bool.false_and, Bool.and_false]))
                clear hk1 hk2
                go_wp2
                go_ret2
                rw [hno.out]
                exact ⟨rfl, HB.out⟩
              | true =>
                by_cases hx0 : x1 < 0
                · have hno := hid (HB2.out (by rw [hk1]; simp [hx0]))
                  clear hk1 hk2
                  go_wp2
                  go_ret2
                  rw [hno.out]
                  exact ⟨rfl, HB.out⟩
                · by_cases hy0 : y1 < 0
                  · have hno := hid (HB2.out (by rw [hk2]; simp [hy0]))
                    clear hk1 hk2
                    go_wp2
                    go_ret2
                    rw [hno.out]
                    exact ⟨rfl, HB.out⟩
                  · have hq : (q1 && q2) = true := by rw [hk1, hk2]; simp [hx0, hy0]
                    have HE := hid (HZ2.out hq)
                    have HY := hid (HN2.out hq)
                    clear hk1 hk2 HZ2 HN2 HB2 hq
                    by_cases hz : x1 = 0 ∧ y1 = 0
                    · obtain ⟨rfl, rfl⟩ := hz
                      have hE := hid (HE.out ⟨rfl, rfl⟩)
                      clear HE HY
                      go_wp2
                      go_ret2
                      rw [hE.out]
                      exact ⟨⟨_, rfl, HO.out.parts⟩, HB.out⟩
                    · have hY := hid (HY.out hz)
                      have hz2 : (x1 == 0 && y1 == 0) = false := by
                        rw [Bool.and_eq_false_iff, beq_eq_false_iff_ne, beq_eq_false_iff_ne]; omega
                      clear HE HY hz
                      by_cases hx1 : x1 = 0
                      case' pos =>
                        subst hx1
                        have t0 : (y1 == 0) = false := by simpa using hz2
                      case' neg => have t0 : (x1 == 0) = false := by simpa using hx1
                      all_goals
                        clear hz2
                        have hbs := HB.out.size
                        have hal : acc.length ≤ 1000000 := by omega
                        go_wp2_with (refine wpList_appP rfl (.tmp 75) (.tmp 79) rfl w.heap.size _ acc _ _ (by simp [Act.eval]) HO.out hbs (by simp [Act.eval]) hal ?_; intro v' w9 ho9 hb9; obtain ⟨A10, c10, hv10, _, _⟩ := ho9.out.parts; generalize List.length (acc ++ _) = n10 at hv10; subst hv10)
                        go_roundw
                        case rel => exact ⟨k + 1, _, A10, n10, c10, (by go_num), by omega, rfl, hid (by rw [hY.out, HK1.out.1, HK1.out.2]), by rw [List.length_append]; simp; omega, ho9, hid (HB.out.trans hb9.out)⟩
                        case measure => simp [RowKit.intOf]; omega
        · have hend := hid (show M.parts zs a0 n0 = some acc by
            rw [hpt.out, show n0 - k = 0 by omega]
            simp [M.parts])
          go_wp2
          go_ret2
          rw [hend.out]
          exact ⟨⟨_, rfl, HO.out.parts⟩, HB.out⟩
end Go.Proofs.YtkpnhggpcpjddaaGreatDoor
