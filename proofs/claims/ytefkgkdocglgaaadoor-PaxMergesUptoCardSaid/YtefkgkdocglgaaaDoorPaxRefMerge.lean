/-
  The document's Merge.
-/
import Derived.Test.YtefkgkdocglgaaaDoorPaxPut
import Derived.Test.YtefkgkdocglgaaaDoorPaxPrint
namespace Go.Proofs.YtefkgkdocglgaaaDoor
open Go.RowKit Go.Shelf

theorem puts_take {l : List R2} {k : Nat} (hk : k < l.length) (a : List M.Rc) : M.puts ltB a (rcs (l.take (k + 1))) = M.put ltB (M.puts ltB a (rcs (l.take k))) (rc l[k]) := by
  rw [take_rcs_succ hk, M.puts_app]; rfl

/-- Some records are L. -/
def AllAt (wr : World) (v : Value) (L : List M.Rc) (n : Nat) : Prop := ∃ A c rs, v = .slice A rs.length c ∧ RdR wr wr.heap.size A rs ∧ rcs rs = L ∧ rs.length ≤ n ∧ rs.length ≤ c

set_option maxRecDepth 100000 in
set_option maxHeartbeats 8000000 in
theorem refMerge_any (A1 : Option Addr) (c1 : Nat) (l : List R2) (A2 : Option Addr) (c2 : Nat) (m : List R2) (hl : l.length ≤ 400000) (hm : m.length ≤ 400000) (w : World) (h1 : RdR w w.heap.size A1 l) (h2 : RdR w w.heap.size A2 m) :
    Calls Tryd.prog 35 #[.slice A1 l.length c1, .slice A2 m.length c2] w (fun e w' => ∃ A c rs, e = .returned (.slice A rs.length c) ∧ RdR w' w'.heap.size A rs ∧ rs.length ≤ c ∧ c ≤ maxLen ∧ rcs rs = M.merge ltB (rcs l) (rcs m) ∧ rs.length ≤ l.length + m.length ∧ Below w.heap.size w w') := by
  have HR1 := Lib.hid h1
  have HR2 := Lib.hid h2
  clear h1 h2
  go_enter Tryd.func35, Tryd.ntmps35
  go_wp2
  go_loopw [6, 5] (fun i v wr => ∃ k : Nat, i = .int .i64 k ∧ k ≤ l.length ∧ Hid (AllAt wr v (M.puts ltB [] (rcs (l.take k))) k) ∧ Below w.heap.size w wr) (fun i _ _ => l.length - (intOf i).toNat)
  case atStart => exact ⟨0, rfl, Nat.zero_le _, Lib.hid ⟨none, 0, [], rfl, RdR.none_, rfl, Nat.le_refl _, Nat.le_refl _⟩, Below.refl _ _⟩
  case round =>
    obtain ⟨k, rfl, hk, hall, hb⟩ := hrel
    have hbs := hb.size
    by_cases hlt : k < l.length
    · obtain ⟨A, c, rs, rfl, hr, hrs, hn, hc⟩ := hall.out
      obtain ⟨b, off, rfl, hbb, hd1, hd2⟩ := (HR1.out.below hb).at_ hlt
      have hpt := puts_take hlt []
      obtain ⟨⟨s, t⟩, hr0⟩ : ∃ r, l[k] = r := ⟨_, rfl⟩
      rw [hr0] at hd1 hd2 hpt
      dsimp only at hd1 hd2
      rw [← hrs] at hpt
      have HPT := Lib.hid hpt
      have HC := Lib.hid (put_any A c rs s t (by omega) hc wr hr)
      clear hall hr hrs hr0 hpt
      by_cases hk0 : k = 0
      case' pos =>
        subst hk0
        simp only [Nat.zero_mul, Nat.add_zero] at hd1 hd2
        have g1 : (0 : Int) < (l.length : Int) := by omega
      case' neg =>
        have hk1 : 0 < k := by omega
        clear hk0
      all_goals
        go_wp2_with fail
        refine HC.out.mono ?_
        rintro e w1 ⟨A', c', rs', rfl, hp', hr', hn', hc', hb'⟩
        have b1 := hb.trans (hb'.mono hbs)
        have HN := Lib.hid (show AllAt w1 (.slice A' rs'.length c') (M.puts ltB [] (rcs (l.take (_ + 1)))) (_ + 1) from ⟨A', c', rs', rfl, hr', by rw [hp'.out]; exact HPT.out.symm, Nat.le_trans hn' (Nat.add_le_add_right hn 1), hc'⟩)
        clear hr' hp' hb' hn'
        go_wp2
        go_roundw
        case rel => exact ⟨_, (show Value.int .i64 _ = Value.int .i64 ((_ + 1 : Nat) : Int) by go_num), by omega, HN, b1⟩
        case measure => simp [intOf]; omega
    · have hke : k = l.length := by omega
      subst hke
      have HA := Lib.hid (show AllAt wr u5 (M.puts ltB [] (rcs l)) l.length by have := hall.out; rwa [List.take_length] at this)
      have b2 := hb
      clear hall hb hbs hlt hk
      go_wp2
      go_loopw [7, 5] (fun i v wr => ∃ k : Nat, i = .int .i64 k ∧ k ≤ m.length ∧ Hid (AllAt wr v (M.puts ltB (M.puts ltB [] (rcs l)) (rcs (m.take k))) (l.length + k)) ∧ Below w.heap.size w wr) (fun i _ _ => m.length - (intOf i).toNat)
      case atStart => exact ⟨0, rfl, Nat.zero_le _, HA, b2⟩
      case round =>
        obtain ⟨k, rfl, hk, hall, hb⟩ := hrel
        have hbs := hb.size
        by_cases hlt : k < m.length
        · obtain ⟨A, c, rs, rfl, hr, hrs, hn, hc⟩ := hall.out
          obtain ⟨b, off, rfl, hbb, hd1, hd2⟩ := (HR2.out.below hb).at_ hlt
          have hpt := puts_take hlt (M.puts ltB [] (rcs l))
          obtain ⟨⟨s, t⟩, hr0⟩ : ∃ r, m[k] = r := ⟨_, rfl⟩
          rw [hr0] at hd1 hd2 hpt
          dsimp only at hd1 hd2
          rw [← hrs] at hpt
          have HPT := Lib.hid hpt
          have HC := Lib.hid (put_any A c rs s t (by omega) hc _ hr)
          have HNN := Lib.hid hn
          clear hall hr hrs hr0 hpt hn
          by_cases hk0 : k = 0
          case' pos =>
            subst hk0
            simp only [Nat.zero_mul, Nat.add_zero] at hd1 hd2
            have g1 : (0 : Int) < (m.length : Int) := by omega
          case' neg =>
            have hk1 : 0 < k := by omega
            clear hk0
          all_goals
            go_wp2_with fail
            refine HC.out.mono ?_
            rintro e w1 ⟨A', c', rs', rfl, hp', hr', hn', hc', hb'⟩
            have b1 := hb.trans (hb'.mono hbs)
            have HN := Lib.hid (show AllAt w1 (.slice A' rs'.length c') (M.puts ltB (M.puts ltB [] (rcs l)) (rcs (m.take (_ + 1)))) (l.length + (_ + 1)) from ⟨A', c', rs', rfl, hr', by rw [hp'.out]; exact HPT.out.symm, Nat.le_trans hn' (Nat.add_le_add_right HNN.out 1), hc'⟩)
            clear hr' hp' hb' hn'
            go_wp2
            go_roundw
            case rel => exact ⟨_, (show Value.int .i64 _ = Value.int .i64 ((_ + 1 : Nat) : Int) by go_num), by omega, HN, b1⟩
            case measure => simp [intOf]; omega
        · have hke : k = m.length := by omega
          subst hke
          obtain ⟨A, c, all, rfl, hr, hrs, hn, hc⟩ := hall.out
          have HALL := Lib.hid (show rcs all = M.puts ltB (M.puts ltB [] (rcs l)) (rcs m) by rw [List.take_length] at hrs; exact hrs)
          have HRA := Lib.hid hr
          have b3 := hb
          have s3 := hbs
          clear hall hb hbs hlt hk hr hrs hc HA b2
          go_wp2
          go_loopw [9, 8] (fun i v wy => ∃ (k : Nat) (rs : List R2), i = .int .i64 k ∧ k ≤ all.length ∧ Hid (OwnR wy (World.heap wr).size v rs) ∧ Hid (rcs rs = ((rcs all).take k).filter M.hasValue) ∧ rs.length ≤ k ∧ Below (World.heap wr).size wr wy) (fun i _ _ => all.length - (intOf i).toNat)
          case atStart => exact ⟨0, [], rfl, Nat.zero_le _, Lib.hid (OwnR.nil _ _), Lib.hid rfl, Nat.zero_le _, Below.refl _ _⟩
          case round =>
            obtain ⟨k, rs, rfl, hk, hown, hrs, hrk, hb⟩ := hrel
            have hbs := hb.size
            by_cases hlt : k < all.length
            · obtain ⟨b, off, rfl, hbb, hd1, hd2⟩ := (HRA.out.below hb).at_ hlt
              have hkl : k < (rcs all).length := by rw [rcs_len]; exact hlt
              have htk : ((rcs all).take (k + 1)).filter M.hasValue = rcs rs ++ (if M.hasValue (rc all[k]) = true then [rc all[k]] else []) := by
                rw [List.take_succ_eq_append_getElem hkl, List.filter_append, ← hrs.out]
                congr 1
                have e : (rcs all)[k] = rc all[k] := by simp [rcs]
                rw [e]
                cases hv : M.hasValue (rc all[k]) <;> simp [hv]
              obtain ⟨⟨s, t⟩, hr0⟩ : ∃ r, all[k] = r := ⟨_, rfl⟩
              rw [hr0] at hd1 hd2 htk
              dsimp only at hd1 hd2
              have hvt : M.hasValue (rc (s, t)) = !t.toList.isEmpty := by rw [tl_eq]; rfl
              rw [hvt] at htk
              have HTK := Lib.hid htk
              have hk9 : rs.length ≤ 100000000 := by omega
              clear htk hvt hr0 hrs hkl
              cases hE : t.toList.isEmpty with
              | true =>
                have hE2 : (!t.toList.isEmpty) = false := by rw [hE]; rfl
                have HN := Lib.hid (show rcs rs = ((rcs all).take (k + 1)).filter M.hasValue by rw [HTK.out, hE2]; simp)
                clear HTK hE
                by_cases hk0 : k = 0
                case' pos =>
                  subst hk0
                  simp only [Nat.zero_mul, Nat.add_zero] at hd1 hd2
                  have g1 : (0 : Int) < (all.length : Int) := by omega
                case' neg =>
                  have hk1 : 0 < k := by omega
                  clear hk0
                all_goals
                  go_wp2
                  go_roundw
                  case rel => exact ⟨_, rs, (show Value.int .i64 _ = Value.int .i64 ((_ + 1 : Nat) : Int) by go_num), by omega, hown, HN, by omega, hb⟩
                  case measure => simp [intOf]; omega
              | false =>
                have hE2 : (!t.toList.isEmpty) = true := by rw [hE]; rfl
                have HN := Lib.hid (show ((rcs all).take (k + 1)).filter M.hasValue = rcs (rs ++ [(s, t)]) by rw [HTK.out, hE2, rcs_app]; rfl)
                clear HTK hE
                by_cases hk0 : k = 0
                case' pos =>
                  subst hk0
                  simp only [Nat.zero_mul, Nat.add_zero] at hd1 hd2
                  have g1 : (0 : Int) < (all.length : Int) := by omega
                case' neg =>
                  have hk1 : 0 < k := by omega
                  clear hk0
                all_goals
                  go_wp2_with (at_builtin; refine wpList_appR rfl (.tmp 46) (.tmp 51) rfl _ u8 rs (s, t) rfl rfl rfl hown.out hbs rfl hk9 ?_)
                  intro v6 w6 rs' HRS' hn6 o6 hb7 _
                  have b6 := hb.trans hb7
                  have HN2 := Lib.hid ((congrArg rcs HRS'.out).trans HN.out.symm)
                  have HO6 := Lib.hid o6
                  clear hb7 HRS' o6
                  go_wp2
                  go_roundw
                  case rel => exact ⟨_, rs', (show Value.int .i64 _ = Value.int .i64 ((_ + 1 : Nat) : Int) by go_num), by omega, HO6, HN2, by omega, b6⟩
                  case measure => simp [intOf]; omega
            · have hke : k = all.length := by omega
              subst hke
              have HRS := Lib.hid (show rcs rs = M.merge ltB (rcs l) (rcs m) by
                have := hrs.out
                rw [← rcs_len, List.take_length, HALL.out] at this
                exact this)
              obtain ⟨A7, c7, rfl, hr7, hc7, hm7⟩ := hown.out.rd
              have HR7 := Lib.hid hr7
              clear hown hr7 hrs hlt hk
              go_wp2
              go_ret
              exact ⟨A7, c7, rs, rfl, HR7.out, hc7, hm7, HRS.out, by omega, b3.trans (hb.mono s3)⟩
end Go.Proofs.YtefkgkdocglgaaaDoor
