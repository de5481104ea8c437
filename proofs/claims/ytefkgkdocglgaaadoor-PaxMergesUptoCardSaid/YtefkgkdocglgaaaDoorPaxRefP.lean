/-
  The document's Print.
-/
import Derived.Test.YtefkgkdocglgaaaDoorPaxPrint
namespace Go.Proofs.YtefkgkdocglgaaaDoor
open Go.RowKit Go.Shelf

theorem lineLen_le {r : R2} (h : r.1.size + r.2.size ≤ 10000000) : M.lineLen (rc r) ≤ 10000100 := by
  unfold M.lineLen
  have := M.wid_pos (M.body (rc r)).length
  have e : (M.body (rc r)).length = r.1.size + r.2.size + 3 := by rw [M.body_length]; rfl
  omega
theorem line_len {r : R2} (h : r.1.size + r.2.size ≤ 10000000) : (M.line (rc r)).length = M.lineLen (rc r) :=
  M.line_length (by rw [M.body_length]; show r.1.size + r.2.size + 3 + 8 < _; omega)

set_option maxRecDepth 100000 in
set_option maxHeartbeats 4000000 in
theorem refPrint_any (A : Option Addr) (c : Nat) (l : List R2) (hl : l.length ≤ 1000000) (hsh : Short l) (B : Nat) (w : World) (hB : B ≤ w.heap.size) (ht : TB B w) (h : RdR w w.heap.size A l) :
    Calls Tryd.prog 19 #[.slice A l.length c] w (PrintIs .i64 l w) := by
  have ht' : TB w.heap.size w := fun w' hb => ht w' (hb.mono hB)
  have HT := Lib.hid ht'
  have HSH := Lib.hid hsh
  have HR := Lib.hid h
  clear ht ht' hsh h
  go_enter Tryd.func19, Tryd.ntmps19
  go_wp2
  go_loopw [4, 5] (fun n i wr => ∃ k N : Nat, n = .int .i64 N ∧ i = .int .i64 k ∧ k ≤ l.length ∧ N = (M.lines (rcs (l.take k))).length ∧ N ≤ k * 10000100 ∧ allRight (l.take k) = true ∧ Below w.heap.size w wr) (fun _ i _ => l.length - (intOf i).toNat)
  case atStart => exact ⟨0, 0, rfl, rfl, Nat.zero_le _, by simp [rcs, M.lines], Nat.zero_le _, rfl, Below.refl _ _⟩
  case round =>
    obtain ⟨k, N, rfl, rfl, hk, hN, hNk, hall, hb⟩ := hrel
    have hbs := hb.size
    by_cases hlt : k < l.length
    · obtain ⟨b, off, rfl, hbb, hc1, hc2⟩ := HR.out.at_ hlt
      have hrs := HSH.out _ (List.getElem_mem hlt)
      have hnx := lines_take_succ hlt
      have hs := allRight_succ hlt hall
      have hn := allRight_no hlt
      obtain ⟨r, hr⟩ : ∃ r, l[k] = r := ⟨_, rfl⟩
      rw [hr] at hc1 hc2 hrs hnx hs hn
      have hlx : (M.lines (rcs (l.take (k + 1)))).length = N + M.lineLen (rc r) := by rw [hnx, List.length_append, line_len hrs, hN]
      have hle := lineLen_le hrs
      obtain ⟨LL, hLL⟩ : ∃ LL, M.lineLen (rc r) = LL := ⟨_, rfl⟩
      rw [hLL] at hlx hle
      have C1 := fun W => refRight_any' r.1 r.2 hrs W
      have C2 := fun W h1 h2 => refLine_any r hrs w.heap.size W h1 h2
      have hc1' := fun W (hW : Below w.heap.size w W) => (hW.cell (p := ⟨b, off + k * 2, none⟩) hbb).trans hc1
      have hc2' := fun W (hW : Below w.heap.size w W) => (hW.cell (p := ⟨b, off + k * 2 + 1, none⟩) hbb).trans hc2
      have HC1 := Lib.hid hc1'
      have HC2 := Lib.hid hc2'
      have HLX := Lib.hid hlx
      have HLL := Lib.hid hLL
      clear hr hN hnx hall hc1 hc2 hc1' hc2' hlx hLL
      cases hq : M.right (rc r) with
      | false =>
        have HE := Lib.hid (M.printE_34 (l := rcs l) (hn hq))
        have C1' : ∀ W, Calls Tryd.prog 31 #[.agg #[.string r.1, .string r.2]] W fun e w' => e = .returned (.bool false) ∧ Below W.heap.size W w' := by rw [← hq]; exact C1
        have HR1 := Lib.hid C1'
        have hd1 := HC1.out _ hb
        have hd2 := HC2.out _ hb
        clear hs hn hq C1 C1' C2
        by_cases h0 : k = 0
        case' pos =>
          subst h0
          simp only [Nat.zero_mul, Nat.add_zero] at hd1 hd2
          have g1 : (0 : Int) < (l.length : Int) := by omega
        case' neg =>
          have g1 : 0 < k := by omega
          clear h0
        all_goals
          go_wp2_with (go_at_call 31; refine (HR1.out _).mono ?_; rintro e w2 ⟨rfl, hb3⟩)
          go_ret2
          exact PrintIs.no HE.out (by decide) (hb.trans (hb3.mono hbs))
      | true =>
        have HS := Lib.hid (hs hq)
        have C1' : ∀ W, Calls Tryd.prog 31 #[.agg #[.string r.1, .string r.2]] W fun e w' => e = .returned (.bool true) ∧ Below W.heap.size W w' := by rw [← hq]; exact C1
        have HR1 := Lib.hid C1'
        have HR2 := Lib.hid C2
        have hd1 := HC1.out _ hb
        have hd2 := HC2.out _ hb
        clear hs hn hq C1 C1' C2
        by_cases h0 : k = 0
        case' pos =>
          subst h0
          simp only [Nat.zero_mul, Nat.add_zero] at hd1 hd2 HC1 HC2
          have g1 : (0 : Int) < (l.length : Int) := by omega
        case' neg =>
          have g1 : 0 < k := by omega
          clear h0
        all_goals
          go_wp2_with (go_at_call 31; refine (HR1.out _).mono ?_; rintro e w2 ⟨rfl, hb3⟩; refine Hid.out ?_)
          refine Lib.hid ?_
          have hb4 := hb.trans (hb3.mono hbs)
          have hx1 := HC1.out _ hb4
          have hx2 := HC2.out _ hb4
          clear hd1 hd2
          go_wp2_with (go_at_call 32; refine (HR2.out _ hb4.size (HT.out.on hb4)).mono ?_; rintro e w3 ⟨x, rfl, hx, hxs, hb5⟩; (have hxl1 : x.size ≤ LL := by rw [hxs, HLL.out]; exact Nat.le_refl _); (have HXS := Lib.hid hxs); clear hx hxs)
          go_roundw
          case rel =>
            refine ⟨_, N + x.size, by go_num, (show Value.int .i64 _ = Value.int .i64 ((_ + 1 : Nat) : Int) by go_num), by omega, ?_, by omega, HS.out, hb4.trans (hb5.mono hb4.size)⟩
            rw [HLX.out, HXS.out, HLL.out]
          case measure => simp [intOf]; omega
    · obtain rfl : k = l.length := by omega
      rw [List.take_length] at hN hall
      have HA := Lib.hid hall
      have HN := Lib.hid hN
      clear hall hN hlt
      by_cases hm : 1000 < l.length
      · have HE := Lib.hid (M.printE_3 (l := rcs l) HA.out (.inl (by rw [rcs_len]; exact hm)))
        go_wp2
        go_ret2
        exact PrintIs.no HE.out (by decide) hb
      · by_cases hbig : 1048576 < N
        · have HE := Lib.hid (M.printE_3 (l := rcs l) HA.out (.inr (by rw [← HN.out]; exact hbig)))
          have hm' : l.length ≤ 1000 := by omega
          clear hm
          go_wp2
          go_ret2
          exact PrintIs.no HE.out (by decide) hb
        · have HE := Lib.hid (M.printE_0 (l := rcs l) HA.out (by rw [rcs_len, ← HN.out]; omega))
          have hm' : l.length ≤ 1000 := by omega
          have hbig' : N ≤ 1048576 := by omega
          clear hm hbig
          go_wp2
          go_loopw [6, 7, 8] (fun v i _ wr => ∃ k : Nat, i = .int .i64 k ∧ k ≤ l.length ∧ OwnB wr w.heap.size v (M.lines (rcs (l.take k))) ∧ Below w.heap.size w wr) (fun _ i _ _ => l.length - (intOf i).toNat)
          case atStart => exact ⟨0, rfl, Nat.zero_le _, OwnB.nil _ _, hb⟩
          case round =>
            obtain ⟨k, rfl, hk, hown, hb⟩ := hrel
            have hbs := hb.size
            by_cases hlt : k < l.length
            · obtain ⟨b, off, rfl, hbb, hc1, hc2⟩ := (HR.out.below hb).at_ hlt
              have hrs := HSH.out _ (List.getElem_mem hlt)
              have hnx := lines_take_succ hlt
              have hle := lines_take_le (l := l) (k := k)
              rw [← HN.out] at hle
              obtain ⟨r, hr⟩ : ∃ r, l[k] = r := ⟨_, rfl⟩
              rw [hr] at hc1 hc2 hrs hnx
              obtain ⟨P, hP⟩ : ∃ P, M.lines (rcs (l.take k)) = P := ⟨_, rfl⟩
              rw [hP] at hown hnx hle
              have hLb := lineLen_le hrs
              have HC := Lib.hid (refLine_any r hrs w.heap.size wr hbs (HT.out.on hb))
              have HX := Lib.hid hnx
              have HO := Lib.hid hown
              clear hr hP hnx hown
              by_cases h0 : k = 0
              case' pos =>
                subst h0
                simp only [Nat.zero_mul, Nat.add_zero] at hc1 hc2
                have g1 : (0 : Int) < (l.length : Int) := by omega
              case' neg =>
                have g1 : 0 < k := by omega
                clear h0
              all_goals
                go_wp2_with (go_at_call 32; refine HC.out.mono ?_; rintro e w3 ⟨x, rfl, hx, hxs, hb5⟩; refine Hid.out ?_)
                refine Lib.hid ?_
                have hxs1 : x.size ≤ 10000100 := by rw [hxs]; exact hLb
                have hb6 := hb.trans (hb5.mono hbs)
                have o3 := HO.out.below hb5
                have HXX := Lib.hid hx
                clear hx hxs hc1 hc2
                go_wp2_with (at_builtin; refine wpList_appS rfl (.tmp 47) (.tmp 48) rfl w.heap.size _ P x rfl o3 hb6.size rfl (by omega) (by omega) ?_)
                intro v4 w4 P4 HP4 hn4 o4 hb7 hx4
                clear o3 hx4
                have hb8 := hb6.trans hb7
                clear hb7
                go_wp2
                go_roundw
                case rel => exact ⟨_, (show Value.int .i64 _ = Value.int .i64 ((_ + 1 : Nat) : Int) by go_num), by omega, by rw [HX.out, ← HXX.out, ← HP4.out]; exact o4, hb8⟩
                case measure => simp [intOf]; omega
            · obtain rfl : k = l.length := by omega
              rw [List.take_length] at hown
              have HO := Lib.hid hown
              clear hown hlt
              go_wp2
              go_ret2
              refine ⟨_, by rw [HE.out]; rfl, ?_, hb⟩
              rw [M.printB_0 HE.out]; exact HO.out
end Go.Proofs.YtefkgkdocglgaaaDoor
