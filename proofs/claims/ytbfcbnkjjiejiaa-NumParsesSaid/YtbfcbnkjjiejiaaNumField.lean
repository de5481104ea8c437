/-
  The contract of the law's helper Field: bytes of the call's own, whatever they are; nothing that was there changes.
-/
import Derived.Test.YtbfcbnkjjiejiaaNumApp
namespace Go.Proofs.Ytbfcbnkjjiejiaa
open Go.RowKit Go.Lib
attribute [local go_sem ↓] slice_from slice_to

/-- A store into a row of the call's own. -/
theorem Own.stored {w : World} {base n g cap j : Nat} {zs : List Int} (h : Own w base (.slice (some ⟨g, 0, none⟩) n cap) n zs) (z : Int) (hz : 0 ≤ z ∧ z ≤ 255) :
    Own (w.setCell ⟨g, j, none⟩ (.int .u8 z)) base (.slice (some ⟨g, 0, none⟩) n cap) n (zs.set j z) := by
  refine ⟨?_, ?_⟩
  · have hs := (h.1.stored j (.int .u8 z)).1
    rw [List.map_set]
    exact hs
  · intro y hy
    rcases List.mem_or_eq_of_mem_set hy with hy | rfl
    · exact h.2 y hy
    · exact hz
theorem Own.at_ {w : World} {base n g cap j : Nat} {zs : List Int} (h : Own w base (.slice (some ⟨g, 0, none⟩) n cap) n zs) (hj : j < n) : ∃ z, w.cell? ⟨g, j, none⟩ = some (.int .u8 z) := by
  have hl := h.len
  have hc := h.1.cellAt j (by omega)
  rw [List.getElem?_map, List.getElem?_eq_getElem (by omega)] at hc
  exact ⟨_, hc⟩
theorem Own.frozen {w : World} {base n g cap : Nat} {zs : List Int} (h : Own w base (.slice (some ⟨g, 0, none⟩) n cap) n zs) (j : Nat) : w.frozen? ⟨g, j, none⟩ = false := h.1.frozenAt j
theorem Own.form {w : World} {base n : Nat} {v : Value} {zs : List Int} (h : Own w base v n zs) (hn : 0 < n) : ∃ g cap, v = .slice (some ⟨g, 0, none⟩) n cap ∧ base ≤ g ∧ g < w.heap.size := by
  obtain ⟨g, cap, e, hb, hlt⟩ := h.1.form hn
  exact ⟨g, cap, e, hb, hlt⟩

set_option maxHeartbeats 1600000 in
theorem field_any (A0 : Option Addr) (n0 c0 : Nat) (zs : List Int) (n : Int) (w : World) (hr : Rd w w.heap.size A0 n0 zs) (hn : n0 ≤ c0) (hc : c0 ≤ maxLen) (hk : 0 ≤ n ∧ n ≤ 255) :
    Calls Try.prog 15 #[.slice A0 n0 c0, .int .u8 n] w fun e w' =>
      ∃ A N c ls, e = .returned (.slice A N c) ∧ Rd w' w'.heap.size A N ls ∧ N ≤ c ∧ c ≤ maxLen ∧ Below w.heap.size w w' := by
  obtain ⟨hk0, hk1⟩ := hk
  have hm : n0 ≤ maxLen := Nat.le_trans hn hc
  unfold maxLen at hm
  go_enter Try.func15, Try.ntmps15
  go_wp2
  go_loopw [5, 6] (fun v i wr => ∃ k ls, k ≤ n0 ∧ k ≤ 24 ∧ i = .int .i64 (k : Nat) ∧ Own wr w.heap.size v k ls ∧ Below w.heap.size w wr) (fun _ i _ => 24 - (intOf i).toNat)
  case atStart => exact ⟨0, [], Nat.zero_le _, Nat.zero_le _, rfl, Own.nil _ _, Below.refl _ _⟩
  case round =>
    obtain ⟨k, ls, hkn, hk24, rfl, hown, hbel⟩ := hrel
    have hsz := hbel.size
    by_cases hgo : k < n0 ∧ k < 24
    · obtain ⟨hlt, hlt'⟩ := hgo
      obtain ⟨b, off, z, hA, hbB, hz0, hz1, hzk, hcell⟩ := (hr.below hbel).at_ hlt
      clear hzk
      rw [hA]
      by_cases h180 : z < 180
      case' pos =>
        go_wp2_with (at_builtin; refine wpList_app rfl (.tmp 31) (.tmp 38) rfl w.heap.size _ _ k _ rfl (hown.alloc _) _ 1 1 [_] rfl (Rd.lit _ 5 (0, 0) [48 + z % 8] (by simp; omega)) (by omega) (by simp; omega) ?_; intro v' w' hown' hbel')
      case' neg =>
        by_cases h210 : z < 210
        case' pos =>
          go_wp2_with (at_builtin; refine wpList_app rfl (.tmp 46) (.tmp 47) rfl w.heap.size _ _ k _ rfl (hown.alloc _) _ 1 1 [_] rfl (Rd.lit _ 5 (0, 0) [32] (by decide)) (by omega) (by simp; omega) ?_; intro v' w' hown' hbel')
        case' neg =>
          by_cases h235 : z < 235
          case' pos =>
            go_wp2_with (at_builtin; refine wpList_app rfl (.tmp 55) (.tmp 56) rfl w.heap.size _ _ k _ rfl (hown.alloc _) _ 1 1 [_] rfl (Rd.lit _ 5 (0, 0) [0] (by decide)) (by omega) (by simp; omega) ?_; intro v' w' hown' hbel')
          case' neg =>
            go_wp2_with (at_builtin; refine wpList_app rfl (.tmp 18) (.tmp 23) rfl w.heap.size _ _ k _ rfl (hown.alloc _) _ 1 1 [_] rfl (Rd.lit _ 5 (0, 0) [z] (by simp; omega)) (by omega) (by simp; omega) ?_; intro v' w' hown' hbel')
      all_goals
        go_roundw
        case rel => exact ⟨k + 1, _, by omega, by omega, by go_num, hown', hbel.trans ((Below.refl _ _).alloc hsz _ |>.trans hbel')⟩
        case measure => simp [intOf]; omega
    · by_cases hlt : k < n0
      case' pos => have e24 : decide ((k : Int) < 24) = false := by rw [decide_eq_false_iff_not]; omega
      all_goals
        clear hgo
        by_cases h4 : n % 4 = 0
        case' neg =>
          have e4 : (n % 4 == 0) = false := by simpa using h4
          go_wp2
          go_ret
          obtain ⟨A, c, rfl, h1, h2, h3⟩ := hown.rd
          exact ⟨A, k, c, ls, rfl, h1, h2, h3, hbel⟩
        have e4 : (n % 4 == 0) = true := by simpa using h4
        by_cases hk0 : 0 < k
        case' neg =>
          have ek : decide (0 < k) = false := by simpa using hk0
          have ek' : decide ((0 : Int) < (k : Int)) = false := by rw [decide_eq_false_iff_not]; omega
          obtain ⟨A, c, rfl, h1, h2, h3⟩ := hown.rd
          clear hown
          go_wp2
          go_ret
          exact ⟨A, k, c, ls, rfl, h1, h2, h3, hbel⟩
        have ek : decide (0 < k) = true := by simpa using hk0
        obtain ⟨g, cap, rfl, hbg, hlg⟩ := hown.form hk0
        obtain ⟨z0, hz0⟩ := hown.at_ (j := 0) hk0
        have hf0 := hown.frozen 0
        go_wp2
        have hown1 := hown.stored (j := 0) (128 + n / 4) ⟨by omega, by omega⟩
        have hbel1 : Below w.heap.size w (wr.setCell ⟨g, 0, none⟩ (.int .u8 (128 + n / 4))) := hbel.setCell hbg _
        clear hown hz0 hf0 hsz
        generalize wr.setCell ⟨g, 0, none⟩ (.int .u8 (128 + n / 4)) = wa at *
        go_loopw [7] (fun i wr2 => ∃ j ls2, 1 ≤ j ∧ j ≤ k ∧ i = .int .i64 (j : Nat) ∧ Own wr2 w.heap.size (.slice (some ⟨g, 0, none⟩) k cap) k ls2 ∧ Below w.heap.size w wr2) (fun i _ => k - (intOf i).toNat)
        case atStart => exact ⟨1, _, Nat.le_refl _, by omega, rfl, hown1, hbel1⟩
        case round =>
          obtain ⟨j, ls2, hj1, hjk, rfl, hown2, hbel2⟩ := hrel
          by_cases hjl : j < k
          · obtain ⟨b, off, z, hA, hbB, hz0, hz1, hzk, hcell⟩ := (hr.below hbel2).at_ (k := j) (by omega)
            clear hzk
            obtain ⟨y, hy⟩ := hown2.at_ hjl
            have hf := hown2.frozen j
            have hownB := hown2.stored (j := j) z ⟨hz0, hz1⟩
            have hbelB : Below w.heap.size w (World.setCell _ ⟨g, j, none⟩ (.int .u8 z)) := hbel2.setCell hbg _
            rw [hA]
            by_cases h8 : n % 8 = 0
            case' neg =>
              have e8 : (n % 8 == 0) = false := by simpa using h8
              go_wp2
              go_roundw
              case rel => exact ⟨j + 1, _, by omega, by omega, by go_num, hownB, hbelB⟩
              case measure => simp [intOf]; omega
            have e8 : (n % 8 == 0) = true := by simpa using h8
            by_cases h3 : (j : Int) < (k : Int) - 3
            case' neg =>
              have e3 : decide ((j : Int) < (k : Int) - 3) = false := by simpa using h3
              go_wp2
              go_roundw
              case rel => exact ⟨j + 1, _, by omega, by omega, by go_num, hownB, hbelB⟩
              case measure => simp [intOf]; omega
            have e3 : decide ((j : Int) < (k : Int) - 3) = true := by simpa using h3
            go_wp2
            go_roundw
            case rel => exact ⟨j + 1, _, by omega, by omega, by go_num, hownB.stored (j := j) _ ⟨by omega, by omega⟩, hbelB.setCell hbg _⟩
            case measure => simp [intOf]; omega
          · have hjk' : j = k := by omega
            subst hjk'
            clear hjl hjk
            go_wp2
            go_ret
            obtain ⟨A, c, e, h1, h2, h3⟩ := hown2.rd
            exact ⟨A, j, c, ls2, by rw [← e]; rfl, h1, h2, h3, hbel2⟩
end Go.Proofs.Ytbfcbnkjjiejiaa
