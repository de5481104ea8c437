/-
  Are two lists of records the same; how much there is of some.
-/
import Derived.Test.YtefkgkdocglgaaaDoorPaxLists
import Derived.Test.YtefkgkdocglgaaaDoorPaxApp
import Derived.Laws.StructEq
import Derived.RegionTactic
import Derived.ChangeAlike
namespace Go.Proofs.YtefkgkdocglgaaaDoor
open Go.RowKit Go.Shelf

theorem take_same {l m : List R2} {k : Nat} (hl : k < l.length) (hm : k < m.length) (h : l.take k = m.take k) (h2 : l[k] = m[k]) : l.take (k + 1) = m.take (k + 1) := by
  rw [List.take_succ_eq_append_getElem hl, List.take_succ_eq_append_getElem hm, h, h2]

set_option maxRecDepth 100000 in
set_option maxHeartbeats 1000000 in
theorem same_any (A : Option Addr) (c : Nat) (l : List R2) (A' : Option Addr) (c' : Nat) (m : List R2) (hl : l.length ≤ 1000000) (hm : m.length ≤ 1000000) (B : Nat) (w : World) (h : RdR w B A l) (h' : RdR w B A' m) :
    Calls Tryd.prog 14 #[.slice A l.length c, .slice A' m.length c'] w fun e w' => e = .returned (.bool (decide (l = m))) ∧ Below w.heap.size w w' := by
  by_cases hlm : l.length = m.length
  · have HR := Lib.hid h
    have HR' := Lib.hid h'
    have hle1 : l.length ≤ m.length := by omega
    have hle2 : m.length ≤ l.length := by omega
    have HL := Lib.hid hlm
    have hb1 : ((l.length : Int) != (m.length : Int)) = false := by simp; omega
    have hb2 : (l.length != m.length) = false := by simp; omega
    clear h h' hlm
    go_enter Tryd.func14, Tryd.ntmps14
    go_wp2
    go_loopw [5] (fun i wr => ∃ k d : Nat, i = .int .i64 k ∧ k ≤ l.length ∧ l.take k = m.take k ∧ wr = w.drewN d) (fun i _ => l.length - (intOf i).toNat)
    case atStart => exact ⟨0, 0, rfl, Nat.zero_le _, rfl, rfl⟩
    case round =>
      obtain ⟨k, d, rfl, hk, htk, rfl⟩ := hrel
      have hbd := below_drewN' (Below.refl w.heap.size w) d
      by_cases hlt : k < l.length
      · have hlt' : k < m.length := by omega
        obtain ⟨b, off, rfl, hbb, c1, c2⟩ := HR.out.at_ hlt
        obtain ⟨b', off', rfl, hbb', c1', c2'⟩ := HR'.out.at_ hlt'
        have HS := Lib.hid (take_same hlt hlt' htk)
        have HK := Lib.hid htk
        clear htk
        obtain ⟨r, hr⟩ : ∃ r, l[k] = r := ⟨_, rfl⟩
        obtain ⟨q, hq⟩ : ∃ q, m[k] = q := ⟨_, rfl⟩
        rw [hr] at c1 c2 HS
        rw [hq] at c1' c2' HS
        by_cases he : r = q
        · subst he
          have HN := Lib.hid (HS.out rfl)
          clear HS hr hq
          by_cases h0 : k = 0
          case' pos =>
            subst h0
            simp only [Nat.zero_mul, Nat.add_zero] at c1 c2 c1' c2'
            have g1 : (0 : Int) < (l.length : Int) := by omega
            have g2 : (0 : Int) < (m.length : Int) := by omega
          case' neg =>
            have g1 : 0 < k := by omega
            clear h0
          all_goals
            go_wp2_with fail
            go_quiet (fail)
            go_wp2
            go_roundw
            case rel => exact ⟨_, d + nq, (show Value.int .i64 _ = Value.int .i64 ((_ + 1 : Nat) : Int) by go_num), by omega, HN.out, rfl⟩
            case measure => simp [intOf]; omega
        · have hne : l ≠ m := fun e => he (by subst e; rw [← hr, ← hq])
          have HE := Lib.hid hne
          obtain ⟨s, t⟩ := r
          obtain ⟨s', t'⟩ := q
          dsimp only at c1 c2 c1' c2'
          clear HS hr hq hne
          by_cases hs : s = s'
          · subst hs
            have ht : (t.toList == t'.toList) = false := by
              rw [beq_eq_false_iff_ne, tl_eq, tl_eq]
              exact fun e => he (by rw [tl_inj e])
            clear he
            by_cases h0 : k = 0
            case' pos =>
              subst h0
              simp only [Nat.zero_mul, Nat.add_zero] at c1 c2 c1' c2'
              have g1 : (0 : Int) < (l.length : Int) := by omega
              have g2 : (0 : Int) < (m.length : Int) := by omega
            case' neg =>
              have g1 : 0 < k := by omega
              clear h0
            all_goals
              go_wp2_with fail
              go_quiet (fail)
              go_wp2
              go_ret
              exact ⟨ret_bool (by rw [decide_eq_false HE.out]), below_drewN' hbd _⟩
          · have ht : (s.toList == s'.toList) = false := by
              rw [beq_eq_false_iff_ne, tl_eq, tl_eq]
              exact fun e => hs (tl_inj e)
            clear he hs
            by_cases h0 : k = 0
            case' pos =>
              subst h0
              simp only [Nat.zero_mul, Nat.add_zero] at c1 c2 c1' c2'
              have g1 : (0 : Int) < (l.length : Int) := by omega
              have g2 : (0 : Int) < (m.length : Int) := by omega
            case' neg =>
              have g1 : 0 < k := by omega
              clear h0
            all_goals
              go_wp2_with fail
              go_quiet (fail)
              go_wp2
              go_ret
              exact ⟨ret_bool (by rw [decide_eq_false HE.out]), below_drewN' hbd _⟩
      · obtain rfl : k = l.length := by omega
        have he : l = m := by
          rw [List.take_length, List.take_of_length_le (by omega)] at htk
          exact htk
        have HE := Lib.hid he
        clear htk hlt he
        go_wp2
        go_ret
        exact ⟨ret_bool (by rw [decide_eq_true HE.out]), hbd⟩
  · have hne : l ≠ m := fun e => hlm (by rw [e])
    have HE := Lib.hid hne
    have hb1 : ((l.length : Int) != (m.length : Int)) = true := by simp; omega
    have hb2 : (l.length != m.length) = true := by simp; omega
    clear h h' hne
    go_enter Tryd.func14, Tryd.ntmps14
    go_wp2
    go_ret
    exact ⟨ret_bool (by rw [decide_eq_false HE.out]), Below.refl _ _⟩

/-- How much there is of some records. -/
def amount (l : List R2) : Nat := l.length + (l.map fun r => r.1.size + r.2.size).sum
theorem amount_short {l : List R2} {n : Nat} (h : amount l ≤ n) : l.length ≤ n ∧ ∀ r ∈ l, r.1.size + r.2.size ≤ n := by
  refine ⟨by unfold amount at h; omega, fun r hr => ?_⟩
  have : r.1.size + r.2.size ≤ (l.map fun r => r.1.size + r.2.size).sum := by
    clear h
    induction l with
    | nil => cases hr
    | cons x l ih =>
      rw [List.map_cons, List.sum_cons]
      rcases List.mem_cons.1 hr with rfl | hr
      · omega
      · have := ih hr; omega
  unfold amount at h
  omega
def partSum (l : List R2) (k : Nat) : Nat := ((l.take k).map fun r => r.1.size + r.2.size).sum
theorem partSum_succ {l : List R2} {k : Nat} (hk : k < l.length) : partSum l (k + 1) = partSum l k + (l[k].1.size + l[k].2.size) := by
  unfold partSum
  rw [List.take_succ_eq_append_getElem hk, List.map_append, List.sum_append, List.map_cons, List.map_nil, List.sum_cons, List.sum_nil, Nat.add_zero]

set_option maxRecDepth 100000 in
set_option maxHeartbeats 1000000 in
theorem much_any (A : Option Addr) (c : Nat) (l : List R2) (ham : amount l ≤ 4611686018427387904) (B : Nat) (w : World) (h : RdR w B A l) :
    Calls Tryd.prog 17 #[.slice A l.length c] w fun e w' => e = .returned (.bool (decide (600 < amount l))) ∧ Below w.heap.size w w' := by
  have HR := Lib.hid h
  have hll : l.length ≤ 4611686018427387904 := by unfold amount at ham; omega
  have HAM := Lib.hid ham
  clear h ham
  go_enter Tryd.func17, Tryd.ntmps17
  go_wp2
  go_loopw [3, 4] (fun n i wr => ∃ k d N : Nat, n = .int .i64 N ∧ i = .int .i64 k ∧ k ≤ l.length ∧ N = l.length + partSum l k ∧ wr = w.drewN d) (fun _ i _ => l.length - (intOf i).toNat)
  case atStart => exact ⟨0, 0, l.length, rfl, rfl, Nat.zero_le _, by simp [partSum], rfl⟩
  case round =>
    obtain ⟨k, d, N, rfl, rfl, hk, hN, rfl⟩ := hrel
    have hbd := below_drewN' (Below.refl w.heap.size w) d
    by_cases hlt : k < l.length
    · obtain ⟨b, off, rfl, hbb, c1, c2⟩ := HR.out.at_ hlt
      have hs := partSum_succ hlt
      obtain ⟨r, hr⟩ : ∃ r, l[k] = r := ⟨_, rfl⟩
      rw [hr] at c1 c2 hs
      have hle : partSum l (k + 1) ≤ (l.map fun r => r.1.size + r.2.size).sum := by
        unfold partSum
        conv => rhs; rw [← List.take_append_drop (k + 1) l, List.map_append, List.sum_append]
        omega
      have hx : N + r.1.size + r.2.size ≤ 4611686018427387904 := by
        have := HAM.out
        unfold amount at this
        omega
      obtain ⟨s, t⟩ := r
      dsimp only at c1 c2 hx hs
      have HS := Lib.hid (show N + (s.size + t.size) = l.length + partSum l (k + 1) by omega)
      clear hs hN hle hr
      have E1 := IntWalk.i64_in ((s.size : Int) + (t.size : Int)) (by omega)
      have E2 := IntWalk.i64_in ((N : Int) + ((s.size : Int) + (t.size : Int))) (by omega)
      by_cases h0 : k = 0
      case' pos =>
        subst h0
        simp only [Nat.zero_mul, Nat.add_zero] at c1 c2
        have g1 : (0 : Int) < (l.length : Int) := by omega
      case' neg =>
        have g1 : 0 < k := by omega
        clear h0
      all_goals
        go_wp2_with fail
        go_quiet (fail)
        clear E1 E2
        go_wp2
        go_roundw
        case rel => exact ⟨_, d + nq, N + (s.size + t.size), by go_num, (show Value.int .i64 _ = Value.int .i64 ((_ + 1 : Nat) : Int) by go_num), by omega, HS.out, rfl⟩
        case measure => simp [intOf]; omega
    · obtain rfl : k = l.length := by omega
      have hfin : N = amount l := by rw [hN]; unfold partSum amount; rw [List.take_length]
      have hxx : N ≤ 4611686018427387904 := by rw [hfin]; exact HAM.out
      have HF := Lib.hid hfin
      clear hN hfin hlt
      by_cases hm : 600 < N
      · have hd : decide ((N : Int) > 600) = true := by rw [decide_eq_true_eq]; omega
        go_wp2
        go_ret
        exact ⟨ret_bool (by rw [← HF.out, decide_eq_true hm]), hbd⟩
      · have hd : decide ((N : Int) > 600) = false := by rw [decide_eq_false_iff_not]; omega
        go_wp2
        go_ret
        exact ⟨ret_bool (by rw [← HF.out, decide_eq_false hm]), hbd⟩
end Go.Proofs.YtefkgkdocglgaaaDoor
