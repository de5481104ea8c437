/-
  Split of any text, and Same of any two, are what the chapter says.
-/
import Derived.Test.YtbpangofobkmfaaGreatDoorMtSplit
import Derived.Test.YtbpangofobkmfaaGreatDoorMtKeys
import Derived.Deep.CutRange
import Derived.IntWalk
import Derived.Test.YtbpangofobkmfaaGreatDoorMtExtra
import Derived.Test.YtbpangofobkmfaaGreatDoorKX
import Derived.Test.YtbpangofobkmfaaGreatDoorKS
import Derived.Test.YtbpangofobkmfaaGreatDoorMtBox
import Derived.Laws.StructEq
import Derived.Test.YtbpangofobkmfaaGreatDoorMtKnown
import Derived.Test.YtbpangofobkmfaaGreatDoorMtQuiet
set_option linter.unusedVariables false
set_option linter.unusedSimpArgs false
/-! A name, and what stands ahead of it: the document's answer; both are the same. -/
namespace Go.Proofs.YtbpangofobkmfaaGreatDoor
open Go.RowKit Go.Lib
open Px (R2 tl)

theorem cuts_eq (s : ByteArray) (k : Nat) (h : k < s.size) : M.cutsAt (tl s) k = (((s[k].toNat : Int) == 47) && (decide ((k : Int) ≥ 1) && (decide ((k : Int) ≤ 155) && (decide ((s.size : Int) - k - 1 ≥ 1) && decide ((s.size : Int) - k - 1 ≤ 100))))) := by
  have hlen : (tl s).length = s.size := rfl
  unfold M.cutsAt
  rw [at_tl s k h, hlen]
  have e1 : (some s[k] == some (47 : UInt8)) = ((s[k].toNat : Int) == 47) := by
    rw [Bool.eq_iff_iff, beq_iff_eq, beq_iff_eq, Option.some.injEq]
    constructor
    · intro h; rw [h]; rfl
    · intro h; exact UInt8.toNat_inj.1 (by have : s[k].toNat = 47 := by omega
                                           rw [this]; rfl)
  have e2 : decide (1 ≤ k) = decide ((k : Int) ≥ 1) := by rw [decide_eq_decide]; omega
  have e3 : decide (k ≤ 155) = decide ((k : Int) ≤ 155) := by rw [decide_eq_decide]; omega
  have e4 : decide (k + 2 ≤ s.size) = decide ((s.size : Int) - k - 1 ≥ 1) := by rw [decide_eq_decide]; omega
  have e5 : decide (s.size ≤ k + 101) = decide ((s.size : Int) - k - 1 ≤ 100) := by rw [decide_eq_decide]; omega
  rw [e1, e2, e3, e4, e5, Bool.and_assoc, Bool.and_assoc, Bool.and_assoc]

set_option maxRecDepth 100000 in
set_option maxHeartbeats 1000000 in
theorem refSplit_any (s : ByteArray) (hs : s.size ≤ 1000000) (w : World) : Calls Tryz.prog 32 #[.string s] w fun e w' => e = .returned (splitV s) ∧ Below w.heap.size w w' := by
  by_cases h1 : s.size ≤ 100
  · have d1 : decide ((s.size : Int) ≤ 100) = true := by rw [decide_eq_true_eq]; omega
    have HE := hid (split_short h1)
    clear h1
    go_enter Tryz.func32, Tryz.ntmps32
    go_wp2
    go_ret3
    exact ⟨ret_val HE.out.symm, Below.refl _ _⟩
  · have d1 : decide ((s.size : Int) ≤ 100) = false := by rw [decide_eq_false_iff_not]; omega
    have H100 := hid (show 100 < s.size by omega)
    clear h1
    have hlen : (tl s).length = s.size := rfl
    go_enter Tryz.func32, Tryz.ntmps32
    go_wp2
    go_loopw [5] (fun iv wr => ∃ (k : Nat), iv = .int .i64 k ∧ k ≤ s.size ∧ Hid (∀ j, j < k → M.cutsAt (tl s) j = false) ∧ Hid (Below w.heap.size w wr)) (fun iv _ => s.size - (intOf iv).toNat)
    case atStart => exact ⟨0, rfl, by omega, hid (fun j hj => absurd hj (by omega)), hid (Below.refl _ _)⟩
    case round =>
      obtain ⟨k, rfl, hk, HN, HB⟩ := hrel
      by_cases hlt : k < s.size
      · have hw1 : IntKind.i64.wrap ((s.size : Int) - k) = (s.size : Int) - k := IntWalk.i64_in _ (by omega)
        have hw2 : IntKind.i64.wrap ((s.size : Int) - k - 1) = (s.size : Int) - k - 1 := IntWalk.i64_in _ (by omega)
        go_upto_region 6 with fail
        go_cut [43] from 16 to 43 (fun v wx => v = .bool (M.cutsAt (tl s) k) ∧ wr = wx)
        case first =>
          have HE := hid (cuts_eq s k hlt)
          go_wp2
          all_goals
            go_meet
            case rel =>
              refine ⟨?_, rfl⟩
              rw [HE.out]
              first
                | (simp [*]; done)
                | (simp_all; done)
                | (simp_all; omega)
                | (simp [*]; omega)
        obtain ⟨rfl, rfl⟩ := hcut
        cases hc : M.cutsAt (tl s) k with
        | true =>
          have HE := hid (split_at H100.out (M.cutPlace_at hc (by rw [hlen]; exact hlt) HN.out))
          have hnx := IntWalk.i64_in ((k : Int) + 1) (by omega)
          clear hc HN hw1 hw2
          go_wp2_with fail
          go_quiet (fail)
          go_wp2
          go_ret3
          exact ⟨ret_val HE.out.symm, Px.below_drewN' HB.out _⟩
        | false =>
          have HN2 := hid (show ∀ j, j < k + 1 → M.cutsAt (tl s) j = false from fun j hj => by
            by_cases e : j = k
            · subst e; exact hc
            · exact HN.out j (by omega))
          clear hc HN hw1 hw2
          go_wp2_with fail
          go_roundw
          case rel => exact ⟨k + 1, by go_num, by omega, HN2, HB⟩
          case measure => simp [intOf]; omega
      · obtain rfl : k = s.size := by omega
        have HE := hid (split_no H100.out (M.cutPlace_no (fun j => by
          by_cases hj : j < s.size
          · exact HN.out j hj
          · unfold M.cutsAt
            have : (tl s)[j]? = none := List.getElem?_eq_none (by rw [hlen]; omega)
            rw [this]; rfl)))
        have h100 := H100.out
        clear HN
        go_wp2_with fail
        go_quiet (fail)
        go_wp2
        go_ret3
        exact ⟨ret_val HE.out.symm, Px.below_drewN' HB.out _⟩

set_option maxRecDepth 100000 in
set_option maxHeartbeats 1000000 in
theorem splits_any (s : ByteArray) (hs : s.size ≤ 1000000) (w : World) : Calls Tryz.prog 13 #[.string s] w fun e w' => e = .returned (.bool true) ∧ Below w.heap.size w w' := by
  have H1 := hid (fun W => split_any s hs W)
  have H2 := hid (fun W => refSplit_any s hs W)
  unfold splitV at H1 H2
  generalize (M.split s).1 = p at *
  generalize (M.split s).2.1 = n at *
  generalize (M.split s).2.2 = ok at *
  go_enter Tryz.func13, Tryz.ntmps13
  go_wp2_with fail
  refine (H1.out _).mono ?_
  rintro e w1 ⟨rfl, hb1⟩
  have HB1 := hid hb1
  clear hb1
  go_wp2_with fail
  refine (H2.out _).mono ?_
  rintro e w2 ⟨rfl, hb2⟩
  have HB2 := hid (HB1.out.trans (hb2.mono HB1.out.size))
  clear hb2
  go_wp2
  go_ret
  exact ⟨by simp, HB2.out⟩
end Go.Proofs.YtbpangofobkmfaaGreatDoor

/-! A text of choices. -/
namespace Go.Proofs.YtbpangofobkmfaaGreatDoor
open Go.RowKit Go.Lib
open Px (R2 tl)
attribute [local go_sem ↓] add_plain

def wordL : List ByteArray := [⟨#[97]⟩, ⟨#[98]⟩, ⟨#[99]⟩, ⟨#[100, 100]⟩, ⟨#[47]⟩, ⟨#[101]⟩]
theorem word_cell (wr : World) (j : Nat) (hj : j < 6) : ∃ x : ByteArray, x.size ≤ 2 ∧ (wr.alloc (.cells #[.string ⟨#[97]⟩, .string ⟨#[98]⟩, .string ⟨#[99]⟩, .string ⟨#[100, 100]⟩, .string ⟨#[47]⟩, .string ⟨#[101]⟩] 9)).cell? ⟨wr.heap.size, j, none⟩ = some (.string x) := by
  have h := World.cell?_alloc_mark wr #[.string ⟨#[97]⟩, .string ⟨#[98]⟩, .string ⟨#[99]⟩, .string ⟨#[100, 100]⟩, .string ⟨#[47]⟩, .string ⟨#[101]⟩] 9 (0, 0) j
  have hs : ∀ x ∈ wordL, x.size ≤ 2 := by decide
  have hjl : j < wordL.length := hj
  refine ⟨wordL[j], hs _ (List.getElem_mem hjl), h.trans ?_⟩
  have e : (#[Value.string ⟨#[97]⟩, .string ⟨#[98]⟩, .string ⟨#[99]⟩, .string ⟨#[100, 100]⟩, .string ⟨#[47]⟩, .string ⟨#[101]⟩] : Array Value) = (wordL.map Value.string).toArray := rfl
  rw [e]
  simp [hjl]

/-- The text of a choice, piece by piece. -/
def wordT (k : Nat) : Nat → ByteArray
  | 0 => ⟨#[]⟩
  | q + 1 => wordT k q ++ wordL.getD ((q * q + k) % 6) ⟨#[]⟩
theorem wordL_size : ∀ x ∈ wordL, x.size ≤ 2 := by decide
theorem wordT_size (k : Nat) : ∀ q, (wordT k q).size ≤ 2 * q
  | 0 => Nat.le_refl 0
  | q + 1 => by
    have ih := wordT_size k q
    have hl : (q * q + k) % 6 < wordL.length := by show _ < 6; exact Nat.mod_lt _ (by decide)
    have h2 := wordL_size _ (List.getElem_mem hl)
    show (wordT k q ++ wordL.getD ((q * q + k) % 6) ⟨#[]⟩).size ≤ 2 * (q + 1)
    rw [ByteArray.size_append, List.getD_eq_getElem?_getD, List.getElem?_eq_getElem hl]
    show (wordT k q).size + (wordL[(q * q + k) % 6]).size ≤ _
    omega
set_option maxRecDepth 100000 in
set_option maxHeartbeats 2000000 in
theorem textX_any (k : Nat) (hk : k ≤ 1000) (w : World) :
    Calls Tryz.prog 14 #[.int .i64 k] w fun e w' => e = .returned (.string (wordT k k)) ∧ Below w.heap.size w w' := by
  go_enter Tryz.func14, Tryz.ntmps14
  go_wp2
  go_loopw [3, 4] (fun v i wr => ∃ (q : Nat) (s : ByteArray), i = .int .i64 q ∧ q ≤ k ∧ v = .string s ∧ s.size ≤ 2 * q ∧ Hid (s = wordT k q) ∧ Hid (Below w.heap.size w wr)) (fun _ i _ => k - (intOf i).toNat)
  case atStart => exact ⟨0, ⟨#[]⟩, rfl, by omega, rfl, by decide, hid rfl, hid (Below.refl _ _)⟩
  case round =>
    obtain ⟨q, s, rfl, hq, rfl, hs, HSQ, HW⟩ := hrel
    have hbs := HW.out.size
    by_cases hlt : q < k
    · have hq2 : (q : Int) * q ≤ 1000000 := by
        have : q * q ≤ 1000 * 1000 := Nat.mul_le_mul (by omega) (by omega)
        have h3 : ((q * q : Nat) : Int) ≤ ((1000 * 1000 : Nat) : Int) := Int.ofNat_le.2 this
        rw [Int.natCast_mul] at h3
        omega
      have hq3 : 0 ≤ (q : Int) * q := Int.mul_nonneg (by omega) (by omega)
      obtain ⟨p, hp⟩ : ∃ p : Int, (q : Int) * q = p := ⟨_, rfl⟩
      rw [hp] at hq2 hq3
      have e1 : IntKind.i64.wrap ((q : Int) * q) = p := by rw [hp]; exact IntWalk.i64_in _ (by omega)
      obtain ⟨m, hm⟩ : ∃ m : Int, p + k = m := ⟨_, rfl⟩
      have e2 : IntKind.i64.wrap (p + k) = m := by rw [← hm]; exact IntWalk.i64_in _ (by omega)
      obtain ⟨j, hj⟩ : ∃ j : Nat, j = (q * q + k) % 6 := ⟨_, rfl⟩
      have hmj : m % 6 = j := by rw [hj, ← hm, ← hp]; simp
      have e3 : m.tmod 6 = j := by rw [Int.tmod_eq_emod_of_nonneg (by omega), hmj]
      have hj6 : j < wordL.length := by rw [hj]; show _ < 6; exact Nat.mod_lt _ (by decide)
      have hcx : (wr.alloc (.cells #[.string ⟨#[97]⟩, .string ⟨#[98]⟩, .string ⟨#[99]⟩, .string ⟨#[100, 100]⟩, .string ⟨#[47]⟩, .string ⟨#[101]⟩] 9)).cell? ⟨wr.heap.size, j, none⟩ = some (.string wordL[j]) := by
        refine (World.cell?_alloc_mark wr _ 9 (0, 0) j).trans ?_
        have e : (#[Value.string ⟨#[97]⟩, .string ⟨#[98]⟩, .string ⟨#[99]⟩, .string ⟨#[100, 100]⟩, .string ⟨#[47]⟩, .string ⟨#[101]⟩] : Array Value) = (wordL.map Value.string).toArray := rfl
        rw [e]
        simp [hj6]
      have HX := hid (show wordT k (q + 1) = s ++ wordL[j] from by
        show wordT k q ++ wordL.getD ((q * q + k) % 6) ⟨#[]⟩ = _
        rw [← hj, HSQ.out, List.getD_eq_getElem?_getD, List.getElem?_eq_getElem hj6]
        rfl)
      have hx := wordL_size _ (List.getElem_mem hj6)
      obtain ⟨x, hxe⟩ : ∃ x, wordL[j] = x := ⟨_, rfl⟩
      rw [hxe] at hcx HX hx
      have hj6' : j < 6 := hj6
      clear hj hq2 hq3 hp hm hmj HSQ hxe hj6
      go_wp2
      go_roundw
      case rel => exact ⟨q + 1, s ++ x, by go_num, by omega, rfl, by rw [ByteArray.size_append]; omega, hid HX.out.symm, hid (HW.out.alloc hbs _)⟩
      case measure => simp [intOf]; omega
    · obtain rfl : q = k := by omega
      have HE := hid HSQ.out
      clear hlt
      go_wp2
      go_ret
      exact ⟨by rw [← HE.out]; rfl, HW.out⟩
end Go.Proofs.YtbpangofobkmfaaGreatDoor

/-! Are two rows the same? -/
namespace Go.Proofs.YtbpangofobkmfaaGreatDoor
open Go.RowKit Go.Lib
open Px (R2 tl)
attribute [local go_sem ↓] add_plain

theorem ret_b {a b : Bool} (h : a = b) : Ending.returned (.bool a) = .returned (.bool b) := by rw [h]
theorem takeP_same {α : Type} {l m : List α} {k : Nat} (hl : k < l.length) (hm : k < m.length) (h : l.take k = m.take k) (h2 : l[k] = m[k]) : l.take (k + 1) = m.take (k + 1) := by
  rw [List.take_succ_eq_append_getElem hl, List.take_succ_eq_append_getElem hm, h, h2]

set_option maxRecDepth 100000 in
set_option maxHeartbeats 1000000 in
theorem equalR_any (A : Option Addr) (c : Nat) (l : List (R2)) (A' : Option Addr) (c' : Nat) (m : List (R2)) (hl : l.length ≤ 9223372036854775807) (hm : m.length ≤ 9223372036854775807) (B : Nat) (w : World) (h : Px.RdR w B A l) (h' : Px.RdR w B A' m) :
    Calls Tryz.prog 34 #[.slice A l.length c, .slice A' m.length c'] w fun e w' => e = .returned (.bool (decide (l = m))) ∧ Below w.heap.size w w' := by
  by_cases hlm : l.length = m.length
  · have HR := Lib.hid h
    have HR' := Lib.hid h'
    have hle1 : l.length ≤ m.length := by omega
    have hle2 : m.length ≤ l.length := by omega
    have hb1 : ((l.length : Int) != (m.length : Int)) = false := by simp; omega
    have hb2 : (l.length != m.length) = false := by simp; omega
    clear h h' hlm
    go_enter Tryz.func34, Tryz.ntmps34
    go_wp2
    go_loopw [13] (fun i wr => ∃ k d : Nat, i = .int .i64 k ∧ k ≤ l.length ∧ l.take k = m.take k ∧ wr = w.drewN d) (fun i _ => l.length - (intOf i).toNat)
    case atStart => exact ⟨0, 0, rfl, Nat.zero_le _, rfl, rfl⟩
    case round =>
      obtain ⟨k, d, rfl, hk, htk, rfl⟩ := hrel
      have hbd := Px.below_drewN' (Below.refl w.heap.size w) d
      by_cases hlt : k < l.length
      · have hlt' : k < m.length := by omega
        obtain ⟨b, off, rfl, hbb, c1, c2⟩ := HR.out.at_ hlt
        obtain ⟨b', off', rfl, hbb', c1', c2'⟩ := HR'.out.at_ hlt'
        obtain ⟨r, hr⟩ : ∃ r, l[k] = r := ⟨_, rfl⟩
        obtain ⟨q, hq⟩ : ∃ q, m[k] = q := ⟨_, rfl⟩
        have HS := hid (takeP_same hlt hlt' htk)
        rw [hr] at c1 c2
        rw [hq] at c1' c2'
        rw [hr, hq] at HS
        have HK := Lib.hid htk
        clear htk
        by_cases he : r = q
        · subst he
          have HN := Lib.hid (HS.out rfl)
          clear HS hr hq
          obtain ⟨s, t⟩ := r
          dsimp only at c1 c2 c1' c2'
          go_wp2_with fail
          go_quiet (fail)
          go_wp2
          go_roundw
          case rel => exact ⟨_, d + nq, (show Value.int .i64 _ = Value.int .i64 ((_ + 1 : Nat) : Int) by go_num), by omega, HN.out, rfl⟩
          case measure => simp [intOf]; omega
        · have hne : l ≠ m := fun e => he (by subst e; rw [← hr, ← hq])
          have HE := Lib.hid hne
          obtain ⟨s, t⟩ := r
          obtain ⟨s', t'⟩ := q
          dsimp only at c1 c2 c1' c2'
          clear HS hr hq hne
          by_cases hs : s = s'
          · subst hs
            have ht : (t.toList == t'.toList) = false := by
              rw [str_eq, decide_eq_false_iff_not]
              exact fun e => he (by rw [tl_inj e])
            clear he
            go_wp2_with fail
            go_quiet (fail)
            go_wp2
            go_ret
            exact ⟨ret_b (by rw [decide_eq_false HE.out]), Px.below_drewN' hbd _⟩
          · have ht : (s.toList == s'.toList) = false := by
              rw [str_eq, decide_eq_false_iff_not]
              exact fun e => hs (tl_inj e)
            clear he hs
            go_wp2_with fail
            go_quiet (fail)
            go_wp2
            go_ret
            exact ⟨ret_b (by rw [decide_eq_false HE.out]), Px.below_drewN' hbd _⟩
      · obtain rfl : k = l.length := by omega
        have he : l = m := by
          rw [List.take_length, List.take_of_length_le (by omega)] at htk
          exact htk
        have HE := Lib.hid he
        clear htk hlt he
        go_wp2
        go_ret
        exact ⟨ret_b (by rw [decide_eq_true HE.out]), hbd⟩
  · have hne : l ≠ m := fun e => hlm (by rw [e])
    have HE := Lib.hid hne
    have hb1 : ((l.length : Int) != (m.length : Int)) = true := by simp; omega
    have hb2 : (l.length != m.length) = true := by simp; omega
    clear h h' hne
    go_enter Tryz.func34, Tryz.ntmps34
    go_wp2
    go_ret
    exact ⟨ret_b (by rw [decide_eq_false HE.out]), Below.refl _ _⟩

set_option maxRecDepth 100000 in
set_option maxHeartbeats 1000000 in
theorem sameR_any (A : Option Addr) (c : Nat) (l : List (R2)) (A' : Option Addr) (c' : Nat) (m : List (R2)) (hl : l.length ≤ 9223372036854775807) (hm : m.length ≤ 9223372036854775807) (B : Nat) (w : World) (h : Px.RdR w B A l) (h' : Px.RdR w B A' m) :
    Calls Tryz.prog 36 #[.slice A l.length c, .slice A' m.length c'] w fun e w' => e = .returned (.bool (decide (l = m))) ∧ Below w.heap.size w w' := by
  by_cases hlm : l.length = m.length
  · have HR := Lib.hid h
    have HR' := Lib.hid h'
    have hle1 : l.length ≤ m.length := by omega
    have hle2 : m.length ≤ l.length := by omega
    have hb1 : ((l.length : Int) != (m.length : Int)) = false := by simp; omega
    have hb2 : (l.length != m.length) = false := by simp; omega
    clear h h' hlm
    go_enter Tryz.func36, Tryz.ntmps36
    go_wp2
    go_loopw [5] (fun i wr => ∃ k d : Nat, i = .int .i64 k ∧ k ≤ l.length ∧ l.take k = m.take k ∧ wr = w.drewN d) (fun i _ => l.length - (intOf i).toNat)
    case atStart => exact ⟨0, 0, rfl, Nat.zero_le _, rfl, rfl⟩
    case round =>
      obtain ⟨k, d, rfl, hk, htk, rfl⟩ := hrel
      have hbd := Px.below_drewN' (Below.refl w.heap.size w) d
      by_cases hlt : k < l.length
      · have hlt' : k < m.length := by omega
        obtain ⟨b, off, rfl, hbb, c1, c2⟩ := HR.out.at_ hlt
        obtain ⟨b', off', rfl, hbb', c1', c2'⟩ := HR'.out.at_ hlt'
        obtain ⟨r, hr⟩ : ∃ r, l[k] = r := ⟨_, rfl⟩
        obtain ⟨q, hq⟩ : ∃ q, m[k] = q := ⟨_, rfl⟩
        have HS := hid (takeP_same hlt hlt' htk)
        rw [hr] at c1 c2
        rw [hq] at c1' c2'
        rw [hr, hq] at HS
        have HK := Lib.hid htk
        clear htk
        by_cases he : r = q
        · subst he
          have HN := Lib.hid (HS.out rfl)
          clear HS hr hq
          obtain ⟨s, t⟩ := r
          dsimp only at c1 c2 c1' c2'
          go_wp2_with fail
          go_quiet (fail)
          go_wp2
          go_roundw
          case rel => exact ⟨_, d + nq, (show Value.int .i64 _ = Value.int .i64 ((_ + 1 : Nat) : Int) by go_num), by omega, HN.out, rfl⟩
          case measure => simp [intOf]; omega
        · have hne : l ≠ m := fun e => he (by subst e; rw [← hr, ← hq])
          have HE := Lib.hid hne
          obtain ⟨s, t⟩ := r
          obtain ⟨s', t'⟩ := q
          dsimp only at c1 c2 c1' c2'
          clear HS hr hq hne
          by_cases hs : s = s'
          · subst hs
            have ht : (t.toList == t'.toList) = false := by
              rw [str_eq, decide_eq_false_iff_not]
              exact fun e => he (by rw [tl_inj e])
            clear he
            go_wp2_with fail
            go_quiet (fail)
            go_wp2
            go_ret
            exact ⟨ret_b (by rw [decide_eq_false HE.out]), Px.below_drewN' hbd _⟩
          · have ht : (s.toList == s'.toList) = false := by
              rw [str_eq, decide_eq_false_iff_not]
              exact fun e => hs (tl_inj e)
            clear he hs
            go_wp2_with fail
            go_quiet (fail)
            go_wp2
            go_ret
            exact ⟨ret_b (by rw [decide_eq_false HE.out]), Px.below_drewN' hbd _⟩
      · obtain rfl : k = l.length := by omega
        have he : l = m := by
          rw [List.take_length, List.take_of_length_le (by omega)] at htk
          exact htk
        have HE := Lib.hid he
        clear htk hlt he
        go_wp2
        go_ret
        exact ⟨ret_b (by rw [decide_eq_true HE.out]), hbd⟩
  · have hne : l ≠ m := fun e => hlm (by rw [e])
    have HE := Lib.hid hne
    have hb1 : ((l.length : Int) != (m.length : Int)) = true := by simp; omega
    have hb2 : (l.length != m.length) = true := by simp; omega
    clear h h' hne
    go_enter Tryz.func36, Tryz.ntmps36
    go_wp2
    go_ret
    exact ⟨ret_b (by rw [decide_eq_false HE.out]), Below.refl _ _⟩

set_option maxRecDepth 100000 in
set_option maxHeartbeats 1000000 in
theorem equalP_any (A : Option Addr) (c : Nat) (l : List (Int × Int)) (A' : Option Addr) (c' : Nat) (m : List (Int × Int)) (hl : l.length ≤ 9223372036854775807) (hm : m.length ≤ 9223372036854775807) (B : Nat) (w : World) (h : Sp.RdP w B A l.length l) (h' : Sp.RdP w B A' m.length m) :
    Calls Tryz.prog 33 #[.slice A l.length c, .slice A' m.length c'] w fun e w' => e = .returned (.bool (decide (l = m))) ∧ Below w.heap.size w w' := by
  by_cases hlm : l.length = m.length
  · have HR := Lib.hid h
    have HR' := Lib.hid h'
    have hle1 : l.length ≤ m.length := by omega
    have hle2 : m.length ≤ l.length := by omega
    have hb1 : ((l.length : Int) != (m.length : Int)) = false := by simp; omega
    have hb2 : (l.length != m.length) = false := by simp; omega
    clear h h' hlm
    go_enter Tryz.func33, Tryz.ntmps33
    go_wp2
    go_loopw [13] (fun i wr => ∃ k d : Nat, i = .int .i64 k ∧ k ≤ l.length ∧ l.take k = m.take k ∧ wr = w.drewN d) (fun i _ => l.length - (intOf i).toNat)
    case atStart => exact ⟨0, 0, rfl, Nat.zero_le _, rfl, rfl⟩
    case round =>
      obtain ⟨k, d, rfl, hk, htk, rfl⟩ := hrel
      have hbd := Px.below_drewN' (Below.refl w.heap.size w) d
      by_cases hlt : k < l.length
      · have hlt' : k < m.length := by omega
        obtain ⟨b, off, r, rfl, hbb, hr, c1, c2⟩ := HR.out.at_ hlt
        obtain ⟨b', off', q, rfl, hbb', hq, c1', c2'⟩ := HR'.out.at_ hlt'
        rw [List.getElem?_eq_getElem hlt, Option.some.injEq] at hr
        rw [List.getElem?_eq_getElem hlt', Option.some.injEq] at hq
        have HS := hid (takeP_same hlt hlt' htk)
        rw [hr, hq] at HS
        have HK := Lib.hid htk
        clear htk
        by_cases he : r = q
        · subst he
          have HN := Lib.hid (HS.out rfl)
          clear HS hr hq
          obtain ⟨s, t⟩ := r
          dsimp only at c1 c2 c1' c2'
          go_wp2_with fail
          go_quiet (fail)
          go_wp2
          go_roundw
          case rel => exact ⟨_, d + nq, (show Value.int .i64 _ = Value.int .i64 ((_ + 1 : Nat) : Int) by go_num), by omega, HN.out, rfl⟩
          case measure => simp [intOf]; omega
        · have hne : l ≠ m := fun e => he (by subst e; rw [← hr, ← hq])
          have HE := Lib.hid hne
          obtain ⟨s, t⟩ := r
          obtain ⟨s', t'⟩ := q
          dsimp only at c1 c2 c1' c2'
          clear HS hr hq hne
          by_cases hs : s = s'
          · subst hs
            have ht : (t == t') = false := by
              rw [beq_eq_false_iff_ne]
              exact fun e => he (by rw [e])
            clear he
            go_wp2_with fail
            go_quiet (fail)
            go_wp2
            go_ret
            exact ⟨ret_b (by rw [decide_eq_false HE.out]), Px.below_drewN' hbd _⟩
          · have ht : (s == s') = false := by
              rw [beq_eq_false_iff_ne]
              exact hs
            clear he hs
            go_wp2_with fail
            go_quiet (fail)
            go_wp2
            go_ret
            exact ⟨ret_b (by rw [decide_eq_false HE.out]), Px.below_drewN' hbd _⟩
      · obtain rfl : k = l.length := by omega
        have he : l = m := by
          rw [List.take_length, List.take_of_length_le (by omega)] at htk
          exact htk
        have HE := Lib.hid he
        clear htk hlt he
        go_wp2
        go_ret
        exact ⟨ret_b (by rw [decide_eq_true HE.out]), hbd⟩
  · have hne : l ≠ m := fun e => hlm (by rw [e])
    have HE := Lib.hid hne
    have hb1 : ((l.length : Int) != (m.length : Int)) = true := by simp; omega
    have hb2 : (l.length != m.length) = true := by simp; omega
    clear h h' hne
    go_enter Tryz.func33, Tryz.ntmps33
    go_wp2
    go_ret
    exact ⟨ret_b (by rw [decide_eq_false HE.out]), Below.refl _ _⟩

set_option maxRecDepth 100000 in
set_option maxHeartbeats 1000000 in
theorem sameP_any (A : Option Addr) (c : Nat) (l : List (Int × Int)) (A' : Option Addr) (c' : Nat) (m : List (Int × Int)) (hl : l.length ≤ 9223372036854775807) (hm : m.length ≤ 9223372036854775807) (B : Nat) (w : World) (h : Sp.RdP w B A l.length l) (h' : Sp.RdP w B A' m.length m) :
    Calls Tryz.prog 35 #[.slice A l.length c, .slice A' m.length c'] w fun e w' => e = .returned (.bool (decide (l = m))) ∧ Below w.heap.size w w' := by
  by_cases hlm : l.length = m.length
  · have HR := Lib.hid h
    have HR' := Lib.hid h'
    have hle1 : l.length ≤ m.length := by omega
    have hle2 : m.length ≤ l.length := by omega
    have hb1 : ((l.length : Int) != (m.length : Int)) = false := by simp; omega
    have hb2 : (l.length != m.length) = false := by simp; omega
    clear h h' hlm
    go_enter Tryz.func35, Tryz.ntmps35
    go_wp2
    go_loopw [5] (fun i wr => ∃ k d : Nat, i = .int .i64 k ∧ k ≤ l.length ∧ l.take k = m.take k ∧ wr = w.drewN d) (fun i _ => l.length - (intOf i).toNat)
    case atStart => exact ⟨0, 0, rfl, Nat.zero_le _, rfl, rfl⟩
    case round =>
      obtain ⟨k, d, rfl, hk, htk, rfl⟩ := hrel
      have hbd := Px.below_drewN' (Below.refl w.heap.size w) d
      by_cases hlt : k < l.length
      · have hlt' : k < m.length := by omega
        obtain ⟨b, off, r, rfl, hbb, hr, c1, c2⟩ := HR.out.at_ hlt
        obtain ⟨b', off', q, rfl, hbb', hq, c1', c2'⟩ := HR'.out.at_ hlt'
        rw [List.getElem?_eq_getElem hlt, Option.some.injEq] at hr
        rw [List.getElem?_eq_getElem hlt', Option.some.injEq] at hq
        have HS := hid (takeP_same hlt hlt' htk)
        rw [hr, hq] at HS
        have HK := Lib.hid htk
        clear htk
        by_cases he : r = q
        · subst he
          have HN := Lib.hid (HS.out rfl)
          clear HS hr hq
          obtain ⟨s, t⟩ := r
          dsimp only at c1 c2 c1' c2'
          go_wp2_with fail
          go_quiet (fail)
          go_wp2
          go_roundw
          case rel => exact ⟨_, d + nq, (show Value.int .i64 _ = Value.int .i64 ((_ + 1 : Nat) : Int) by go_num), by omega, HN.out, rfl⟩
          case measure => simp [intOf]; omega
        · have hne : l ≠ m := fun e => he (by subst e; rw [← hr, ← hq])
          have HE := Lib.hid hne
          obtain ⟨s, t⟩ := r
          obtain ⟨s', t'⟩ := q
          dsimp only at c1 c2 c1' c2'
          clear HS hr hq hne
          by_cases hs : s = s'
          · subst hs
            have ht : (t == t') = false := by
              rw [beq_eq_false_iff_ne]
              exact fun e => he (by rw [e])
            clear he
            go_wp2_with fail
            go_quiet (fail)
            go_wp2
            go_ret
            exact ⟨ret_b (by rw [decide_eq_false HE.out]), Px.below_drewN' hbd _⟩
          · have ht : (s == s') = false := by
              rw [beq_eq_false_iff_ne]
              exact hs
            clear he hs
            go_wp2_with fail
            go_quiet (fail)
            go_wp2
            go_ret
            exact ⟨ret_b (by rw [decide_eq_false HE.out]), Px.below_drewN' hbd _⟩
      · obtain rfl : k = l.length := by omega
        have he : l = m := by
          rw [List.take_length, List.take_of_length_le (by omega)] at htk
          exact htk
        have HE := Lib.hid he
        clear htk hlt he
        go_wp2
        go_ret
        exact ⟨ret_b (by rw [decide_eq_true HE.out]), hbd⟩
  · have hne : l ≠ m := fun e => hlm (by rw [e])
    have HE := Lib.hid hne
    have hb1 : ((l.length : Int) != (m.length : Int)) = true := by simp; omega
    have hb2 : (l.length != m.length) = true := by simp; omega
    clear h h' hne
    go_enter Tryz.func35, Tryz.ntmps35
    go_wp2
    go_ret
    exact ⟨ret_b (by rw [decide_eq_false HE.out]), Below.refl _ _⟩

end Go.Proofs.YtbpangofobkmfaaGreatDoor

/-! Are two that are known the same? -/
namespace Go.Proofs.YtbpangofobkmfaaGreatDoor
open Go.RowKit Go.Lib
open Px (R2 tl)
attribute [local go_sem ↓] add_plain

section
variable {P : Program} {ops : Array Oper} {Q : Exit → Act → World → Prop} {a : Act} {w : World} {rest : List Oper} {o : Oper}
theorem wl_yes (d : Nat) {v : Value} (hd : o.dst = some d) (hw : Region.wanted o (yielded ops a.tmps) = true) (hv : (execOp a.eval o).run P w = .ok (.value v) w) (h : wpList P ops Q rest (a.put (some d) v) w) : wpList P ops Q (o :: rest) a w := by
  unfold wpList
  rw [if_pos hw]
  left
  unfold Oper.wp
  rw [hv]
  show wpList P ops Q rest (a.put o.dst v) w
  rw [hd]; exact h
theorem wl_if (d : Nat) (g : Bool) {v : Value} (hd : o.dst = some d) (hw : Region.wanted o (yielded ops a.tmps) = g) (hv : g = true → (execOp a.eval o).run P w = .ok (.value v) w) (h : wpList P ops Q rest (a.put (some d) (bif g then v else undef)) w) : wpList P ops Q (o :: rest) a w := by
  cases g with
  | true => exact wl_yes d hd hw (hv rfl) h
  | false =>
    unfold wpList
    rw [if_neg (by rw [hw]; decide), hd]
    exact h
theorem wl_call (d : Nat) {v : Value} {f : FuncId} {args : Array Value} {C : World → Prop} (hd : o.dst = some d) (hw : Region.wanted o (yielded ops a.tmps) = true) (hx : (execOp a.eval o).run P w = .ok (.enter f args) w)
    (hc : Calls P f args w (fun e w' => e = .returned v ∧ C w')) (h : ∀ w', C w' → wpList P ops Q rest (a.put (some d) v) w') : wpList P ops Q (o :: rest) a w := by
  unfold wpList
  rw [if_pos hw]
  left
  unfold Oper.wp
  rw [hx]
  refine hc.mono ?_
  rintro e w' ⟨rfl, hC⟩
  show wpList P ops Q rest (a.put o.dst v) w'
  rw [hd]; exact h w' hC
end

/-- The rows behind one that is known. -/
structure SIn (w : World) (m : M.Met) (pv ev : Value) : Prop where
  parts : ∃ A c, pv = .slice A m.parts.length c ∧ Sp.RdP w w.heap.size A m.parts.length m.parts
  extra : ∃ A c, ev = .slice A m.extra.length c ∧ Px.RdR w w.heap.size A m.extra
  nparts : m.parts.length ≤ 9223372036854775807
  nextra : m.extra.length ≤ 9223372036854775807
theorem SIn.later {w w' : World} {m : M.Met} {pv ev : Value} (h : SIn w m pv ev) (hb : Below w.heap.size w w') : SIn w' m pv ev := by
  obtain ⟨⟨A, c, h1, h2⟩, ⟨A', c', h3, h4⟩, h5, h6⟩ := h
  exact ⟨⟨A, c, h1, (h2.below hb).more hb.size⟩, ⟨A', c', h3, (h4.below hb).more hb.size⟩, h5, h6⟩
namespace M
noncomputable def sameM (a b : Met) : Bool := @decide (a = b) (Classical.propDecidable _)
theorem sameM_self (a : Met) : sameM a a = true := by unfold sameM; exact @decide_eq_true _ (Classical.propDecidable _) rfl
end M
theorem sameM_eq (a b : M.Met) : M.sameM a b = ((a.name.toList == b.name.toList) && ((a.link.toList == b.link.toList) && ((a.kind == b.kind) && ((a.mode == b.mode) && ((a.uid == b.uid) && ((a.gid == b.gid) && ((a.user.toList == b.user.toList) && ((a.group.toList == b.group.toList) && ((a.sec == b.sec) && ((a.nan == b.nan) && ((a.major == b.major) && ((a.minor == b.minor) && ((a.size == b.size) && ((a.real == b.real) && ((a.holes == b.holes) && (decide (a.parts = b.parts) && (decide (a.extra = b.extra)))))))))))))))))) := by
  rw [Bool.eq_iff_iff]
  unfold M.sameM
  rw [@decide_eq_true_eq _ (Classical.propDecidable _)]
  simp only [Bool.and_eq_true, str_eq, decide_eq_true_eq, beq_iff_eq]
  constructor
  · rintro rfl
    simp
  · rintro ⟨h0, h1, h2, h3, h4, h5, h6, h7, h8, h9, h10, h11, h12, h13, h14, h15, h16⟩
    obtain ⟨x0, x1, x2, x3, x4, x5, x6, x7, x8, x9, x10, x11, x12, x13, x14, x15, x16⟩ := a
    obtain ⟨y0, y1, y2, y3, y4, y5, y6, y7, y8, y9, y10, y11, y12, y13, y14, y15, y16⟩ := b
    simp only at *
    have e0 := tl_inj h0
    have e1 := tl_inj h1
    have e6 := tl_inj h6
    have e7 := tl_inj h7
    subst e0 e1 h2 h3 h4 h5 e6 e7 h8 h9 h10 h11 h12 h13 h14 h15 h16
    rfl

set_option maxRecDepth 100000 in
set_option maxHeartbeats 8000000 in
theorem same_any (a b : M.Met) (Pa Pb Ea Eb : Option Addr) (pa pb ea eb : Nat) (w : World) (ha : SIn w a (.slice Pa a.parts.length pa) (.slice Ea a.extra.length ea)) (hb : SIn w b (.slice Pb b.parts.length pb) (.slice Eb b.extra.length eb)) :
    Calls Tryz.prog 15 #[.agg (mcells a (.slice Pa a.parts.length pa) (.slice Ea a.extra.length ea)), .agg (mcells b (.slice Pb b.parts.length pb) (.slice Eb b.extra.length eb))] w fun e w' => e = .returned (.bool (M.sameM a b)) ∧ Below w.heap.size w w' := by
  have rows : ∀ {m : M.Met} {P E : Option Addr} {p e : Nat}, SIn w m (.slice P m.parts.length p) (.slice E m.extra.length e) → Sp.RdP w w.heap.size P m.parts.length m.parts ∧ Px.RdR w w.heap.size E m.extra := by
    intro m P E p e h
    obtain ⟨A, c, e1, h1⟩ := h.parts
    obtain ⟨A2, c2, e2, h2⟩ := h.extra
    injection e1 with e1
    injection e2 with e2
    rw [e1, e2]
    exact ⟨h1, h2⟩
  have hra := rows ha
  have hrb := rows hb
  have HP := hid (fun W (hW : Below w.heap.size w W) => equalP_any Pa pa a.parts Pb pb b.parts ha.nparts hb.nparts w.heap.size W (hra.1.below hW) (hrb.1.below hW))
  have HE := hid (fun W (hW : Below w.heap.size w W) => equalR_any Ea ea a.extra Eb eb b.extra ha.nextra hb.nextra w.heap.size W (hra.2.below hW) (hrb.2.below hW))
  clear rows hra hrb ha hb
  have B1 := MB.alloc (MB.new w a (.slice Pa a.parts.length pa) (.slice Ea a.extra.length ea)) (.cells (mcells b (.slice Pb b.parts.length pb) (.slice Eb b.extra.length eb)) 34)
  have B2 := MB.new (w.alloc (.cells (mcells a (.slice Pa a.parts.length pa) (.slice Ea a.extra.length ea)) 34)) b (.slice Pb b.parts.length pb) (.slice Eb b.extra.length eb)
  rw [World.size_alloc] at B2
  have HW := hid (((Below.refl w.heap.size w).alloc (Nat.le_refl _) (.cells (mcells a (.slice Pa a.parts.length pa) (.slice Ea a.extra.length ea)) 34)).alloc (by simp) (.cells (mcells b (.slice Pb b.parts.length pb) (.slice Eb b.extra.length eb)) 34))
  have HS := hid (sameM_eq a b)
  obtain ⟨b0, t0⟩ : ∃ c, (a.name.toList == b.name.toList) = c := ⟨_, rfl⟩
  obtain ⟨b1, t1⟩ : ∃ c, (a.link.toList == b.link.toList) = c := ⟨_, rfl⟩
  obtain ⟨b2, t2⟩ : ∃ c, (a.kind == b.kind) = c := ⟨_, rfl⟩
  obtain ⟨b3, t3⟩ : ∃ c, (a.mode == b.mode) = c := ⟨_, rfl⟩
  obtain ⟨b4, t4⟩ : ∃ c, (a.uid == b.uid) = c := ⟨_, rfl⟩
  obtain ⟨b5, t5⟩ : ∃ c, (a.gid == b.gid) = c := ⟨_, rfl⟩
  obtain ⟨b6, t6⟩ : ∃ c, (a.user.toList == b.user.toList) = c := ⟨_, rfl⟩
  obtain ⟨b7, t7⟩ : ∃ c, (a.group.toList == b.group.toList) = c := ⟨_, rfl⟩
  obtain ⟨b8, t8⟩ : ∃ c, (a.sec == b.sec) = c := ⟨_, rfl⟩
  obtain ⟨b9, t9⟩ : ∃ c, (a.nan == b.nan) = c := ⟨_, rfl⟩
  obtain ⟨b10, t10⟩ : ∃ c, (a.major == b.major) = c := ⟨_, rfl⟩
  obtain ⟨b11, t11⟩ : ∃ c, (a.minor == b.minor) = c := ⟨_, rfl⟩
  obtain ⟨b12, t12⟩ : ∃ c, (a.size == b.size) = c := ⟨_, rfl⟩
  obtain ⟨b13, t13⟩ : ∃ c, (a.real == b.real) = c := ⟨_, rfl⟩
  obtain ⟨b14, t14⟩ : ∃ c, (a.holes == b.holes) = c := ⟨_, rfl⟩
  obtain ⟨b15, t15⟩ : ∃ c, decide (a.parts = b.parts) = c := ⟨_, rfl⟩
  obtain ⟨b16, t16⟩ : ∃ c, decide (a.extra = b.extra) = c := ⟨_, rfl⟩
  rw [t0, t1, t2, t3, t4, t5, t6, t7, t8, t9, t10, t11, t12, t13, t14, t15, t16] at HS
  rw [t15] at HP
  rw [t16] at HE
  have T0 := hid t0
  have T1 := hid t1
  have T2 := hid t2
  have T3 := hid t3
  have T4 := hid t4
  have T5 := hid t5
  have T6 := hid t6
  have T7 := hid t7
  have T8 := hid t8
  have T9 := hid t9
  have T10 := hid t10
  have T11 := hid t11
  have T12 := hid t12
  have T13 := hid t13
  have T14 := hid t14
  clear t0 t1 t2 t3 t4 t5 t6 t7 t8 t9 t10 t11 t12 t13 t14 t15 t16
  have A1 := hid B1
  have B1 := hid B2
  clear B2
  go_enter Tryz.func15, Tryz.ntmps15
  go_upto_region 1 with fail
  generalize World.alloc (World.alloc w _) _ = W at *
  obtain ⟨g1, hg1⟩ : ∃ g, g = (b0 && b1) := ⟨_, rfl⟩
  have G1 := hid hg1
  clear hg1
  obtain ⟨g2, hg2⟩ : ∃ g, g = (g1 && b2) := ⟨_, rfl⟩
  have G2 := hid hg2
  clear hg2
  obtain ⟨g3, hg3⟩ : ∃ g, g = (g2 && b3) := ⟨_, rfl⟩
  have G3 := hid hg3
  clear hg3
  obtain ⟨g4, hg4⟩ : ∃ g, g = (g3 && b4) := ⟨_, rfl⟩
  have G4 := hid hg4
  clear hg4
  obtain ⟨g5, hg5⟩ : ∃ g, g = (g4 && b5) := ⟨_, rfl⟩
  have G5 := hid hg5
  clear hg5
  obtain ⟨g6, hg6⟩ : ∃ g, g = (g5 && b6) := ⟨_, rfl⟩
  have G6 := hid hg6
  clear hg6
  obtain ⟨g7, hg7⟩ : ∃ g, g = (g6 && b7) := ⟨_, rfl⟩
  have G7 := hid hg7
  clear hg7
  obtain ⟨g8, hg8⟩ : ∃ g, g = (g7 && (b8 && b9)) := ⟨_, rfl⟩
  have G8 := hid hg8
  clear hg8
  obtain ⟨g9, hg9⟩ : ∃ g, g = (g8 && b10) := ⟨_, rfl⟩
  have G9 := hid hg9
  clear hg9
  obtain ⟨g10, hg10⟩ : ∃ g, g = (g9 && b11) := ⟨_, rfl⟩
  have G10 := hid hg10
  clear hg10
  obtain ⟨g11, hg11⟩ : ∃ g, g = (g10 && b12) := ⟨_, rfl⟩
  have G11 := hid hg11
  clear hg11
  obtain ⟨g12, hg12⟩ : ∃ g, g = (g11 && b13) := ⟨_, rfl⟩
  have G12 := hid hg12
  clear hg12
  obtain ⟨g13, hg13⟩ : ∃ g, g = (g12 && b14) := ⟨_, rfl⟩
  have G13 := hid hg13
  clear hg13
  have HT : Hid (M.sameM a b = (g13 && (b15 && b16))) := hid (by rw [HS.out, G13.out, G12.out, G11.out, G10.out, G9.out, G8.out, G7.out, G6.out, G5.out, G4.out, G3.out, G2.out, G1.out]; simp only [Bool.and_assoc])
  clear HS
  refine wp_region_lit ?_
  refine wl_yes 5 (v := ?_) rfl (by kernel_rfl) ?hy5 ?rest5
  case hy5 => (go_simp; first | done | with_reducible rfl)
  try simp only [Act.put, List.setIfInBounds_toArray, List.set_cons_zero, List.set_cons_succ]
  refine wl_yes 6 (v := ?_) rfl (by kernel_rfl) ?hy6 ?rest6
  case hy6 => (have z0 := A1.out.cell (i := 0) (v := .string a.name) rfl; go_simp; first | done | with_reducible rfl)
  try simp only [Act.put, List.setIfInBounds_toArray, List.set_cons_zero, List.set_cons_succ]
  refine wl_yes 7 (v := ?_) rfl (by kernel_rfl) ?hy7 ?rest7
  case hy7 => (go_simp; first | done | with_reducible rfl)
  try simp only [Act.put, List.setIfInBounds_toArray, List.set_cons_zero, List.set_cons_succ]
  refine wl_yes 8 (v := ?_) rfl (by kernel_rfl) ?hy8 ?rest8
  case hy8 => (have z0 := B1.out.cell (i := 0) (v := .string b.name) rfl; go_simp; first | done | with_reducible rfl)
  try simp only [Act.put, List.setIfInBounds_toArray, List.set_cons_zero, List.set_cons_succ]
  refine wl_yes 9 (v := .bool b0) rfl (by kernel_rfl) ?hy9 ?rest9
  case hy9 => (rw [← T0.out]; go_simp; first | done | with_reducible rfl)
  try simp only [Act.put, List.setIfInBounds_toArray, List.set_cons_zero, List.set_cons_succ]
  refine wl_yes 10 (v := ?_) rfl (by kernel_rfl) ?hy10 ?rest10
  case hy10 => (go_simp; first | done | with_reducible rfl)
  try simp only [Act.put, List.setIfInBounds_toArray, List.set_cons_zero, List.set_cons_succ]
  refine wl_if 11 b0 (v := ?_) rfl (by cases b0 <;> kernel_rfl) ?hy11 ?rest11
  case hy11 => (intro hg; subst hg; (try simp only [cond_true]); go_simp; first | done | with_reducible rfl)
  try simp only [Act.put, List.setIfInBounds_toArray, List.set_cons_zero, List.set_cons_succ]
  refine wl_if 12 b0 (v := ?_) rfl (by cases b0 <;> kernel_rfl) ?hy12 ?rest12
  case hy12 => (intro hg; subst hg; (try simp only [cond_true]); have z1 := A1.out.cell (i := 1) (v := .string a.link) rfl; go_simp; first | done | with_reducible rfl)
  try simp only [Act.put, List.setIfInBounds_toArray, List.set_cons_zero, List.set_cons_succ]
  refine wl_if 13 b0 (v := ?_) rfl (by cases b0 <;> kernel_rfl) ?hy13 ?rest13
  case hy13 => (intro hg; subst hg; (try simp only [cond_true]); go_simp; first | done | with_reducible rfl)
  try simp only [Act.put, List.setIfInBounds_toArray, List.set_cons_zero, List.set_cons_succ]
  refine wl_if 14 b0 (v := ?_) rfl (by cases b0 <;> kernel_rfl) ?hy14 ?rest14
  case hy14 => (intro hg; subst hg; (try simp only [cond_true]); have z1 := B1.out.cell (i := 1) (v := .string b.link) rfl; go_simp; first | done | with_reducible rfl)
  try simp only [Act.put, List.setIfInBounds_toArray, List.set_cons_zero, List.set_cons_succ]
  refine wl_if 15 b0 (v := .bool b1) rfl (by cases b0 <;> kernel_rfl) ?hy15 ?rest15
  case hy15 => (intro hg; subst hg; (try simp only [cond_true]); rw [← T1.out]; go_simp; first | done | with_reducible rfl)
  try simp only [Act.put, List.setIfInBounds_toArray, List.set_cons_zero, List.set_cons_succ]
  refine wl_yes 16 (v := .bool g1) rfl (by kernel_rfl) ?hy16 ?rest16
  case hy16 => (rw [G1.out]; cases b0 <;> (go_simp; first | done | with_reducible rfl))
  try simp only [Act.put, List.setIfInBounds_toArray, List.set_cons_zero, List.set_cons_succ]
  refine wl_yes 17 (v := ?_) rfl (by kernel_rfl) ?hy17 ?rest17
  case hy17 => (go_simp; first | done | with_reducible rfl)
  try simp only [Act.put, List.setIfInBounds_toArray, List.set_cons_zero, List.set_cons_succ]
  refine wl_if 18 g1 (v := ?_) rfl (by cases g1 <;> kernel_rfl) ?hy18 ?rest18
  case hy18 => (intro hg; subst hg; (try simp only [cond_true]); go_simp; first | done | with_reducible rfl)
  try simp only [Act.put, List.setIfInBounds_toArray, List.set_cons_zero, List.set_cons_succ]
  refine wl_if 19 g1 (v := ?_) rfl (by cases g1 <;> kernel_rfl) ?hy19 ?rest19
  case hy19 => (intro hg; subst hg; (try simp only [cond_true]); have z2 := A1.out.cell (i := 2) (v := .int .u8 a.kind) rfl; go_simp; first | done | with_reducible rfl)
  try simp only [Act.put, List.setIfInBounds_toArray, List.set_cons_zero, List.set_cons_succ]
  refine wl_if 20 g1 (v := ?_) rfl (by cases g1 <;> kernel_rfl) ?hy20 ?rest20
  case hy20 => (intro hg; subst hg; (try simp only [cond_true]); go_simp; first | done | with_reducible rfl)
  try simp only [Act.put, List.setIfInBounds_toArray, List.set_cons_zero, List.set_cons_succ]
  refine wl_if 21 g1 (v := ?_) rfl (by cases g1 <;> kernel_rfl) ?hy21 ?rest21
  case hy21 => (intro hg; subst hg; (try simp only [cond_true]); have z2 := B1.out.cell (i := 2) (v := .int .u8 b.kind) rfl; go_simp; first | done | with_reducible rfl)
  try simp only [Act.put, List.setIfInBounds_toArray, List.set_cons_zero, List.set_cons_succ]
  refine wl_if 22 g1 (v := .bool b2) rfl (by cases g1 <;> kernel_rfl) ?hy22 ?rest22
  case hy22 => (intro hg; subst hg; (try simp only [cond_true]); rw [← T2.out]; go_simp; first | done | with_reducible rfl)
  try simp only [Act.put, List.setIfInBounds_toArray, List.set_cons_zero, List.set_cons_succ]
  refine wl_yes 23 (v := .bool g2) rfl (by kernel_rfl) ?hy23 ?rest23
  case hy23 => (rw [G2.out]; cases g1 <;> (go_simp; first | done | with_reducible rfl))
  try simp only [Act.put, List.setIfInBounds_toArray, List.set_cons_zero, List.set_cons_succ]
  refine wl_yes 24 (v := ?_) rfl (by kernel_rfl) ?hy24 ?rest24
  case hy24 => (go_simp; first | done | with_reducible rfl)
  try simp only [Act.put, List.setIfInBounds_toArray, List.set_cons_zero, List.set_cons_succ]
  refine wl_if 25 g2 (v := ?_) rfl (by cases g2 <;> kernel_rfl) ?hy25 ?rest25
  case hy25 => (intro hg; subst hg; (try simp only [cond_true]); go_simp; first | done | with_reducible rfl)
  try simp only [Act.put, List.setIfInBounds_toArray, List.set_cons_zero, List.set_cons_succ]
  refine wl_if 26 g2 (v := ?_) rfl (by cases g2 <;> kernel_rfl) ?hy26 ?rest26
  case hy26 => (intro hg; subst hg; (try simp only [cond_true]); have z3 := A1.out.cell (i := 3) (v := .int .i64 a.mode) rfl; go_simp; first | done | with_reducible rfl)
  try simp only [Act.put, List.setIfInBounds_toArray, List.set_cons_zero, List.set_cons_succ]
  refine wl_if 27 g2 (v := ?_) rfl (by cases g2 <;> kernel_rfl) ?hy27 ?rest27
  case hy27 => (intro hg; subst hg; (try simp only [cond_true]); go_simp; first | done | with_reducible rfl)
  try simp only [Act.put, List.setIfInBounds_toArray, List.set_cons_zero, List.set_cons_succ]
  refine wl_if 28 g2 (v := ?_) rfl (by cases g2 <;> kernel_rfl) ?hy28 ?rest28
  case hy28 => (intro hg; subst hg; (try simp only [cond_true]); have z3 := B1.out.cell (i := 3) (v := .int .i64 b.mode) rfl; go_simp; first | done | with_reducible rfl)
  try simp only [Act.put, List.setIfInBounds_toArray, List.set_cons_zero, List.set_cons_succ]
  refine wl_if 29 g2 (v := .bool b3) rfl (by cases g2 <;> kernel_rfl) ?hy29 ?rest29
  case hy29 => (intro hg; subst hg; (try simp only [cond_true]); rw [← T3.out]; go_simp; first | done | with_reducible rfl)
  try simp only [Act.put, List.setIfInBounds_toArray, List.set_cons_zero, List.set_cons_succ]
  refine wl_yes 30 (v := .bool g3) rfl (by kernel_rfl) ?hy30 ?rest30
  case hy30 => (rw [G3.out]; cases g2 <;> (go_simp; first | done | with_reducible rfl))
  try simp only [Act.put, List.setIfInBounds_toArray, List.set_cons_zero, List.set_cons_succ]
  refine wl_yes 31 (v := ?_) rfl (by kernel_rfl) ?hy31 ?rest31
  case hy31 => (go_simp; first | done | with_reducible rfl)
  try simp only [Act.put, List.setIfInBounds_toArray, List.set_cons_zero, List.set_cons_succ]
  refine wl_if 32 g3 (v := ?_) rfl (by cases g3 <;> kernel_rfl) ?hy32 ?rest32
  case hy32 => (intro hg; subst hg; (try simp only [cond_true]); go_simp; first | done | with_reducible rfl)
  try simp only [Act.put, List.setIfInBounds_toArray, List.set_cons_zero, List.set_cons_succ]
  refine wl_if 33 g3 (v := ?_) rfl (by cases g3 <;> kernel_rfl) ?hy33 ?rest33
  case hy33 => (intro hg; subst hg; (try simp only [cond_true]); have z4 := A1.out.cell (i := 4) (v := .int .i64 a.uid) rfl; go_simp; first | done | with_reducible rfl)
  try simp only [Act.put, List.setIfInBounds_toArray, List.set_cons_zero, List.set_cons_succ]
  refine wl_if 34 g3 (v := ?_) rfl (by cases g3 <;> kernel_rfl) ?hy34 ?rest34
  case hy34 => (intro hg; subst hg; (try simp only [cond_true]); go_simp; first | done | with_reducible rfl)
  try simp only [Act.put, List.setIfInBounds_toArray, List.set_cons_zero, List.set_cons_succ]
  refine wl_if 35 g3 (v := ?_) rfl (by cases g3 <;> kernel_rfl) ?hy35 ?rest35
  case hy35 => (intro hg; subst hg; (try simp only [cond_true]); have z4 := B1.out.cell (i := 4) (v := .int .i64 b.uid) rfl; go_simp; first | done | with_reducible rfl)
  try simp only [Act.put, List.setIfInBounds_toArray, List.set_cons_zero, List.set_cons_succ]
  refine wl_if 36 g3 (v := .bool b4) rfl (by cases g3 <;> kernel_rfl) ?hy36 ?rest36
  case hy36 => (intro hg; subst hg; (try simp only [cond_true]); rw [← T4.out]; go_simp; first | done | with_reducible rfl)
  try simp only [Act.put, List.setIfInBounds_toArray, List.set_cons_zero, List.set_cons_succ]
  refine wl_yes 37 (v := .bool g4) rfl (by kernel_rfl) ?hy37 ?rest37
  case hy37 => (rw [G4.out]; cases g3 <;> (go_simp; first | done | with_reducible rfl))
  try simp only [Act.put, List.setIfInBounds_toArray, List.set_cons_zero, List.set_cons_succ]
  refine wl_yes 38 (v := ?_) rfl (by kernel_rfl) ?hy38 ?rest38
  case hy38 => (go_simp; first | done | with_reducible rfl)
  try simp only [Act.put, List.setIfInBounds_toArray, List.set_cons_zero, List.set_cons_succ]
  refine wl_if 39 g4 (v := ?_) rfl (by cases g4 <;> kernel_rfl) ?hy39 ?rest39
  case hy39 => (intro hg; subst hg; (try simp only [cond_true]); go_simp; first | done | with_reducible rfl)
  try simp only [Act.put, List.setIfInBounds_toArray, List.set_cons_zero, List.set_cons_succ]
  refine wl_if 40 g4 (v := ?_) rfl (by cases g4 <;> kernel_rfl) ?hy40 ?rest40
  case hy40 => (intro hg; subst hg; (try simp only [cond_true]); have z5 := A1.out.cell (i := 5) (v := .int .i64 a.gid) rfl; go_simp; first | done | with_reducible rfl)
  try simp only [Act.put, List.setIfInBounds_toArray, List.set_cons_zero, List.set_cons_succ]
  refine wl_if 41 g4 (v := ?_) rfl (by cases g4 <;> kernel_rfl) ?hy41 ?rest41
  case hy41 => (intro hg; subst hg; (try simp only [cond_true]); go_simp; first | done | with_reducible rfl)
  try simp only [Act.put, List.setIfInBounds_toArray, List.set_cons_zero, List.set_cons_succ]
  refine wl_if 42 g4 (v := ?_) rfl (by cases g4 <;> kernel_rfl) ?hy42 ?rest42
  case hy42 => (intro hg; subst hg; (try simp only [cond_true]); have z5 := B1.out.cell (i := 5) (v := .int .i64 b.gid) rfl; go_simp; first | done | with_reducible rfl)
  try simp only [Act.put, List.setIfInBounds_toArray, List.set_cons_zero, List.set_cons_succ]
  refine wl_if 43 g4 (v := .bool b5) rfl (by cases g4 <;> kernel_rfl) ?hy43 ?rest43
  case hy43 => (intro hg; subst hg; (try simp only [cond_true]); rw [← T5.out]; go_simp; first | done | with_reducible rfl)
  try simp only [Act.put, List.setIfInBounds_toArray, List.set_cons_zero, List.set_cons_succ]
  refine wl_yes 44 (v := .bool g5) rfl (by kernel_rfl) ?hy44 ?rest44
  case hy44 => (rw [G5.out]; cases g4 <;> (go_simp; first | done | with_reducible rfl))
  try simp only [Act.put, List.setIfInBounds_toArray, List.set_cons_zero, List.set_cons_succ]
  refine wl_yes 45 (v := ?_) rfl (by kernel_rfl) ?hy45 ?rest45
  case hy45 => (go_simp; first | done | with_reducible rfl)
  try simp only [Act.put, List.setIfInBounds_toArray, List.set_cons_zero, List.set_cons_succ]
  refine wl_if 46 g5 (v := ?_) rfl (by cases g5 <;> kernel_rfl) ?hy46 ?rest46
  case hy46 => (intro hg; subst hg; (try simp only [cond_true]); go_simp; first | done | with_reducible rfl)
  try simp only [Act.put, List.setIfInBounds_toArray, List.set_cons_zero, List.set_cons_succ]
  refine wl_if 47 g5 (v := ?_) rfl (by cases g5 <;> kernel_rfl) ?hy47 ?rest47
  case hy47 => (intro hg; subst hg; (try simp only [cond_true]); have z6 := A1.out.cell (i := 6) (v := .string a.user) rfl; go_simp; first | done | with_reducible rfl)
  try simp only [Act.put, List.setIfInBounds_toArray, List.set_cons_zero, List.set_cons_succ]
  refine wl_if 48 g5 (v := ?_) rfl (by cases g5 <;> kernel_rfl) ?hy48 ?rest48
  case hy48 => (intro hg; subst hg; (try simp only [cond_true]); go_simp; first | done | with_reducible rfl)
  try simp only [Act.put, List.setIfInBounds_toArray, List.set_cons_zero, List.set_cons_succ]
  refine wl_if 49 g5 (v := ?_) rfl (by cases g5 <;> kernel_rfl) ?hy49 ?rest49
  case hy49 => (intro hg; subst hg; (try simp only [cond_true]); have z6 := B1.out.cell (i := 6) (v := .string b.user) rfl; go_simp; first | done | with_reducible rfl)
  try simp only [Act.put, List.setIfInBounds_toArray, List.set_cons_zero, List.set_cons_succ]
  refine wl_if 50 g5 (v := .bool b6) rfl (by cases g5 <;> kernel_rfl) ?hy50 ?rest50
  case hy50 => (intro hg; subst hg; (try simp only [cond_true]); rw [← T6.out]; go_simp; first | done | with_reducible rfl)
  try simp only [Act.put, List.setIfInBounds_toArray, List.set_cons_zero, List.set_cons_succ]
  refine wl_yes 51 (v := .bool g6) rfl (by kernel_rfl) ?hy51 ?rest51
  case hy51 => (rw [G6.out]; cases g5 <;> (go_simp; first | done | with_reducible rfl))
  try simp only [Act.put, List.setIfInBounds_toArray, List.set_cons_zero, List.set_cons_succ]
  refine wl_yes 52 (v := ?_) rfl (by kernel_rfl) ?hy52 ?rest52
  case hy52 => (go_simp; first | done | with_reducible rfl)
  try simp only [Act.put, List.setIfInBounds_toArray, List.set_cons_zero, List.set_cons_succ]
  refine wl_if 53 g6 (v := ?_) rfl (by cases g6 <;> kernel_rfl) ?hy53 ?rest53
  case hy53 => (intro hg; subst hg; (try simp only [cond_true]); go_simp; first | done | with_reducible rfl)
  try simp only [Act.put, List.setIfInBounds_toArray, List.set_cons_zero, List.set_cons_succ]
  refine wl_if 54 g6 (v := ?_) rfl (by cases g6 <;> kernel_rfl) ?hy54 ?rest54
  case hy54 => (intro hg; subst hg; (try simp only [cond_true]); have z7 := A1.out.cell (i := 7) (v := .string a.group) rfl; go_simp; first | done | with_reducible rfl)
  try simp only [Act.put, List.setIfInBounds_toArray, List.set_cons_zero, List.set_cons_succ]
  refine wl_if 55 g6 (v := ?_) rfl (by cases g6 <;> kernel_rfl) ?hy55 ?rest55
  case hy55 => (intro hg; subst hg; (try simp only [cond_true]); go_simp; first | done | with_reducible rfl)
  try simp only [Act.put, List.setIfInBounds_toArray, List.set_cons_zero, List.set_cons_succ]
  refine wl_if 56 g6 (v := ?_) rfl (by cases g6 <;> kernel_rfl) ?hy56 ?rest56
  case hy56 => (intro hg; subst hg; (try simp only [cond_true]); have z7 := B1.out.cell (i := 7) (v := .string b.group) rfl; go_simp; first | done | with_reducible rfl)
  try simp only [Act.put, List.setIfInBounds_toArray, List.set_cons_zero, List.set_cons_succ]
  refine wl_if 57 g6 (v := .bool b7) rfl (by cases g6 <;> kernel_rfl) ?hy57 ?rest57
  case hy57 => (intro hg; subst hg; (try simp only [cond_true]); rw [← T7.out]; go_simp; first | done | with_reducible rfl)
  try simp only [Act.put, List.setIfInBounds_toArray, List.set_cons_zero, List.set_cons_succ]
  refine wl_yes 58 (v := .bool g7) rfl (by kernel_rfl) ?hy58 ?rest58
  case hy58 => (rw [G7.out]; cases g6 <;> (go_simp; first | done | with_reducible rfl))
  try simp only [Act.put, List.setIfInBounds_toArray, List.set_cons_zero, List.set_cons_succ]
  refine wl_yes 59 (v := ?_) rfl (by kernel_rfl) ?hy59 ?rest59
  case hy59 => (go_simp; first | done | with_reducible rfl)
  try simp only [Act.put, List.setIfInBounds_toArray, List.set_cons_zero, List.set_cons_succ]
  refine wl_if 60 g7 (v := ?_) rfl (by cases g7 <;> kernel_rfl) ?hy60 ?rest60
  case hy60 => (intro hg; subst hg; (try simp only [cond_true]); go_simp; first | done | with_reducible rfl)
  try simp only [Act.put, List.setIfInBounds_toArray, List.set_cons_zero, List.set_cons_succ]
  refine wl_if 61 g7 (v := ?_) rfl (by cases g7 <;> kernel_rfl) ?hy61 ?rest61
  case hy61 => (intro hg; subst hg; (try simp only [cond_true]); have z8 := A1.out.cell (i := 8) (v := .int .i64 a.sec) rfl; have z9 := A1.out.cell (i := 9) (v := .int .i64 a.nan) rfl; go_simp; first | done | with_reducible rfl)
  try simp only [Act.put, List.setIfInBounds_toArray, List.set_cons_zero, List.set_cons_succ]
  refine wl_if 62 g7 (v := ?_) rfl (by cases g7 <;> kernel_rfl) ?hy62 ?rest62
  case hy62 => (intro hg; subst hg; (try simp only [cond_true]); go_simp; first | done | with_reducible rfl)
  try simp only [Act.put, List.setIfInBounds_toArray, List.set_cons_zero, List.set_cons_succ]
  refine wl_if 63 g7 (v := ?_) rfl (by cases g7 <;> kernel_rfl) ?hy63 ?rest63
  case hy63 => (intro hg; subst hg; (try simp only [cond_true]); have z8 := B1.out.cell (i := 8) (v := .int .i64 b.sec) rfl; have z9 := B1.out.cell (i := 9) (v := .int .i64 b.nan) rfl; go_simp; first | done | with_reducible rfl)
  try simp only [Act.put, List.setIfInBounds_toArray, List.set_cons_zero, List.set_cons_succ]
  refine wl_if 64 g7 (v := .bool (b8 && b9)) rfl (by cases g7 <;> kernel_rfl) ?hy64 ?rest64
  case hy64 => (intro hg; subst hg; (try simp only [cond_true]); rw [← T8.out, ← T9.out]; go_simp; by_cases e1 : a.sec = b.sec <;> by_cases e2 : a.nan = b.nan <;> simp [e1, e2])
  try simp only [Act.put, List.setIfInBounds_toArray, List.set_cons_zero, List.set_cons_succ]
  refine wl_yes 65 (v := .bool g8) rfl (by kernel_rfl) ?hy65 ?rest65
  case hy65 => (rw [G8.out]; cases g7 <;> (go_simp; first | done | with_reducible rfl))
  try simp only [Act.put, List.setIfInBounds_toArray, List.set_cons_zero, List.set_cons_succ]
  refine wl_yes 66 (v := ?_) rfl (by kernel_rfl) ?hy66 ?rest66
  case hy66 => (go_simp; first | done | with_reducible rfl)
  try simp only [Act.put, List.setIfInBounds_toArray, List.set_cons_zero, List.set_cons_succ]
  refine wl_if 67 g8 (v := ?_) rfl (by cases g8 <;> kernel_rfl) ?hy67 ?rest67
  case hy67 => (intro hg; subst hg; (try simp only [cond_true]); go_simp; first | done | with_reducible rfl)
  try simp only [Act.put, List.setIfInBounds_toArray, List.set_cons_zero, List.set_cons_succ]
  refine wl_if 68 g8 (v := ?_) rfl (by cases g8 <;> kernel_rfl) ?hy68 ?rest68
  case hy68 => (intro hg; subst hg; (try simp only [cond_true]); have z10 := A1.out.cell (i := 10) (v := .int .i64 a.major) rfl; go_simp; first | done | with_reducible rfl)
  try simp only [Act.put, List.setIfInBounds_toArray, List.set_cons_zero, List.set_cons_succ]
  refine wl_if 69 g8 (v := ?_) rfl (by cases g8 <;> kernel_rfl) ?hy69 ?rest69
  case hy69 => (intro hg; subst hg; (try simp only [cond_true]); go_simp; first | done | with_reducible rfl)
  try simp only [Act.put, List.setIfInBounds_toArray, List.set_cons_zero, List.set_cons_succ]
  refine wl_if 70 g8 (v := ?_) rfl (by cases g8 <;> kernel_rfl) ?hy70 ?rest70
  case hy70 => (intro hg; subst hg; (try simp only [cond_true]); have z10 := B1.out.cell (i := 10) (v := .int .i64 b.major) rfl; go_simp; first | done | with_reducible rfl)
  try simp only [Act.put, List.setIfInBounds_toArray, List.set_cons_zero, List.set_cons_succ]
  refine wl_if 71 g8 (v := .bool b10) rfl (by cases g8 <;> kernel_rfl) ?hy71 ?rest71
  case hy71 => (intro hg; subst hg; (try simp only [cond_true]); rw [← T10.out]; go_simp; first | done | with_reducible rfl)
  try simp only [Act.put, List.setIfInBounds_toArray, List.set_cons_zero, List.set_cons_succ]
  refine wl_yes 72 (v := .bool g9) rfl (by kernel_rfl) ?hy72 ?rest72
  case hy72 => (rw [G9.out]; cases g8 <;> (go_simp; first | done | with_reducible rfl))
  try simp only [Act.put, List.setIfInBounds_toArray, List.set_cons_zero, List.set_cons_succ]
  refine wl_yes 73 (v := ?_) rfl (by kernel_rfl) ?hy73 ?rest73
  case hy73 => (go_simp; first | done | with_reducible rfl)
  try simp only [Act.put, List.setIfInBounds_toArray, List.set_cons_zero, List.set_cons_succ]
  refine wl_if 74 g9 (v := ?_) rfl (by cases g9 <;> kernel_rfl) ?hy74 ?rest74
  case hy74 => (intro hg; subst hg; (try simp only [cond_true]); go_simp; first | done | with_reducible rfl)
  try simp only [Act.put, List.setIfInBounds_toArray, List.set_cons_zero, List.set_cons_succ]
  refine wl_if 75 g9 (v := ?_) rfl (by cases g9 <;> kernel_rfl) ?hy75 ?rest75
  case hy75 => (intro hg; subst hg; (try simp only [cond_true]); have z11 := A1.out.cell (i := 11) (v := .int .i64 a.minor) rfl; go_simp; first | done | with_reducible rfl)
  try simp only [Act.put, List.setIfInBounds_toArray, List.set_cons_zero, List.set_cons_succ]
  refine wl_if 76 g9 (v := ?_) rfl (by cases g9 <;> kernel_rfl) ?hy76 ?rest76
  case hy76 => (intro hg; subst hg; (try simp only [cond_true]); go_simp; first | done | with_reducible rfl)
  try simp only [Act.put, List.setIfInBounds_toArray, List.set_cons_zero, List.set_cons_succ]
  refine wl_if 77 g9 (v := ?_) rfl (by cases g9 <;> kernel_rfl) ?hy77 ?rest77
  case hy77 => (intro hg; subst hg; (try simp only [cond_true]); have z11 := B1.out.cell (i := 11) (v := .int .i64 b.minor) rfl; go_simp; first | done | with_reducible rfl)
  try simp only [Act.put, List.setIfInBounds_toArray, List.set_cons_zero, List.set_cons_succ]
  refine wl_if 78 g9 (v := .bool b11) rfl (by cases g9 <;> kernel_rfl) ?hy78 ?rest78
  case hy78 => (intro hg; subst hg; (try simp only [cond_true]); rw [← T11.out]; go_simp; first | done | with_reducible rfl)
  try simp only [Act.put, List.setIfInBounds_toArray, List.set_cons_zero, List.set_cons_succ]
  refine wl_yes 79 (v := .bool g10) rfl (by kernel_rfl) ?hy79 ?rest79
  case hy79 => (rw [G10.out]; cases g9 <;> (go_simp; first | done | with_reducible rfl))
  try simp only [Act.put, List.setIfInBounds_toArray, List.set_cons_zero, List.set_cons_succ]
  refine wl_yes 80 (v := ?_) rfl (by kernel_rfl) ?hy80 ?rest80
  case hy80 => (go_simp; first | done | with_reducible rfl)
  try simp only [Act.put, List.setIfInBounds_toArray, List.set_cons_zero, List.set_cons_succ]
  refine wl_if 81 g10 (v := ?_) rfl (by cases g10 <;> kernel_rfl) ?hy81 ?rest81
  case hy81 => (intro hg; subst hg; (try simp only [cond_true]); go_simp; first | done | with_reducible rfl)
  try simp only [Act.put, List.setIfInBounds_toArray, List.set_cons_zero, List.set_cons_succ]
  refine wl_if 82 g10 (v := ?_) rfl (by cases g10 <;> kernel_rfl) ?hy82 ?rest82
  case hy82 => (intro hg; subst hg; (try simp only [cond_true]); have z12 := A1.out.cell (i := 12) (v := .int .i64 a.size) rfl; go_simp; first | done | with_reducible rfl)
  try simp only [Act.put, List.setIfInBounds_toArray, List.set_cons_zero, List.set_cons_succ]
  refine wl_if 83 g10 (v := ?_) rfl (by cases g10 <;> kernel_rfl) ?hy83 ?rest83
  case hy83 => (intro hg; subst hg; (try simp only [cond_true]); go_simp; first | done | with_reducible rfl)
  try simp only [Act.put, List.setIfInBounds_toArray, List.set_cons_zero, List.set_cons_succ]
  refine wl_if 84 g10 (v := ?_) rfl (by cases g10 <;> kernel_rfl) ?hy84 ?rest84
  case hy84 => (intro hg; subst hg; (try simp only [cond_true]); have z12 := B1.out.cell (i := 12) (v := .int .i64 b.size) rfl; go_simp; first | done | with_reducible rfl)
  try simp only [Act.put, List.setIfInBounds_toArray, List.set_cons_zero, List.set_cons_succ]
  refine wl_if 85 g10 (v := .bool b12) rfl (by cases g10 <;> kernel_rfl) ?hy85 ?rest85
  case hy85 => (intro hg; subst hg; (try simp only [cond_true]); rw [← T12.out]; go_simp; first | done | with_reducible rfl)
  try simp only [Act.put, List.setIfInBounds_toArray, List.set_cons_zero, List.set_cons_succ]
  refine wl_yes 86 (v := .bool g11) rfl (by kernel_rfl) ?hy86 ?rest86
  case hy86 => (rw [G11.out]; cases g10 <;> (go_simp; first | done | with_reducible rfl))
  try simp only [Act.put, List.setIfInBounds_toArray, List.set_cons_zero, List.set_cons_succ]
  refine wl_yes 87 (v := ?_) rfl (by kernel_rfl) ?hy87 ?rest87
  case hy87 => (go_simp; first | done | with_reducible rfl)
  try simp only [Act.put, List.setIfInBounds_toArray, List.set_cons_zero, List.set_cons_succ]
  refine wl_if 88 g11 (v := ?_) rfl (by cases g11 <;> kernel_rfl) ?hy88 ?rest88
  case hy88 => (intro hg; subst hg; (try simp only [cond_true]); go_simp; first | done | with_reducible rfl)
  try simp only [Act.put, List.setIfInBounds_toArray, List.set_cons_zero, List.set_cons_succ]
  refine wl_if 89 g11 (v := ?_) rfl (by cases g11 <;> kernel_rfl) ?hy89 ?rest89
  case hy89 => (intro hg; subst hg; (try simp only [cond_true]); have z13 := A1.out.cell (i := 13) (v := .int .i64 a.real) rfl; go_simp; first | done | with_reducible rfl)
  try simp only [Act.put, List.setIfInBounds_toArray, List.set_cons_zero, List.set_cons_succ]
  refine wl_if 90 g11 (v := ?_) rfl (by cases g11 <;> kernel_rfl) ?hy90 ?rest90
  case hy90 => (intro hg; subst hg; (try simp only [cond_true]); go_simp; first | done | with_reducible rfl)
  try simp only [Act.put, List.setIfInBounds_toArray, List.set_cons_zero, List.set_cons_succ]
  refine wl_if 91 g11 (v := ?_) rfl (by cases g11 <;> kernel_rfl) ?hy91 ?rest91
  case hy91 => (intro hg; subst hg; (try simp only [cond_true]); have z13 := B1.out.cell (i := 13) (v := .int .i64 b.real) rfl; go_simp; first | done | with_reducible rfl)
  try simp only [Act.put, List.setIfInBounds_toArray, List.set_cons_zero, List.set_cons_succ]
  refine wl_if 92 g11 (v := .bool b13) rfl (by cases g11 <;> kernel_rfl) ?hy92 ?rest92
  case hy92 => (intro hg; subst hg; (try simp only [cond_true]); rw [← T13.out]; go_simp; first | done | with_reducible rfl)
  try simp only [Act.put, List.setIfInBounds_toArray, List.set_cons_zero, List.set_cons_succ]
  refine wl_yes 93 (v := .bool g12) rfl (by kernel_rfl) ?hy93 ?rest93
  case hy93 => (rw [G12.out]; cases g11 <;> (go_simp; first | done | with_reducible rfl))
  try simp only [Act.put, List.setIfInBounds_toArray, List.set_cons_zero, List.set_cons_succ]
  refine wl_yes 94 (v := ?_) rfl (by kernel_rfl) ?hy94 ?rest94
  case hy94 => (go_simp; first | done | with_reducible rfl)
  try simp only [Act.put, List.setIfInBounds_toArray, List.set_cons_zero, List.set_cons_succ]
  refine wl_if 95 g12 (v := ?_) rfl (by cases g12 <;> kernel_rfl) ?hy95 ?rest95
  case hy95 => (intro hg; subst hg; (try simp only [cond_true]); go_simp; first | done | with_reducible rfl)
  try simp only [Act.put, List.setIfInBounds_toArray, List.set_cons_zero, List.set_cons_succ]
  refine wl_if 96 g12 (v := ?_) rfl (by cases g12 <;> kernel_rfl) ?hy96 ?rest96
  case hy96 => (intro hg; subst hg; (try simp only [cond_true]); have z14 := A1.out.cell (i := 14) (v := .bool a.holes) rfl; go_simp; first | done | with_reducible rfl)
  try simp only [Act.put, List.setIfInBounds_toArray, List.set_cons_zero, List.set_cons_succ]
  refine wl_if 97 g12 (v := ?_) rfl (by cases g12 <;> kernel_rfl) ?hy97 ?rest97
  case hy97 => (intro hg; subst hg; (try simp only [cond_true]); go_simp; first | done | with_reducible rfl)
  try simp only [Act.put, List.setIfInBounds_toArray, List.set_cons_zero, List.set_cons_succ]
  refine wl_if 98 g12 (v := ?_) rfl (by cases g12 <;> kernel_rfl) ?hy98 ?rest98
  case hy98 => (intro hg; subst hg; (try simp only [cond_true]); have z14 := B1.out.cell (i := 14) (v := .bool b.holes) rfl; go_simp; first | done | with_reducible rfl)
  try simp only [Act.put, List.setIfInBounds_toArray, List.set_cons_zero, List.set_cons_succ]
  refine wl_if 99 g12 (v := .bool b14) rfl (by cases g12 <;> kernel_rfl) ?hy99 ?rest99
  case hy99 => (intro hg; subst hg; (try simp only [cond_true]); rw [← T14.out]; go_simp; first | done | with_reducible rfl)
  try simp only [Act.put, List.setIfInBounds_toArray, List.set_cons_zero, List.set_cons_succ]
  refine wl_yes 100 (v := .bool g13) rfl (by kernel_rfl) ?hy100 ?rest100
  case hy100 => (rw [G13.out]; cases g12 <;> (go_simp; first | done | with_reducible rfl))
  try simp only [Act.put, List.setIfInBounds_toArray, List.set_cons_zero, List.set_cons_succ]
  refine wl_yes 101 (v := ?_) rfl (by kernel_rfl) ?hy101 ?rest101
  case hy101 => (go_simp; first | done | with_reducible rfl)
  try simp only [Act.put, List.setIfInBounds_toArray, List.set_cons_zero, List.set_cons_succ]
  refine wl_if 102 g13 (v := ?_) rfl (by cases g13 <;> kernel_rfl) ?hy102 ?rest102
  case hy102 => (intro hg; subst hg; (try simp only [cond_true]); go_simp; first | done | with_reducible rfl)
  try simp only [Act.put, List.setIfInBounds_toArray, List.set_cons_zero, List.set_cons_succ]
  refine wl_if 103 g13 (v := ?_) rfl (by cases g13 <;> kernel_rfl) ?hy103 ?rest103
  case hy103 => (intro hg; subst hg; (try simp only [cond_true]); have z15 := A1.out.cell (i := 15) (v := .slice Pa a.parts.length pa) rfl; go_simp; first | done | with_reducible rfl)
  try simp only [Act.put, List.setIfInBounds_toArray, List.set_cons_zero, List.set_cons_succ]
  refine wl_if 104 g13 (v := ?_) rfl (by cases g13 <;> kernel_rfl) ?hy104 ?rest104
  case hy104 => (intro hg; subst hg; (try simp only [cond_true]); go_simp; first | done | with_reducible rfl)
  try simp only [Act.put, List.setIfInBounds_toArray, List.set_cons_zero, List.set_cons_succ]
  refine wl_if 105 g13 (v := ?_) rfl (by cases g13 <;> kernel_rfl) ?hy105 ?rest105
  case hy105 => (intro hg; subst hg; (try simp only [cond_true]); have z15 := B1.out.cell (i := 15) (v := .slice Pb b.parts.length pb) rfl; go_simp; first | done | with_reducible rfl)
  try simp only [Act.put, List.setIfInBounds_toArray, List.set_cons_zero, List.set_cons_succ]
  cases g13 with
  | false =>
    refine wl_if 106 false (v := undef) rfl (by kernel_rfl) (fun h => by cases h) ?rest106
    try simp only [Act.put, List.setIfInBounds_toArray, List.set_cons_zero, List.set_cons_succ]
    refine wl_yes 107 (v := .bool false) rfl (by kernel_rfl) ?hy107 ?rest107
    case hy107 => (go_simp; first | done | with_reducible rfl)
    try simp only [Act.put, List.setIfInBounds_toArray, List.set_cons_zero, List.set_cons_succ]
    refine wl_yes 108 (v := ?_) rfl (by kernel_rfl) ?hy108 ?rest108
    case hy108 => (go_simp; first | done | with_reducible rfl)
    try simp only [Act.put, List.setIfInBounds_toArray, List.set_cons_zero, List.set_cons_succ]
    refine wl_if 109 false (v := undef) rfl (by kernel_rfl) (fun h => by cases h) ?rest109
    try simp only [Act.put, List.setIfInBounds_toArray, List.set_cons_zero, List.set_cons_succ]
    refine wl_if 110 false (v := undef) rfl (by kernel_rfl) (fun h => by cases h) ?rest110
    try simp only [Act.put, List.setIfInBounds_toArray, List.set_cons_zero, List.set_cons_succ]
    refine wl_if 111 false (v := undef) rfl (by kernel_rfl) (fun h => by cases h) ?rest111
    try simp only [Act.put, List.setIfInBounds_toArray, List.set_cons_zero, List.set_cons_succ]
    refine wl_if 112 false (v := undef) rfl (by kernel_rfl) (fun h => by cases h) ?rest112
    try simp only [Act.put, List.setIfInBounds_toArray, List.set_cons_zero, List.set_cons_succ]
    refine wl_if 113 false (v := undef) rfl (by kernel_rfl) (fun h => by cases h) ?rest113
    try simp only [Act.put, List.setIfInBounds_toArray, List.set_cons_zero, List.set_cons_succ]
    refine wl_yes 114 (v := .bool false) rfl (by kernel_rfl) ?hy114 ?rest114
    case hy114 => (go_simp; first | done | with_reducible rfl)
    try simp only [Act.put, List.setIfInBounds_toArray, List.set_cons_zero, List.set_cons_succ]
    refine wl_yes 4 (v := ?_) rfl (by kernel_rfl) ?hy4 ?rest4
    case hy4 => (go_simp; first | done | with_reducible rfl)
    try simp only [Act.put, List.setIfInBounds_toArray, List.set_cons_zero, List.set_cons_succ]
    refine wpList_nil ?_
    go_wp2_with fail
    go_ret
    exact ⟨by rw [HT.out]; rfl, HW.out⟩
  | true =>
    have HP2 := hid (HP.out _ HW.out)
    refine wl_call 106 (v := .bool b15) rfl (by kernel_rfl) (by go_simp; first | done | with_reducible rfl) HP2.out ?_
    intro w5 hb5
    try simp only [Act.put, List.setIfInBounds_toArray, List.set_cons_zero, List.set_cons_succ]
    have HW5 := hid (HW.out.trans (hb5.mono HW.out.size))
    have A5 := hid (A1.out.below hb5 A1.out.lt)
    have B5 := hid (B1.out.below hb5 B1.out.lt)
    clear hb5 HP2
    refine wl_yes 107 (v := .bool b15) rfl (by kernel_rfl) ?hyT107 ?restT107
    case hyT107 => (cases b15 <;> (go_simp; first | done | with_reducible rfl))
    try simp only [Act.put, List.setIfInBounds_toArray, List.set_cons_zero, List.set_cons_succ]
    refine wl_yes 108 (v := ?_) rfl (by kernel_rfl) ?hyT108 ?restT108
    case hyT108 => (go_simp; first | done | with_reducible rfl)
    try simp only [Act.put, List.setIfInBounds_toArray, List.set_cons_zero, List.set_cons_succ]
    refine wl_if 109 b15 (v := ?_) rfl (by cases b15 <;> kernel_rfl) ?hyT109 ?restT109
    case hyT109 => (intro hg; subst hg; (try simp only [cond_true]); go_simp; first | done | with_reducible rfl)
    try simp only [Act.put, List.setIfInBounds_toArray, List.set_cons_zero, List.set_cons_succ]
    refine wl_if 110 b15 (v := ?_) rfl (by cases b15 <;> kernel_rfl) ?hyT110 ?restT110
    case hyT110 => (intro hg; subst hg; (try simp only [cond_true]); have z16 := A5.out.cell (i := 16) (v := .slice Ea a.extra.length ea) rfl; go_simp; first | done | with_reducible rfl)
    try simp only [Act.put, List.setIfInBounds_toArray, List.set_cons_zero, List.set_cons_succ]
    refine wl_if 111 b15 (v := ?_) rfl (by cases b15 <;> kernel_rfl) ?hyT111 ?restT111
    case hyT111 => (intro hg; subst hg; (try simp only [cond_true]); go_simp; first | done | with_reducible rfl)
    try simp only [Act.put, List.setIfInBounds_toArray, List.set_cons_zero, List.set_cons_succ]
    refine wl_if 112 b15 (v := ?_) rfl (by cases b15 <;> kernel_rfl) ?hyT112 ?restT112
    case hyT112 => (intro hg; subst hg; (try simp only [cond_true]); have z16 := B5.out.cell (i := 16) (v := .slice Eb b.extra.length eb) rfl; go_simp; first | done | with_reducible rfl)
    try simp only [Act.put, List.setIfInBounds_toArray, List.set_cons_zero, List.set_cons_succ]
    cases b15 with
    | false =>
      refine wl_if 113 false (v := undef) rfl (by kernel_rfl) (fun h => by cases h) ?restV113
      try simp only [Act.put, List.setIfInBounds_toArray, List.set_cons_zero, List.set_cons_succ]
      refine wl_yes 114 (v := .bool false) rfl (by kernel_rfl) ?hyV114 ?restV114
      case hyV114 => (go_simp; first | done | with_reducible rfl)
      try simp only [Act.put, List.setIfInBounds_toArray, List.set_cons_zero, List.set_cons_succ]
      refine wl_yes 4 (v := ?_) rfl (by kernel_rfl) ?hyV4 ?restV4
      case hyV4 => (go_simp; first | done | with_reducible rfl)
      try simp only [Act.put, List.setIfInBounds_toArray, List.set_cons_zero, List.set_cons_succ]
      refine wpList_nil ?_
      go_wp2_with fail
      go_ret
      exact ⟨by rw [HT.out]; rfl, HW5.out⟩
    | true =>
      have HE2 := hid (HE.out _ HW5.out)
      refine wl_call 113 (v := .bool b16) rfl (by kernel_rfl) (by go_simp; first | done | with_reducible rfl) HE2.out ?_
      intro w6 hb6
      try simp only [Act.put, List.setIfInBounds_toArray, List.set_cons_zero, List.set_cons_succ]
      have HW6 := hid (HW5.out.trans (hb6.mono HW5.out.size))
      refine wl_yes 114 (v := .bool b16) rfl (by kernel_rfl) ?hyU114 ?restU114
      case hyU114 => (cases b16 <;> (go_simp; first | done | with_reducible rfl))
      try simp only [Act.put, List.setIfInBounds_toArray, List.set_cons_zero, List.set_cons_succ]
      refine wl_yes 4 (v := ?_) rfl (by kernel_rfl) ?hyU4 ?restU4
      case hyU4 => (go_simp; first | done | with_reducible rfl)
      try simp only [Act.put, List.setIfInBounds_toArray, List.set_cons_zero, List.set_cons_succ]
      refine wpList_nil ?_
      go_wp2_with fail
      go_ret
      exact ⟨by rw [HT.out]; rfl, HW6.out⟩
set_option maxRecDepth 100000 in
set_option maxHeartbeats 8000000 in
theorem refSame_any (a b : M.Met) (Pa Pb Ea Eb : Option Addr) (pa pb ea eb : Nat) (w : World) (ha : SIn w a (.slice Pa a.parts.length pa) (.slice Ea a.extra.length ea)) (hb : SIn w b (.slice Pb b.parts.length pb) (.slice Eb b.extra.length eb)) :
    Calls Tryz.prog 16 #[.agg (mcells a (.slice Pa a.parts.length pa) (.slice Ea a.extra.length ea)), .agg (mcells b (.slice Pb b.parts.length pb) (.slice Eb b.extra.length eb))] w fun e w' => e = .returned (.bool (M.sameM a b)) ∧ Below w.heap.size w w' := by
  have rows : ∀ {m : M.Met} {P E : Option Addr} {p e : Nat}, SIn w m (.slice P m.parts.length p) (.slice E m.extra.length e) → Sp.RdP w w.heap.size P m.parts.length m.parts ∧ Px.RdR w w.heap.size E m.extra := by
    intro m P E p e h
    obtain ⟨A, c, e1, h1⟩ := h.parts
    obtain ⟨A2, c2, e2, h2⟩ := h.extra
    injection e1 with e1
    injection e2 with e2
    rw [e1, e2]
    exact ⟨h1, h2⟩
  have hra := rows ha
  have hrb := rows hb
  have HP := hid (fun W (hW : Below w.heap.size w W) => sameP_any Pa pa a.parts Pb pb b.parts ha.nparts hb.nparts w.heap.size W (hra.1.below hW) (hrb.1.below hW))
  have HE := hid (fun W (hW : Below w.heap.size w W) => sameR_any Ea ea a.extra Eb eb b.extra ha.nextra hb.nextra w.heap.size W (hra.2.below hW) (hrb.2.below hW))
  clear rows hra hrb ha hb
  have B1 := MB.alloc (MB.new w a (.slice Pa a.parts.length pa) (.slice Ea a.extra.length ea)) (.cells (mcells b (.slice Pb b.parts.length pb) (.slice Eb b.extra.length eb)) 34)
  have B2 := MB.new (w.alloc (.cells (mcells a (.slice Pa a.parts.length pa) (.slice Ea a.extra.length ea)) 34)) b (.slice Pb b.parts.length pb) (.slice Eb b.extra.length eb)
  rw [World.size_alloc] at B2
  have HW := hid (((Below.refl w.heap.size w).alloc (Nat.le_refl _) (.cells (mcells a (.slice Pa a.parts.length pa) (.slice Ea a.extra.length ea)) 34)).alloc (by simp) (.cells (mcells b (.slice Pb b.parts.length pb) (.slice Eb b.extra.length eb)) 34))
  have HS := hid (sameM_eq a b)
  obtain ⟨b0, t0⟩ : ∃ c, (a.name.toList == b.name.toList) = c := ⟨_, rfl⟩
  obtain ⟨b1, t1⟩ : ∃ c, (a.link.toList == b.link.toList) = c := ⟨_, rfl⟩
  obtain ⟨b2, t2⟩ : ∃ c, (a.kind == b.kind) = c := ⟨_, rfl⟩
  obtain ⟨b3, t3⟩ : ∃ c, (a.mode == b.mode) = c := ⟨_, rfl⟩
  obtain ⟨b4, t4⟩ : ∃ c, (a.uid == b.uid) = c := ⟨_, rfl⟩
  obtain ⟨b5, t5⟩ : ∃ c, (a.gid == b.gid) = c := ⟨_, rfl⟩
  obtain ⟨b6, t6⟩ : ∃ c, (a.user.toList == b.user.toList) = c := ⟨_, rfl⟩
  obtain ⟨b7, t7⟩ : ∃ c, (a.group.toList == b.group.toList) = c := ⟨_, rfl⟩
  obtain ⟨b8, t8⟩ : ∃ c, (a.sec == b.sec) = c := ⟨_, rfl⟩
  obtain ⟨b9, t9⟩ : ∃ c, (a.nan == b.nan) = c := ⟨_, rfl⟩
  obtain ⟨b10, t10⟩ : ∃ c, (a.major == b.major) = c := ⟨_, rfl⟩
  obtain ⟨b11, t11⟩ : ∃ c, (a.minor == b.minor) = c := ⟨_, rfl⟩
  obtain ⟨b12, t12⟩ : ∃ c, (a.size == b.size) = c := ⟨_, rfl⟩
  obtain ⟨b13, t13⟩ : ∃ c, (a.real == b.real) = c := ⟨_, rfl⟩
  obtain ⟨b14, t14⟩ : ∃ c, (a.holes == b.holes) = c := ⟨_, rfl⟩
  obtain ⟨b15, t15⟩ : ∃ c, decide (a.parts = b.parts) = c := ⟨_, rfl⟩
  obtain ⟨b16, t16⟩ : ∃ c, decide (a.extra = b.extra) = c := ⟨_, rfl⟩
  rw [t0, t1, t2, t3, t4, t5, t6, t7, t8, t9, t10, t11, t12, t13, t14, t15, t16] at HS
  rw [t15] at HP
  rw [t16] at HE
  have T0 := hid t0
  have T1 := hid t1
  have T2 := hid t2
  have T3 := hid t3
  have T4 := hid t4
  have T5 := hid t5
  have T6 := hid t6
  have T7 := hid t7
  have T8 := hid t8
  have T9 := hid t9
  have T10 := hid t10
  have T11 := hid t11
  have T12 := hid t12
  have T13 := hid t13
  have T14 := hid t14
  clear t0 t1 t2 t3 t4 t5 t6 t7 t8 t9 t10 t11 t12 t13 t14 t15 t16
  have A1 := hid B1
  have B1 := hid B2
  clear B2
  go_enter Tryz.func16, Tryz.ntmps16
  go_upto_region 1 with fail
  generalize World.alloc (World.alloc w _) _ = W at *
  obtain ⟨g1, hg1⟩ : ∃ g, g = (b0 && b1) := ⟨_, rfl⟩
  have G1 := hid hg1
  clear hg1
  obtain ⟨g2, hg2⟩ : ∃ g, g = (g1 && b2) := ⟨_, rfl⟩
  have G2 := hid hg2
  clear hg2
  obtain ⟨g3, hg3⟩ : ∃ g, g = (g2 && b3) := ⟨_, rfl⟩
  have G3 := hid hg3
  clear hg3
  obtain ⟨g4, hg4⟩ : ∃ g, g = (g3 && b4) := ⟨_, rfl⟩
  have G4 := hid hg4
  clear hg4
  obtain ⟨g5, hg5⟩ : ∃ g, g = (g4 && b5) := ⟨_, rfl⟩
  have G5 := hid hg5
  clear hg5
  obtain ⟨g6, hg6⟩ : ∃ g, g = (g5 && b6) := ⟨_, rfl⟩
  have G6 := hid hg6
  clear hg6
  obtain ⟨g7, hg7⟩ : ∃ g, g = (g6 && b7) := ⟨_, rfl⟩
  have G7 := hid hg7
  clear hg7
  obtain ⟨g8, hg8⟩ : ∃ g, g = (g7 && (b8 && b9)) := ⟨_, rfl⟩
  have G8 := hid hg8
  clear hg8
  obtain ⟨g9, hg9⟩ : ∃ g, g = (g8 && b10) := ⟨_, rfl⟩
  have G9 := hid hg9
  clear hg9
  obtain ⟨g10, hg10⟩ : ∃ g, g = (g9 && b11) := ⟨_, rfl⟩
  have G10 := hid hg10
  clear hg10
  obtain ⟨g11, hg11⟩ : ∃ g, g = (g10 && b12) := ⟨_, rfl⟩
  have G11 := hid hg11
  clear hg11
  obtain ⟨g12, hg12⟩ : ∃ g, g = (g11 && b13) := ⟨_, rfl⟩
  have G12 := hid hg12
  clear hg12
  obtain ⟨g13, hg13⟩ : ∃ g, g = (g12 && b14) := ⟨_, rfl⟩
  have G13 := hid hg13
  clear hg13
  have HT : Hid (M.sameM a b = (g13 && (b15 && b16))) := hid (by rw [HS.out, G13.out, G12.out, G11.out, G10.out, G9.out, G8.out, G7.out, G6.out, G5.out, G4.out, G3.out, G2.out, G1.out]; simp only [Bool.and_assoc])
  clear HS
  refine wp_region_lit ?_
  refine wl_yes 6 (v := ?_) rfl (by kernel_rfl) ?hy6 ?rest6
  case hy6 => (go_simp; first | done | with_reducible rfl)
  try simp only [Act.put, List.setIfInBounds_toArray, List.set_cons_zero, List.set_cons_succ]
  refine wl_yes 7 (v := ?_) rfl (by kernel_rfl) ?hy7 ?rest7
  case hy7 => (have z0 := A1.out.cell (i := 0) (v := .string a.name) rfl; go_simp; first | done | with_reducible rfl)
  try simp only [Act.put, List.setIfInBounds_toArray, List.set_cons_zero, List.set_cons_succ]
  refine wl_yes 8 (v := ?_) rfl (by kernel_rfl) ?hy8 ?rest8
  case hy8 => (go_simp; first | done | with_reducible rfl)
  try simp only [Act.put, List.setIfInBounds_toArray, List.set_cons_zero, List.set_cons_succ]
  refine wl_yes 9 (v := ?_) rfl (by kernel_rfl) ?hy9 ?rest9
  case hy9 => (have z0 := B1.out.cell (i := 0) (v := .string b.name) rfl; go_simp; first | done | with_reducible rfl)
  try simp only [Act.put, List.setIfInBounds_toArray, List.set_cons_zero, List.set_cons_succ]
  refine wl_yes 10 (v := .bool b0) rfl (by kernel_rfl) ?hy10 ?rest10
  case hy10 => (rw [← T0.out]; go_simp; first | done | with_reducible rfl)
  try simp only [Act.put, List.setIfInBounds_toArray, List.set_cons_zero, List.set_cons_succ]
  refine wl_yes 11 (v := ?_) rfl (by kernel_rfl) ?hy11 ?rest11
  case hy11 => (go_simp; first | done | with_reducible rfl)
  try simp only [Act.put, List.setIfInBounds_toArray, List.set_cons_zero, List.set_cons_succ]
  refine wl_if 12 b0 (v := ?_) rfl (by cases b0 <;> kernel_rfl) ?hy12 ?rest12
  case hy12 => (intro hg; subst hg; (try simp only [cond_true]); go_simp; first | done | with_reducible rfl)
  try simp only [Act.put, List.setIfInBounds_toArray, List.set_cons_zero, List.set_cons_succ]
  refine wl_if 13 b0 (v := ?_) rfl (by cases b0 <;> kernel_rfl) ?hy13 ?rest13
  case hy13 => (intro hg; subst hg; (try simp only [cond_true]); have z1 := A1.out.cell (i := 1) (v := .string a.link) rfl; go_simp; first | done | with_reducible rfl)
  try simp only [Act.put, List.setIfInBounds_toArray, List.set_cons_zero, List.set_cons_succ]
  refine wl_if 14 b0 (v := ?_) rfl (by cases b0 <;> kernel_rfl) ?hy14 ?rest14
  case hy14 => (intro hg; subst hg; (try simp only [cond_true]); go_simp; first | done | with_reducible rfl)
  try simp only [Act.put, List.setIfInBounds_toArray, List.set_cons_zero, List.set_cons_succ]
  refine wl_if 15 b0 (v := ?_) rfl (by cases b0 <;> kernel_rfl) ?hy15 ?rest15
  case hy15 => (intro hg; subst hg; (try simp only [cond_true]); have z1 := B1.out.cell (i := 1) (v := .string b.link) rfl; go_simp; first | done | with_reducible rfl)
  try simp only [Act.put, List.setIfInBounds_toArray, List.set_cons_zero, List.set_cons_succ]
  refine wl_if 16 b0 (v := .bool b1) rfl (by cases b0 <;> kernel_rfl) ?hy16 ?rest16
  case hy16 => (intro hg; subst hg; (try simp only [cond_true]); rw [← T1.out]; go_simp; first | done | with_reducible rfl)
  try simp only [Act.put, List.setIfInBounds_toArray, List.set_cons_zero, List.set_cons_succ]
  refine wl_yes 17 (v := .bool g1) rfl (by kernel_rfl) ?hy17 ?rest17
  case hy17 => (rw [G1.out]; cases b0 <;> (go_simp; first | done | with_reducible rfl))
  try simp only [Act.put, List.setIfInBounds_toArray, List.set_cons_zero, List.set_cons_succ]
  refine wl_yes 18 (v := ?_) rfl (by kernel_rfl) ?hy18 ?rest18
  case hy18 => (go_simp; first | done | with_reducible rfl)
  try simp only [Act.put, List.setIfInBounds_toArray, List.set_cons_zero, List.set_cons_succ]
  refine wl_if 19 g1 (v := ?_) rfl (by cases g1 <;> kernel_rfl) ?hy19 ?rest19
  case hy19 => (intro hg; subst hg; (try simp only [cond_true]); go_simp; first | done | with_reducible rfl)
  try simp only [Act.put, List.setIfInBounds_toArray, List.set_cons_zero, List.set_cons_succ]
  refine wl_if 20 g1 (v := ?_) rfl (by cases g1 <;> kernel_rfl) ?hy20 ?rest20
  case hy20 => (intro hg; subst hg; (try simp only [cond_true]); have z2 := A1.out.cell (i := 2) (v := .int .u8 a.kind) rfl; go_simp; first | done | with_reducible rfl)
  try simp only [Act.put, List.setIfInBounds_toArray, List.set_cons_zero, List.set_cons_succ]
  refine wl_if 21 g1 (v := ?_) rfl (by cases g1 <;> kernel_rfl) ?hy21 ?rest21
  case hy21 => (intro hg; subst hg; (try simp only [cond_true]); go_simp; first | done | with_reducible rfl)
  try simp only [Act.put, List.setIfInBounds_toArray, List.set_cons_zero, List.set_cons_succ]
  refine wl_if 22 g1 (v := ?_) rfl (by cases g1 <;> kernel_rfl) ?hy22 ?rest22
  case hy22 => (intro hg; subst hg; (try simp only [cond_true]); have z2 := B1.out.cell (i := 2) (v := .int .u8 b.kind) rfl; go_simp; first | done | with_reducible rfl)
  try simp only [Act.put, List.setIfInBounds_toArray, List.set_cons_zero, List.set_cons_succ]
  refine wl_if 23 g1 (v := .bool b2) rfl (by cases g1 <;> kernel_rfl) ?hy23 ?rest23
  case hy23 => (intro hg; subst hg; (try simp only [cond_true]); rw [← T2.out]; go_simp; first | done | with_reducible rfl)
  try simp only [Act.put, List.setIfInBounds_toArray, List.set_cons_zero, List.set_cons_succ]
  refine wl_yes 24 (v := .bool g2) rfl (by kernel_rfl) ?hy24 ?rest24
  case hy24 => (rw [G2.out]; cases g1 <;> (go_simp; first | done | with_reducible rfl))
  try simp only [Act.put, List.setIfInBounds_toArray, List.set_cons_zero, List.set_cons_succ]
  refine wl_yes 25 (v := ?_) rfl (by kernel_rfl) ?hy25 ?rest25
  case hy25 => (go_simp; first | done | with_reducible rfl)
  try simp only [Act.put, List.setIfInBounds_toArray, List.set_cons_zero, List.set_cons_succ]
  refine wl_if 26 g2 (v := ?_) rfl (by cases g2 <;> kernel_rfl) ?hy26 ?rest26
  case hy26 => (intro hg; subst hg; (try simp only [cond_true]); go_simp; first | done | with_reducible rfl)
  try simp only [Act.put, List.setIfInBounds_toArray, List.set_cons_zero, List.set_cons_succ]
  refine wl_if 27 g2 (v := ?_) rfl (by cases g2 <;> kernel_rfl) ?hy27 ?rest27
  case hy27 => (intro hg; subst hg; (try simp only [cond_true]); have z3 := A1.out.cell (i := 3) (v := .int .i64 a.mode) rfl; go_simp; first | done | with_reducible rfl)
  try simp only [Act.put, List.setIfInBounds_toArray, List.set_cons_zero, List.set_cons_succ]
  refine wl_if 28 g2 (v := ?_) rfl (by cases g2 <;> kernel_rfl) ?hy28 ?rest28
  case hy28 => (intro hg; subst hg; (try simp only [cond_true]); go_simp; first | done | with_reducible rfl)
  try simp only [Act.put, List.setIfInBounds_toArray, List.set_cons_zero, List.set_cons_succ]
  refine wl_if 29 g2 (v := ?_) rfl (by cases g2 <;> kernel_rfl) ?hy29 ?rest29
  case hy29 => (intro hg; subst hg; (try simp only [cond_true]); have z3 := B1.out.cell (i := 3) (v := .int .i64 b.mode) rfl; go_simp; first | done | with_reducible rfl)
  try simp only [Act.put, List.setIfInBounds_toArray, List.set_cons_zero, List.set_cons_succ]
  refine wl_if 30 g2 (v := .bool b3) rfl (by cases g2 <;> kernel_rfl) ?hy30 ?rest30
  case hy30 => (intro hg; subst hg; (try simp only [cond_true]); rw [← T3.out]; go_simp; first | done | with_reducible rfl)
  try simp only [Act.put, List.setIfInBounds_toArray, List.set_cons_zero, List.set_cons_succ]
  refine wl_yes 31 (v := .bool g3) rfl (by kernel_rfl) ?hy31 ?rest31
  case hy31 => (rw [G3.out]; cases g2 <;> (go_simp; first | done | with_reducible rfl))
  try simp only [Act.put, List.setIfInBounds_toArray, List.set_cons_zero, List.set_cons_succ]
  refine wl_yes 32 (v := ?_) rfl (by kernel_rfl) ?hy32 ?rest32
  case hy32 => (go_simp; first | done | with_reducible rfl)
  try simp only [Act.put, List.setIfInBounds_toArray, List.set_cons_zero, List.set_cons_succ]
  refine wl_if 33 g3 (v := ?_) rfl (by cases g3 <;> kernel_rfl) ?hy33 ?rest33
  case hy33 => (intro hg; subst hg; (try simp only [cond_true]); go_simp; first | done | with_reducible rfl)
  try simp only [Act.put, List.setIfInBounds_toArray, List.set_cons_zero, List.set_cons_succ]
  refine wl_if 34 g3 (v := ?_) rfl (by cases g3 <;> kernel_rfl) ?hy34 ?rest34
  case hy34 => (intro hg; subst hg; (try simp only [cond_true]); have z4 := A1.out.cell (i := 4) (v := .int .i64 a.uid) rfl; go_simp; first | done | with_reducible rfl)
  try simp only [Act.put, List.setIfInBounds_toArray, List.set_cons_zero, List.set_cons_succ]
  refine wl_if 35 g3 (v := ?_) rfl (by cases g3 <;> kernel_rfl) ?hy35 ?rest35
  case hy35 => (intro hg; subst hg; (try simp only [cond_true]); go_simp; first | done | with_reducible rfl)
  try simp only [Act.put, List.setIfInBounds_toArray, List.set_cons_zero, List.set_cons_succ]
  refine wl_if 36 g3 (v := ?_) rfl (by cases g3 <;> kernel_rfl) ?hy36 ?rest36
  case hy36 => (intro hg; subst hg; (try simp only [cond_true]); have z4 := B1.out.cell (i := 4) (v := .int .i64 b.uid) rfl; go_simp; first | done | with_reducible rfl)
  try simp only [Act.put, List.setIfInBounds_toArray, List.set_cons_zero, List.set_cons_succ]
  refine wl_if 37 g3 (v := .bool b4) rfl (by cases g3 <;> kernel_rfl) ?hy37 ?rest37
  case hy37 => (intro hg; subst hg; (try simp only [cond_true]); rw [← T4.out]; go_simp; first | done | with_reducible rfl)
  try simp only [Act.put, List.setIfInBounds_toArray, List.set_cons_zero, List.set_cons_succ]
  refine wl_yes 38 (v := .bool g4) rfl (by kernel_rfl) ?hy38 ?rest38
  case hy38 => (rw [G4.out]; cases g3 <;> (go_simp; first | done | with_reducible rfl))
  try simp only [Act.put, List.setIfInBounds_toArray, List.set_cons_zero, List.set_cons_succ]
  refine wl_yes 39 (v := ?_) rfl (by kernel_rfl) ?hy39 ?rest39
  case hy39 => (go_simp; first | done | with_reducible rfl)
  try simp only [Act.put, List.setIfInBounds_toArray, List.set_cons_zero, List.set_cons_succ]
  refine wl_if 40 g4 (v := ?_) rfl (by cases g4 <;> kernel_rfl) ?hy40 ?rest40
  case hy40 => (intro hg; subst hg; (try simp only [cond_true]); go_simp; first | done | with_reducible rfl)
  try simp only [Act.put, List.setIfInBounds_toArray, List.set_cons_zero, List.set_cons_succ]
  refine wl_if 41 g4 (v := ?_) rfl (by cases g4 <;> kernel_rfl) ?hy41 ?rest41
  case hy41 => (intro hg; subst hg; (try simp only [cond_true]); have z5 := A1.out.cell (i := 5) (v := .int .i64 a.gid) rfl; go_simp; first | done | with_reducible rfl)
  try simp only [Act.put, List.setIfInBounds_toArray, List.set_cons_zero, List.set_cons_succ]
  refine wl_if 42 g4 (v := ?_) rfl (by cases g4 <;> kernel_rfl) ?hy42 ?rest42
  case hy42 => (intro hg; subst hg; (try simp only [cond_true]); go_simp; first | done | with_reducible rfl)
  try simp only [Act.put, List.setIfInBounds_toArray, List.set_cons_zero, List.set_cons_succ]
  refine wl_if 43 g4 (v := ?_) rfl (by cases g4 <;> kernel_rfl) ?hy43 ?rest43
  case hy43 => (intro hg; subst hg; (try simp only [cond_true]); have z5 := B1.out.cell (i := 5) (v := .int .i64 b.gid) rfl; go_simp; first | done | with_reducible rfl)
  try simp only [Act.put, List.setIfInBounds_toArray, List.set_cons_zero, List.set_cons_succ]
  refine wl_if 44 g4 (v := .bool b5) rfl (by cases g4 <;> kernel_rfl) ?hy44 ?rest44
  case hy44 => (intro hg; subst hg; (try simp only [cond_true]); rw [← T5.out]; go_simp; first | done | with_reducible rfl)
  try simp only [Act.put, List.setIfInBounds_toArray, List.set_cons_zero, List.set_cons_succ]
  refine wl_yes 45 (v := .bool g5) rfl (by kernel_rfl) ?hy45 ?rest45
  case hy45 => (rw [G5.out]; cases g4 <;> (go_simp; first | done | with_reducible rfl))
  try simp only [Act.put, List.setIfInBounds_toArray, List.set_cons_zero, List.set_cons_succ]
  refine wl_yes 46 (v := ?_) rfl (by kernel_rfl) ?hy46 ?rest46
  case hy46 => (go_simp; first | done | with_reducible rfl)
  try simp only [Act.put, List.setIfInBounds_toArray, List.set_cons_zero, List.set_cons_succ]
  refine wl_if 47 g5 (v := ?_) rfl (by cases g5 <;> kernel_rfl) ?hy47 ?rest47
  case hy47 => (intro hg; subst hg; (try simp only [cond_true]); go_simp; first | done | with_reducible rfl)
  try simp only [Act.put, List.setIfInBounds_toArray, List.set_cons_zero, List.set_cons_succ]
  refine wl_if 48 g5 (v := ?_) rfl (by cases g5 <;> kernel_rfl) ?hy48 ?rest48
  case hy48 => (intro hg; subst hg; (try simp only [cond_true]); have z6 := A1.out.cell (i := 6) (v := .string a.user) rfl; go_simp; first | done | with_reducible rfl)
  try simp only [Act.put, List.setIfInBounds_toArray, List.set_cons_zero, List.set_cons_succ]
  refine wl_if 49 g5 (v := ?_) rfl (by cases g5 <;> kernel_rfl) ?hy49 ?rest49
  case hy49 => (intro hg; subst hg; (try simp only [cond_true]); go_simp; first | done | with_reducible rfl)
  try simp only [Act.put, List.setIfInBounds_toArray, List.set_cons_zero, List.set_cons_succ]
  refine wl_if 50 g5 (v := ?_) rfl (by cases g5 <;> kernel_rfl) ?hy50 ?rest50
  case hy50 => (intro hg; subst hg; (try simp only [cond_true]); have z6 := B1.out.cell (i := 6) (v := .string b.user) rfl; go_simp; first | done | with_reducible rfl)
  try simp only [Act.put, List.setIfInBounds_toArray, List.set_cons_zero, List.set_cons_succ]
  refine wl_if 51 g5 (v := .bool b6) rfl (by cases g5 <;> kernel_rfl) ?hy51 ?rest51
  case hy51 => (intro hg; subst hg; (try simp only [cond_true]); rw [← T6.out]; go_simp; first | done | with_reducible rfl)
  try simp only [Act.put, List.setIfInBounds_toArray, List.set_cons_zero, List.set_cons_succ]
  refine wl_yes 52 (v := .bool g6) rfl (by kernel_rfl) ?hy52 ?rest52
  case hy52 => (rw [G6.out]; cases g5 <;> (go_simp; first | done | with_reducible rfl))
  try simp only [Act.put, List.setIfInBounds_toArray, List.set_cons_zero, List.set_cons_succ]
  refine wl_yes 53 (v := ?_) rfl (by kernel_rfl) ?hy53 ?rest53
  case hy53 => (go_simp; first | done | with_reducible rfl)
  try simp only [Act.put, List.setIfInBounds_toArray, List.set_cons_zero, List.set_cons_succ]
  refine wl_if 54 g6 (v := ?_) rfl (by cases g6 <;> kernel_rfl) ?hy54 ?rest54
  case hy54 => (intro hg; subst hg; (try simp only [cond_true]); go_simp; first | done | with_reducible rfl)
  try simp only [Act.put, List.setIfInBounds_toArray, List.set_cons_zero, List.set_cons_succ]
  refine wl_if 55 g6 (v := ?_) rfl (by cases g6 <;> kernel_rfl) ?hy55 ?rest55
  case hy55 => (intro hg; subst hg; (try simp only [cond_true]); have z7 := A1.out.cell (i := 7) (v := .string a.group) rfl; go_simp; first | done | with_reducible rfl)
  try simp only [Act.put, List.setIfInBounds_toArray, List.set_cons_zero, List.set_cons_succ]
  refine wl_if 56 g6 (v := ?_) rfl (by cases g6 <;> kernel_rfl) ?hy56 ?rest56
  case hy56 => (intro hg; subst hg; (try simp only [cond_true]); go_simp; first | done | with_reducible rfl)
  try simp only [Act.put, List.setIfInBounds_toArray, List.set_cons_zero, List.set_cons_succ]
  refine wl_if 57 g6 (v := ?_) rfl (by cases g6 <;> kernel_rfl) ?hy57 ?rest57
  case hy57 => (intro hg; subst hg; (try simp only [cond_true]); have z7 := B1.out.cell (i := 7) (v := .string b.group) rfl; go_simp; first | done | with_reducible rfl)
  try simp only [Act.put, List.setIfInBounds_toArray, List.set_cons_zero, List.set_cons_succ]
  refine wl_if 58 g6 (v := .bool b7) rfl (by cases g6 <;> kernel_rfl) ?hy58 ?rest58
  case hy58 => (intro hg; subst hg; (try simp only [cond_true]); rw [← T7.out]; go_simp; first | done | with_reducible rfl)
  try simp only [Act.put, List.setIfInBounds_toArray, List.set_cons_zero, List.set_cons_succ]
  refine wl_yes 59 (v := .bool g7) rfl (by kernel_rfl) ?hy59 ?rest59
  case hy59 => (rw [G7.out]; cases g6 <;> (go_simp; first | done | with_reducible rfl))
  try simp only [Act.put, List.setIfInBounds_toArray, List.set_cons_zero, List.set_cons_succ]
  refine wl_yes 60 (v := ?_) rfl (by kernel_rfl) ?hy60 ?rest60
  case hy60 => (go_simp; first | done | with_reducible rfl)
  try simp only [Act.put, List.setIfInBounds_toArray, List.set_cons_zero, List.set_cons_succ]
  refine wl_if 61 g7 (v := ?_) rfl (by cases g7 <;> kernel_rfl) ?hy61 ?rest61
  case hy61 => (intro hg; subst hg; (try simp only [cond_true]); go_simp; first | done | with_reducible rfl)
  try simp only [Act.put, List.setIfInBounds_toArray, List.set_cons_zero, List.set_cons_succ]
  refine wl_if 62 g7 (v := ?_) rfl (by cases g7 <;> kernel_rfl) ?hy62 ?rest62
  case hy62 => (intro hg; subst hg; (try simp only [cond_true]); have z8 := A1.out.cell (i := 8) (v := .int .i64 a.sec) rfl; have z9 := A1.out.cell (i := 9) (v := .int .i64 a.nan) rfl; go_simp; first | done | with_reducible rfl)
  try simp only [Act.put, List.setIfInBounds_toArray, List.set_cons_zero, List.set_cons_succ]
  refine wl_if 63 g7 (v := ?_) rfl (by cases g7 <;> kernel_rfl) ?hy63 ?rest63
  case hy63 => (intro hg; subst hg; (try simp only [cond_true]); go_simp; first | done | with_reducible rfl)
  try simp only [Act.put, List.setIfInBounds_toArray, List.set_cons_zero, List.set_cons_succ]
  refine wl_if 64 g7 (v := ?_) rfl (by cases g7 <;> kernel_rfl) ?hy64 ?rest64
  case hy64 => (intro hg; subst hg; (try simp only [cond_true]); have z8 := B1.out.cell (i := 8) (v := .int .i64 b.sec) rfl; have z9 := B1.out.cell (i := 9) (v := .int .i64 b.nan) rfl; go_simp; first | done | with_reducible rfl)
  try simp only [Act.put, List.setIfInBounds_toArray, List.set_cons_zero, List.set_cons_succ]
  refine wl_if 65 g7 (v := .bool (b8 && b9)) rfl (by cases g7 <;> kernel_rfl) ?hy65 ?rest65
  case hy65 => (intro hg; subst hg; (try simp only [cond_true]); rw [← T8.out, ← T9.out]; go_simp; by_cases e1 : a.sec = b.sec <;> by_cases e2 : a.nan = b.nan <;> simp [e1, e2])
  try simp only [Act.put, List.setIfInBounds_toArray, List.set_cons_zero, List.set_cons_succ]
  refine wl_yes 66 (v := .bool g8) rfl (by kernel_rfl) ?hy66 ?rest66
  case hy66 => (rw [G8.out]; cases g7 <;> (go_simp; first | done | with_reducible rfl))
  try simp only [Act.put, List.setIfInBounds_toArray, List.set_cons_zero, List.set_cons_succ]
  refine wl_yes 5 (v := ?_) rfl (by kernel_rfl) ?hy5 ?rest5
  case hy5 => (go_simp; first | done | with_reducible rfl)
  try simp only [Act.put, List.setIfInBounds_toArray, List.set_cons_zero, List.set_cons_succ]
  refine wpList_nil ?_
  go_upto_region 2 with fail
  refine wp_region_lit ?_
  refine wl_yes 67 (v := ?_) rfl (by kernel_rfl) ?hy67 ?rest67
  case hy67 => (go_simp; first | done | with_reducible rfl)
  try simp only [Act.put, List.setIfInBounds_toArray, List.set_cons_zero, List.set_cons_succ]
  refine wl_yes 68 (v := ?_) rfl (by kernel_rfl) ?hy68 ?rest68
  case hy68 => (go_simp; first | done | with_reducible rfl)
  try simp only [Act.put, List.setIfInBounds_toArray, List.set_cons_zero, List.set_cons_succ]
  refine wl_if 69 g8 (v := ?_) rfl (by cases g8 <;> kernel_rfl) ?hy69 ?rest69
  case hy69 => (intro hg; subst hg; (try simp only [cond_true]); go_simp; first | done | with_reducible rfl)
  try simp only [Act.put, List.setIfInBounds_toArray, List.set_cons_zero, List.set_cons_succ]
  refine wl_if 70 g8 (v := ?_) rfl (by cases g8 <;> kernel_rfl) ?hy70 ?rest70
  case hy70 => (intro hg; subst hg; (try simp only [cond_true]); have z10 := A1.out.cell (i := 10) (v := .int .i64 a.major) rfl; go_simp; first | done | with_reducible rfl)
  try simp only [Act.put, List.setIfInBounds_toArray, List.set_cons_zero, List.set_cons_succ]
  refine wl_if 71 g8 (v := ?_) rfl (by cases g8 <;> kernel_rfl) ?hy71 ?rest71
  case hy71 => (intro hg; subst hg; (try simp only [cond_true]); go_simp; first | done | with_reducible rfl)
  try simp only [Act.put, List.setIfInBounds_toArray, List.set_cons_zero, List.set_cons_succ]
  refine wl_if 72 g8 (v := ?_) rfl (by cases g8 <;> kernel_rfl) ?hy72 ?rest72
  case hy72 => (intro hg; subst hg; (try simp only [cond_true]); have z10 := B1.out.cell (i := 10) (v := .int .i64 b.major) rfl; go_simp; first | done | with_reducible rfl)
  try simp only [Act.put, List.setIfInBounds_toArray, List.set_cons_zero, List.set_cons_succ]
  refine wl_if 73 g8 (v := .bool b10) rfl (by cases g8 <;> kernel_rfl) ?hy73 ?rest73
  case hy73 => (intro hg; subst hg; (try simp only [cond_true]); rw [← T10.out]; go_simp; first | done | with_reducible rfl)
  try simp only [Act.put, List.setIfInBounds_toArray, List.set_cons_zero, List.set_cons_succ]
  refine wl_yes 74 (v := .bool g9) rfl (by kernel_rfl) ?hy74 ?rest74
  case hy74 => (rw [G9.out]; cases g8 <;> (go_simp; first | done | with_reducible rfl))
  try simp only [Act.put, List.setIfInBounds_toArray, List.set_cons_zero, List.set_cons_succ]
  refine wl_yes 75 (v := ?_) rfl (by kernel_rfl) ?hy75 ?rest75
  case hy75 => (go_simp; first | done | with_reducible rfl)
  try simp only [Act.put, List.setIfInBounds_toArray, List.set_cons_zero, List.set_cons_succ]
  refine wl_if 76 g9 (v := ?_) rfl (by cases g9 <;> kernel_rfl) ?hy76 ?rest76
  case hy76 => (intro hg; subst hg; (try simp only [cond_true]); go_simp; first | done | with_reducible rfl)
  try simp only [Act.put, List.setIfInBounds_toArray, List.set_cons_zero, List.set_cons_succ]
  refine wl_if 77 g9 (v := ?_) rfl (by cases g9 <;> kernel_rfl) ?hy77 ?rest77
  case hy77 => (intro hg; subst hg; (try simp only [cond_true]); have z11 := A1.out.cell (i := 11) (v := .int .i64 a.minor) rfl; go_simp; first | done | with_reducible rfl)
  try simp only [Act.put, List.setIfInBounds_toArray, List.set_cons_zero, List.set_cons_succ]
  refine wl_if 78 g9 (v := ?_) rfl (by cases g9 <;> kernel_rfl) ?hy78 ?rest78
  case hy78 => (intro hg; subst hg; (try simp only [cond_true]); go_simp; first | done | with_reducible rfl)
  try simp only [Act.put, List.setIfInBounds_toArray, List.set_cons_zero, List.set_cons_succ]
  refine wl_if 79 g9 (v := ?_) rfl (by cases g9 <;> kernel_rfl) ?hy79 ?rest79
  case hy79 => (intro hg; subst hg; (try simp only [cond_true]); have z11 := B1.out.cell (i := 11) (v := .int .i64 b.minor) rfl; go_simp; first | done | with_reducible rfl)
  try simp only [Act.put, List.setIfInBounds_toArray, List.set_cons_zero, List.set_cons_succ]
  refine wl_if 80 g9 (v := .bool b11) rfl (by cases g9 <;> kernel_rfl) ?hy80 ?rest80
  case hy80 => (intro hg; subst hg; (try simp only [cond_true]); rw [← T11.out]; go_simp; first | done | with_reducible rfl)
  try simp only [Act.put, List.setIfInBounds_toArray, List.set_cons_zero, List.set_cons_succ]
  refine wl_yes 81 (v := .bool g10) rfl (by kernel_rfl) ?hy81 ?rest81
  case hy81 => (rw [G10.out]; cases g9 <;> (go_simp; first | done | with_reducible rfl))
  try simp only [Act.put, List.setIfInBounds_toArray, List.set_cons_zero, List.set_cons_succ]
  refine wl_yes 82 (v := ?_) rfl (by kernel_rfl) ?hy82 ?rest82
  case hy82 => (go_simp; first | done | with_reducible rfl)
  try simp only [Act.put, List.setIfInBounds_toArray, List.set_cons_zero, List.set_cons_succ]
  refine wl_if 83 g10 (v := ?_) rfl (by cases g10 <;> kernel_rfl) ?hy83 ?rest83
  case hy83 => (intro hg; subst hg; (try simp only [cond_true]); go_simp; first | done | with_reducible rfl)
  try simp only [Act.put, List.setIfInBounds_toArray, List.set_cons_zero, List.set_cons_succ]
  refine wl_if 84 g10 (v := ?_) rfl (by cases g10 <;> kernel_rfl) ?hy84 ?rest84
  case hy84 => (intro hg; subst hg; (try simp only [cond_true]); have z12 := A1.out.cell (i := 12) (v := .int .i64 a.size) rfl; go_simp; first | done | with_reducible rfl)
  try simp only [Act.put, List.setIfInBounds_toArray, List.set_cons_zero, List.set_cons_succ]
  refine wl_if 85 g10 (v := ?_) rfl (by cases g10 <;> kernel_rfl) ?hy85 ?rest85
  case hy85 => (intro hg; subst hg; (try simp only [cond_true]); go_simp; first | done | with_reducible rfl)
  try simp only [Act.put, List.setIfInBounds_toArray, List.set_cons_zero, List.set_cons_succ]
  refine wl_if 86 g10 (v := ?_) rfl (by cases g10 <;> kernel_rfl) ?hy86 ?rest86
  case hy86 => (intro hg; subst hg; (try simp only [cond_true]); have z12 := B1.out.cell (i := 12) (v := .int .i64 b.size) rfl; go_simp; first | done | with_reducible rfl)
  try simp only [Act.put, List.setIfInBounds_toArray, List.set_cons_zero, List.set_cons_succ]
  refine wl_if 87 g10 (v := .bool b12) rfl (by cases g10 <;> kernel_rfl) ?hy87 ?rest87
  case hy87 => (intro hg; subst hg; (try simp only [cond_true]); rw [← T12.out]; go_simp; first | done | with_reducible rfl)
  try simp only [Act.put, List.setIfInBounds_toArray, List.set_cons_zero, List.set_cons_succ]
  refine wl_yes 88 (v := .bool g11) rfl (by kernel_rfl) ?hy88 ?rest88
  case hy88 => (rw [G11.out]; cases g10 <;> (go_simp; first | done | with_reducible rfl))
  try simp only [Act.put, List.setIfInBounds_toArray, List.set_cons_zero, List.set_cons_succ]
  refine wl_yes 89 (v := ?_) rfl (by kernel_rfl) ?hy89 ?rest89
  case hy89 => (go_simp; first | done | with_reducible rfl)
  try simp only [Act.put, List.setIfInBounds_toArray, List.set_cons_zero, List.set_cons_succ]
  refine wl_if 90 g11 (v := ?_) rfl (by cases g11 <;> kernel_rfl) ?hy90 ?rest90
  case hy90 => (intro hg; subst hg; (try simp only [cond_true]); go_simp; first | done | with_reducible rfl)
  try simp only [Act.put, List.setIfInBounds_toArray, List.set_cons_zero, List.set_cons_succ]
  refine wl_if 91 g11 (v := ?_) rfl (by cases g11 <;> kernel_rfl) ?hy91 ?rest91
  case hy91 => (intro hg; subst hg; (try simp only [cond_true]); have z13 := A1.out.cell (i := 13) (v := .int .i64 a.real) rfl; go_simp; first | done | with_reducible rfl)
  try simp only [Act.put, List.setIfInBounds_toArray, List.set_cons_zero, List.set_cons_succ]
  refine wl_if 92 g11 (v := ?_) rfl (by cases g11 <;> kernel_rfl) ?hy92 ?rest92
  case hy92 => (intro hg; subst hg; (try simp only [cond_true]); go_simp; first | done | with_reducible rfl)
  try simp only [Act.put, List.setIfInBounds_toArray, List.set_cons_zero, List.set_cons_succ]
  refine wl_if 93 g11 (v := ?_) rfl (by cases g11 <;> kernel_rfl) ?hy93 ?rest93
  case hy93 => (intro hg; subst hg; (try simp only [cond_true]); have z13 := B1.out.cell (i := 13) (v := .int .i64 b.real) rfl; go_simp; first | done | with_reducible rfl)
  try simp only [Act.put, List.setIfInBounds_toArray, List.set_cons_zero, List.set_cons_succ]
  refine wl_if 94 g11 (v := .bool b13) rfl (by cases g11 <;> kernel_rfl) ?hy94 ?rest94
  case hy94 => (intro hg; subst hg; (try simp only [cond_true]); rw [← T13.out]; go_simp; first | done | with_reducible rfl)
  try simp only [Act.put, List.setIfInBounds_toArray, List.set_cons_zero, List.set_cons_succ]
  refine wl_yes 95 (v := .bool g12) rfl (by kernel_rfl) ?hy95 ?rest95
  case hy95 => (rw [G12.out]; cases g11 <;> (go_simp; first | done | with_reducible rfl))
  try simp only [Act.put, List.setIfInBounds_toArray, List.set_cons_zero, List.set_cons_succ]
  refine wl_yes 96 (v := ?_) rfl (by kernel_rfl) ?hy96 ?rest96
  case hy96 => (go_simp; first | done | with_reducible rfl)
  try simp only [Act.put, List.setIfInBounds_toArray, List.set_cons_zero, List.set_cons_succ]
  refine wl_if 97 g12 (v := ?_) rfl (by cases g12 <;> kernel_rfl) ?hy97 ?rest97
  case hy97 => (intro hg; subst hg; (try simp only [cond_true]); go_simp; first | done | with_reducible rfl)
  try simp only [Act.put, List.setIfInBounds_toArray, List.set_cons_zero, List.set_cons_succ]
  refine wl_if 98 g12 (v := ?_) rfl (by cases g12 <;> kernel_rfl) ?hy98 ?rest98
  case hy98 => (intro hg; subst hg; (try simp only [cond_true]); have z14 := A1.out.cell (i := 14) (v := .bool a.holes) rfl; go_simp; first | done | with_reducible rfl)
  try simp only [Act.put, List.setIfInBounds_toArray, List.set_cons_zero, List.set_cons_succ]
  refine wl_if 99 g12 (v := ?_) rfl (by cases g12 <;> kernel_rfl) ?hy99 ?rest99
  case hy99 => (intro hg; subst hg; (try simp only [cond_true]); go_simp; first | done | with_reducible rfl)
  try simp only [Act.put, List.setIfInBounds_toArray, List.set_cons_zero, List.set_cons_succ]
  refine wl_if 100 g12 (v := ?_) rfl (by cases g12 <;> kernel_rfl) ?hy100 ?rest100
  case hy100 => (intro hg; subst hg; (try simp only [cond_true]); have z14 := B1.out.cell (i := 14) (v := .bool b.holes) rfl; go_simp; first | done | with_reducible rfl)
  try simp only [Act.put, List.setIfInBounds_toArray, List.set_cons_zero, List.set_cons_succ]
  refine wl_if 101 g12 (v := .bool b14) rfl (by cases g12 <;> kernel_rfl) ?hy101 ?rest101
  case hy101 => (intro hg; subst hg; (try simp only [cond_true]); rw [← T14.out]; go_simp; first | done | with_reducible rfl)
  try simp only [Act.put, List.setIfInBounds_toArray, List.set_cons_zero, List.set_cons_succ]
  refine wl_yes 102 (v := .bool g13) rfl (by kernel_rfl) ?hy102 ?rest102
  case hy102 => (rw [G13.out]; cases g12 <;> (go_simp; first | done | with_reducible rfl))
  try simp only [Act.put, List.setIfInBounds_toArray, List.set_cons_zero, List.set_cons_succ]
  refine wl_yes 103 (v := ?_) rfl (by kernel_rfl) ?hy103 ?rest103
  case hy103 => (go_simp; first | done | with_reducible rfl)
  try simp only [Act.put, List.setIfInBounds_toArray, List.set_cons_zero, List.set_cons_succ]
  refine wl_if 104 g13 (v := ?_) rfl (by cases g13 <;> kernel_rfl) ?hy104 ?rest104
  case hy104 => (intro hg; subst hg; (try simp only [cond_true]); go_simp; first | done | with_reducible rfl)
  try simp only [Act.put, List.setIfInBounds_toArray, List.set_cons_zero, List.set_cons_succ]
  refine wl_if 105 g13 (v := ?_) rfl (by cases g13 <;> kernel_rfl) ?hy105 ?rest105
  case hy105 => (intro hg; subst hg; (try simp only [cond_true]); have z15 := A1.out.cell (i := 15) (v := .slice Pa a.parts.length pa) rfl; go_simp; first | done | with_reducible rfl)
  try simp only [Act.put, List.setIfInBounds_toArray, List.set_cons_zero, List.set_cons_succ]
  refine wl_if 106 g13 (v := ?_) rfl (by cases g13 <;> kernel_rfl) ?hy106 ?rest106
  case hy106 => (intro hg; subst hg; (try simp only [cond_true]); go_simp; first | done | with_reducible rfl)
  try simp only [Act.put, List.setIfInBounds_toArray, List.set_cons_zero, List.set_cons_succ]
  refine wl_if 107 g13 (v := ?_) rfl (by cases g13 <;> kernel_rfl) ?hy107 ?rest107
  case hy107 => (intro hg; subst hg; (try simp only [cond_true]); have z15 := B1.out.cell (i := 15) (v := .slice Pb b.parts.length pb) rfl; go_simp; first | done | with_reducible rfl)
  try simp only [Act.put, List.setIfInBounds_toArray, List.set_cons_zero, List.set_cons_succ]
  cases g13 with
  | false =>
    refine wl_if 108 false (v := undef) rfl (by kernel_rfl) (fun h => by cases h) ?rest108
    try simp only [Act.put, List.setIfInBounds_toArray, List.set_cons_zero, List.set_cons_succ]
    refine wl_yes 109 (v := .bool false) rfl (by kernel_rfl) ?hy109 ?rest109
    case hy109 => (go_simp; first | done | with_reducible rfl)
    try simp only [Act.put, List.setIfInBounds_toArray, List.set_cons_zero, List.set_cons_succ]
    refine wl_yes 110 (v := ?_) rfl (by kernel_rfl) ?hy110 ?rest110
    case hy110 => (go_simp; first | done | with_reducible rfl)
    try simp only [Act.put, List.setIfInBounds_toArray, List.set_cons_zero, List.set_cons_succ]
    refine wl_if 111 false (v := undef) rfl (by kernel_rfl) (fun h => by cases h) ?rest111
    try simp only [Act.put, List.setIfInBounds_toArray, List.set_cons_zero, List.set_cons_succ]
    refine wl_if 112 false (v := undef) rfl (by kernel_rfl) (fun h => by cases h) ?rest112
    try simp only [Act.put, List.setIfInBounds_toArray, List.set_cons_zero, List.set_cons_succ]
    refine wl_if 113 false (v := undef) rfl (by kernel_rfl) (fun h => by cases h) ?rest113
    try simp only [Act.put, List.setIfInBounds_toArray, List.set_cons_zero, List.set_cons_succ]
    refine wl_if 114 false (v := undef) rfl (by kernel_rfl) (fun h => by cases h) ?rest114
    try simp only [Act.put, List.setIfInBounds_toArray, List.set_cons_zero, List.set_cons_succ]
    refine wl_if 115 false (v := undef) rfl (by kernel_rfl) (fun h => by cases h) ?rest115
    try simp only [Act.put, List.setIfInBounds_toArray, List.set_cons_zero, List.set_cons_succ]
    refine wl_yes 116 (v := .bool false) rfl (by kernel_rfl) ?hy116 ?rest116
    case hy116 => (go_simp; first | done | with_reducible rfl)
    try simp only [Act.put, List.setIfInBounds_toArray, List.set_cons_zero, List.set_cons_succ]
    refine wl_yes 4 (v := ?_) rfl (by kernel_rfl) ?hy4 ?rest4
    case hy4 => (go_simp; first | done | with_reducible rfl)
    try simp only [Act.put, List.setIfInBounds_toArray, List.set_cons_zero, List.set_cons_succ]
    refine wpList_nil ?_
    go_wp2_with fail
    go_ret
    exact ⟨by rw [HT.out]; rfl, HW.out⟩
  | true =>
    have HP2 := hid (HP.out _ HW.out)
    refine wl_call 108 (v := .bool b15) rfl (by kernel_rfl) (by go_simp; first | done | with_reducible rfl) HP2.out ?_
    intro w5 hb5
    try simp only [Act.put, List.setIfInBounds_toArray, List.set_cons_zero, List.set_cons_succ]
    have HW5 := hid (HW.out.trans (hb5.mono HW.out.size))
    have A5 := hid (A1.out.below hb5 A1.out.lt)
    have B5 := hid (B1.out.below hb5 B1.out.lt)
    clear hb5 HP2
    refine wl_yes 109 (v := .bool b15) rfl (by kernel_rfl) ?hyT109 ?restT109
    case hyT109 => (cases b15 <;> (go_simp; first | done | with_reducible rfl))
    try simp only [Act.put, List.setIfInBounds_toArray, List.set_cons_zero, List.set_cons_succ]
    refine wl_yes 110 (v := ?_) rfl (by kernel_rfl) ?hyT110 ?restT110
    case hyT110 => (go_simp; first | done | with_reducible rfl)
    try simp only [Act.put, List.setIfInBounds_toArray, List.set_cons_zero, List.set_cons_succ]
    refine wl_if 111 b15 (v := ?_) rfl (by cases b15 <;> kernel_rfl) ?hyT111 ?restT111
    case hyT111 => (intro hg; subst hg; (try simp only [cond_true]); go_simp; first | done | with_reducible rfl)
    try simp only [Act.put, List.setIfInBounds_toArray, List.set_cons_zero, List.set_cons_succ]
    refine wl_if 112 b15 (v := ?_) rfl (by cases b15 <;> kernel_rfl) ?hyT112 ?restT112
    case hyT112 => (intro hg; subst hg; (try simp only [cond_true]); have z16 := A5.out.cell (i := 16) (v := .slice Ea a.extra.length ea) rfl; go_simp; first | done | with_reducible rfl)
    try simp only [Act.put, List.setIfInBounds_toArray, List.set_cons_zero, List.set_cons_succ]
    refine wl_if 113 b15 (v := ?_) rfl (by cases b15 <;> kernel_rfl) ?hyT113 ?restT113
    case hyT113 => (intro hg; subst hg; (try simp only [cond_true]); go_simp; first | done | with_reducible rfl)
    try simp only [Act.put, List.setIfInBounds_toArray, List.set_cons_zero, List.set_cons_succ]
    refine wl_if 114 b15 (v := ?_) rfl (by cases b15 <;> kernel_rfl) ?hyT114 ?restT114
    case hyT114 => (intro hg; subst hg; (try simp only [cond_true]); have z16 := B5.out.cell (i := 16) (v := .slice Eb b.extra.length eb) rfl; go_simp; first | done | with_reducible rfl)
    try simp only [Act.put, List.setIfInBounds_toArray, List.set_cons_zero, List.set_cons_succ]
    cases b15 with
    | false =>
      refine wl_if 115 false (v := undef) rfl (by kernel_rfl) (fun h => by cases h) ?restV115
      try simp only [Act.put, List.setIfInBounds_toArray, List.set_cons_zero, List.set_cons_succ]
      refine wl_yes 116 (v := .bool false) rfl (by kernel_rfl) ?hyV116 ?restV116
      case hyV116 => (go_simp; first | done | with_reducible rfl)
      try simp only [Act.put, List.setIfInBounds_toArray, List.set_cons_zero, List.set_cons_succ]
      refine wl_yes 4 (v := ?_) rfl (by kernel_rfl) ?hyV4 ?restV4
      case hyV4 => (go_simp; first | done | with_reducible rfl)
      try simp only [Act.put, List.setIfInBounds_toArray, List.set_cons_zero, List.set_cons_succ]
      refine wpList_nil ?_
      go_wp2_with fail
      go_ret
      exact ⟨by rw [HT.out]; rfl, HW5.out⟩
    | true =>
      have HE2 := hid (HE.out _ HW5.out)
      refine wl_call 115 (v := .bool b16) rfl (by kernel_rfl) (by go_simp; first | done | with_reducible rfl) HE2.out ?_
      intro w6 hb6
      try simp only [Act.put, List.setIfInBounds_toArray, List.set_cons_zero, List.set_cons_succ]
      have HW6 := hid (HW5.out.trans (hb6.mono HW5.out.size))
      refine wl_yes 116 (v := .bool b16) rfl (by kernel_rfl) ?hyU116 ?restU116
      case hyU116 => (cases b16 <;> (go_simp; first | done | with_reducible rfl))
      try simp only [Act.put, List.setIfInBounds_toArray, List.set_cons_zero, List.set_cons_succ]
      refine wl_yes 4 (v := ?_) rfl (by kernel_rfl) ?hyU4 ?restU4
      case hyU4 => (go_simp; first | done | with_reducible rfl)
      try simp only [Act.put, List.setIfInBounds_toArray, List.set_cons_zero, List.set_cons_succ]
      refine wpList_nil ?_
      go_wp2_with fail
      go_ret
      exact ⟨by rw [HT.out]; rfl, HW6.out⟩
end Go.Proofs.YtbpangofobkmfaaGreatDoor

/-! Split of any text, and Same of any two, are what the chapter says. -/
namespace Go.Proofs.YtbpangofobkmfaaGreatDoor
open Go.RowKit Go.Lib
open Px (R2 tl)
attribute [local go_sem ↓] add_plain

theorem quietAt_load {P : Program} {C : World → Prop} {o : Oper} {a : Act} {w : World} (ty : TypeId) (x : Operand) (ho : o.op = .load ty x)
    (g : Nat) (hx : a.eval x = .pointer (some ⟨g, 0, none⟩)) (t : TypeId) (cs : Array Value) (fr : Nat × Nat) (d : TypeDesc) (hg : w.heap[g]? = some (.cells cs t fr))
    (hu : P.underlying ty = some d) (hd : (match d with | .struct _ | .array _ _ => true | _ => false) = true) (hi : (P.info? ty).map (·.size) = some cs.size) : o.quietAt P a C w (.agg cs) := by
  unfold Oper.quietAt execOp
  simp only [ho, hx, Instr.loadAt, Instr.sureAddr, Sem.run_bind, Sem.run_pure, Result.andThen_ok, run_loadVar_row w g t ty cs fr d hg hu hd hi]
  exact ⟨rfl, rfl⟩

set_option maxRecDepth 100000 in
set_option maxHeartbeats 8000000 in
theorem metaSplits_any (s : ByteArray) (a1 : Int) (a b : M.Met) (Pa Pb Ea Eb : Option Addr) (pa pb ea eb : Nat) (B : Nat) (w : World) (h1 : 0 ≤ a1 ∧ a1 ≤ 65535)
    (ra : Sp.RdP w w.heap.size Pa a.parts.length a.parts) (rb : Sp.RdP w w.heap.size Pb b.parts.length b.parts) (xa : Px.RdR w w.heap.size Ea a.extra) (xb : Px.RdR w w.heap.size Eb b.extra)
    (hl : a.parts.length ≤ 9223372036854775807 ∧ b.parts.length ≤ 9223372036854775807 ∧ a.extra.length ≤ 9223372036854775807 ∧ b.extra.length ≤ 9223372036854775807) (hB : B ≤ w.heap.size) (ht : Sp.EV B w) :
    Calls Tryz.prog 6 #[.string s, .int .u16 a1, .agg (mcells a (.slice Pa a.parts.length pa) (.slice Ea a.extra.length ea)), .agg (mcells b (.slice Pb b.parts.length pb) (.slice Eb b.extra.length eb))] w fun e w' => e = .returned (.bool true) ∧ Below w.heap.size w w' := by
  have HT := hid (fun (V : World) (hV : Below w.heap.size w V) => And.intro (Nat.le_trans hB hV.size) (ht.on (hV.mono hB)))
  have hKN := fun (V : World) (hV : Below w.heap.size w V) => known_any B V (Nat.le_trans hB hV.size) (ht.on (hV.mono hB))
  have HKN := hid hKN
  clear ht hB hKN
  obtain ⟨h10, h11⟩ := h1
  obtain ⟨hl1, hl2, hl3, hl4⟩ := hl
  have A1 := hid (MB.alloc (MB.new w a (.slice Pa a.parts.length pa) (.slice Ea a.extra.length ea)) (.cells (mcells b (.slice Pb b.parts.length pb) (.slice Eb b.extra.length eb)) 34))
  have b2 := MB.new (w.alloc (.cells (mcells a (.slice Pa a.parts.length pa) (.slice Ea a.extra.length ea)) 34)) b (.slice Pb b.parts.length pb) (.slice Eb b.extra.length eb)
  rw [World.size_alloc] at b2
  have B1 := hid b2
  have HW := hid (((Below.refl w.heap.size w).alloc (Nat.le_refl _) (.cells (mcells a (.slice Pa a.parts.length pa) (.slice Ea a.extra.length ea)) 34)).alloc (by simp) (.cells (mcells b (.slice Pb b.parts.length pb) (.slice Eb b.extra.length eb)) 34))
  have HSA1 := hid (show SIn w a (.slice Pa a.parts.length pa) (.slice Ea a.extra.length ea) from ⟨⟨Pa, pa, rfl, ra⟩, ⟨Ea, ea, rfl, xa⟩, hl1, hl3⟩)
  have HSB1 := hid (show SIn w b (.slice Pb b.parts.length pb) (.slice Eb b.extra.length eb) from ⟨⟨Pb, pb, rfl, rb⟩, ⟨Eb, eb, rfl, xb⟩, hl2, hl4⟩)
  clear b2 ra rb xa xb
  go_enter Tryz.func6, Tryz.ntmps6
  go_upto_region 1 with fail
  generalize World.alloc (World.alloc w _) _ = W at *
  have x15 := A1.out.cell (i := 15) (v := .slice Pa a.parts.length pa) rfl
  have y15 := B1.out.cell (i := 15) (v := .slice Pb b.parts.length pb) rfl
  have x16 := A1.out.cell (i := 16) (v := .slice Ea a.extra.length ea) rfl
  have y16 := B1.out.cell (i := 16) (v := .slice Eb b.extra.length eb) rfl
  obtain ⟨t1, e1⟩ : ∃ t, IntKind.i64.wrap ((a.parts.length : Int) + b.parts.length) = t := ⟨_, rfl⟩
  obtain ⟨t2, e2⟩ : ∃ t, IntKind.i64.wrap (t1 + a.extra.length) = t := ⟨_, rfl⟩
  obtain ⟨t3, e3⟩ : ∃ t, IntKind.i64.wrap (t2 + b.extra.length) = t := ⟨_, rfl⟩
  by_cases hbig : 500 < s.size ∨ 60 < t3
  · by_cases h5 : 500 < s.size
    case' pos =>
      have d0 : decide ((s.size : Int) > 500) = true := by rw [decide_eq_true_eq]; omega
    case' neg =>
      have d0 : decide ((s.size : Int) > 500) = false := by rw [decide_eq_false_iff_not]; omega
      have d1 : decide (t3 > 60) = true := by rw [decide_eq_true_eq]; omega
    all_goals
      clear hbig h5
      go_wp2_with fail
      refine (HKN.out _ HW.out).mono ?_
      rintro e w3 ⟨rfl, hb3⟩
      go_wp2
      go_ret
      exact ⟨rfl, HW.out.trans (hb3.mono HW.out.size)⟩
  · have d0 : decide ((s.size : Int) > 500) = false := by rw [decide_eq_false_iff_not]; omega
    have d1 : decide (t3 > 60) = false := by rw [decide_eq_false_iff_not]; omega
    have HS1 := hid (show s.size ≤ 1000000 by omega)
    clear hbig
    go_upto_region 3 with (go_at_call 8; (with_reducible refine (HKN.out _ HW.out).mono ?_); rintro e w3 ⟨rfl, hb3⟩)
    have HW3 := hid (HW.out.trans (hb3.mono HW.out.size))
    have A3 := hid (A1.out.below hb3 A1.out.lt)
    have B3 := hid (B1.out.below hb3 B1.out.lt)
    clear x15 y15 x16 y16 e1 e2 e3 d0 d1 hb3 A1 B1 HW HT HKN hl1 hl2 hl3 hl4
    obtain ⟨k, hk⟩ : ∃ k : Nat, a1.tmod 300 = k := ⟨(a1 % 300).toNat, by rw [Int.tmod_eq_emod_of_nonneg h10]; omega⟩
    have hk3 : k < 300 := by rw [Int.tmod_eq_emod_of_nonneg h10] at hk; omega
    have hwk : IntKind.i64.wrap (k : Int) = (k : Int) := IntWalk.i64_in _ (by omega)
    have HT1 := hid (fun V => textX_any k (by omega) V)
    have HP1 := hid (fun V => splits_any s HS1.out V)
    have HP2 := hid (fun V => splits_any (wordT k k) (by have := wordT_size k k; omega) V)
    have HM1 := hid (fun (V : World) (hV : Below w3.heap.size w3 V) => same_any a b Pa Pb Ea Eb pa pb ea eb V (HSA1.out.later (HW3.out.trans (hV.mono HW3.out.size))) (HSB1.out.later (HW3.out.trans (hV.mono HW3.out.size))))
    have HM2 := hid (fun (V : World) (hV : Below w3.heap.size w3 V) => refSame_any a b Pa Pb Ea Eb pa pb ea eb V (HSA1.out.later (HW3.out.trans (hV.mono HW3.out.size))) (HSB1.out.later (HW3.out.trans (hV.mono HW3.out.size))))
    have HM3 := hid (fun (V : World) (hV : Below w3.heap.size w3 V) => same_any a a Pa Pa Ea Ea pa pa ea ea V (HSA1.out.later (HW3.out.trans (hV.mono HW3.out.size))) (HSA1.out.later (HW3.out.trans (hV.mono HW3.out.size))))
    rw [M.sameM_self] at HM3
    generalize M.sameM a b = S at *
    generalize wordT k k = tx at *
    clear HSA1 HSB1 HS1 h10 h11
    refine wp_region_class (fun W => Below w3.heap.size w3 W) (by kernel_rfl) (by kernel_rfl) (below_drew' (Below.refl _ _)) ?_
    refine quiet_yes 35 (v := ?_) rfl (by kernel_rfl) ?hy35 ?rest35
    case hy35 => (intro W hW; clear hW; go_simp; first | done | with_reducible rfl)
    try simp only [Act.put, List.setIfInBounds_toArray, List.set_cons_zero, List.set_cons_succ]
    refine quiet_yes 36 (v := .bool true) rfl (by kernel_rfl) ?hy36 ?rest36
    case hy36 => (intro W hW; (go_simp; go_at_call 13; (with_reducible refine (HP1.out W).mono ?_); rintro e w' ⟨rfl, hb⟩; exact ⟨rfl, hW.trans (hb.mono hW.size)⟩))
    try simp only [Act.put, List.setIfInBounds_toArray, List.set_cons_zero, List.set_cons_succ]
    refine quiet_yes 37 (v := ?_) rfl (by kernel_rfl) ?hy37 ?rest37
    case hy37 => (intro W hW; clear hW; go_simp; first | done | with_reducible rfl)
    try simp only [Act.put, List.setIfInBounds_toArray, List.set_cons_zero, List.set_cons_succ]
    refine quiet_yes 38 (v := ?_) rfl (by kernel_rfl) ?hy38 ?rest38
    case hy38 => (intro W hW; clear hW; go_simp; first | done | with_reducible rfl)
    try simp only [Act.put, List.setIfInBounds_toArray, List.set_cons_zero, List.set_cons_succ]
    refine quiet_yes 39 (v := ?_) rfl (by kernel_rfl) ?hy39 ?rest39
    case hy39 => (intro W hW; clear hW; go_simp; first | done | with_reducible rfl)
    try simp only [Act.put, List.setIfInBounds_toArray, List.set_cons_zero, List.set_cons_succ]
    refine quiet_yes 40 (v := .int .i64 (k : Int)) rfl (by kernel_rfl) ?hy40 ?rest40
    case hy40 => (intro W hW; clear hW; go_simp; first | done | with_reducible rfl)
    try simp only [Act.put, List.setIfInBounds_toArray, List.set_cons_zero, List.set_cons_succ]
    refine quiet_yes 41 (v := .string tx) rfl (by kernel_rfl) ?hy41 ?rest41
    case hy41 => (intro W hW; (go_simp; go_at_call 14; (with_reducible refine (HT1.out W).mono ?_); rintro e w' ⟨rfl, hb⟩; exact ⟨rfl, hW.trans (hb.mono hW.size)⟩))
    try simp only [Act.put, List.setIfInBounds_toArray, List.set_cons_zero, List.set_cons_succ]
    refine quiet_yes 42 (v := .bool true) rfl (by kernel_rfl) ?hy42 ?rest42
    case hy42 => (intro W hW; (go_simp; go_at_call 13; (with_reducible refine (HP2.out W).mono ?_); rintro e w' ⟨rfl, hb⟩; exact ⟨rfl, hW.trans (hb.mono hW.size)⟩))
    try simp only [Act.put, List.setIfInBounds_toArray, List.set_cons_zero, List.set_cons_succ]
    refine quiet_yes 43 (v := .bool true) rfl (by kernel_rfl) ?hy43 ?rest43
    case hy43 => (intro W hW; clear hW; go_simp; first | done | with_reducible rfl)
    try simp only [Act.put, List.setIfInBounds_toArray, List.set_cons_zero, List.set_cons_succ]
    refine quiet_yes 44 (v := ?_) rfl (by kernel_rfl) ?hy44 ?rest44
    case hy44 => (intro W hW; clear hW; go_simp; first | done | with_reducible rfl)
    try simp only [Act.put, List.setIfInBounds_toArray, List.set_cons_zero, List.set_cons_succ]
    refine quiet_yes 45 (v := .agg (mcells a (.slice Pa a.parts.length pa) (.slice Ea a.extra.length ea))) rfl (by kernel_rfl) ?hy45 ?rest45
    case hy45 => (intro W hW; exact quietAt_load 34 (.tmp 6) rfl (w.heap.size) rfl 34 (mcells a (.slice Pa a.parts.length pa) (.slice Ea a.extra.length ea)) (0, 0) _ (A3.out.below hW A3.out.lt) Tryz.underlying34 rfl met_size)
    try simp only [Act.put, List.setIfInBounds_toArray, List.set_cons_zero, List.set_cons_succ]
    refine quiet_yes 46 (v := .agg (mcells b (.slice Pb b.parts.length pb) (.slice Eb b.extra.length eb))) rfl (by kernel_rfl) ?hy46 ?rest46
    case hy46 => (intro W hW; exact quietAt_load 34 (.tmp 7) rfl (w.heap.size + 1) rfl 34 (mcells b (.slice Pb b.parts.length pb) (.slice Eb b.extra.length eb)) (0, 0) _ (B3.out.below hW B3.out.lt) Tryz.underlying34 rfl met_size)
    try simp only [Act.put, List.setIfInBounds_toArray, List.set_cons_zero, List.set_cons_succ]
    refine quiet_yes 47 (v := .bool S) rfl (by kernel_rfl) ?hy47 ?rest47
    case hy47 => (intro W hW; (go_simp; go_at_call 15; (with_reducible refine (HM1.out W hW).mono ?_); rintro e w' ⟨rfl, hb⟩; exact ⟨rfl, hW.trans (hb.mono hW.size)⟩))
    try simp only [Act.put, List.setIfInBounds_toArray, List.set_cons_zero, List.set_cons_succ]
    refine quiet_yes 48 (v := .agg (mcells a (.slice Pa a.parts.length pa) (.slice Ea a.extra.length ea))) rfl (by kernel_rfl) ?hy48 ?rest48
    case hy48 => (intro W hW; exact quietAt_load 34 (.tmp 6) rfl (w.heap.size) rfl 34 (mcells a (.slice Pa a.parts.length pa) (.slice Ea a.extra.length ea)) (0, 0) _ (A3.out.below hW A3.out.lt) Tryz.underlying34 rfl met_size)
    try simp only [Act.put, List.setIfInBounds_toArray, List.set_cons_zero, List.set_cons_succ]
    refine quiet_yes 49 (v := .agg (mcells b (.slice Pb b.parts.length pb) (.slice Eb b.extra.length eb))) rfl (by kernel_rfl) ?hy49 ?rest49
    case hy49 => (intro W hW; exact quietAt_load 34 (.tmp 7) rfl (w.heap.size + 1) rfl 34 (mcells b (.slice Pb b.parts.length pb) (.slice Eb b.extra.length eb)) (0, 0) _ (B3.out.below hW B3.out.lt) Tryz.underlying34 rfl met_size)
    try simp only [Act.put, List.setIfInBounds_toArray, List.set_cons_zero, List.set_cons_succ]
    refine quiet_yes 50 (v := .bool S) rfl (by kernel_rfl) ?hy50 ?rest50
    case hy50 => (intro W hW; (go_simp; go_at_call 16; (with_reducible refine (HM2.out W hW).mono ?_); rintro e w' ⟨rfl, hb⟩; exact ⟨rfl, hW.trans (hb.mono hW.size)⟩))
    try simp only [Act.put, List.setIfInBounds_toArray, List.set_cons_zero, List.set_cons_succ]
    refine quiet_yes 51 (v := .bool true) rfl (by kernel_rfl) ?hy51 ?rest51
    case hy51 => (intro W hW; clear hW; cases S <;> (go_simp; first | done | with_reducible rfl))
    try simp only [Act.put, List.setIfInBounds_toArray, List.set_cons_zero, List.set_cons_succ]
    refine quiet_yes 52 (v := .bool true) rfl (by kernel_rfl) ?hy52 ?rest52
    case hy52 => (intro W hW; clear hW; go_simp; first | done | with_reducible rfl)
    try simp only [Act.put, List.setIfInBounds_toArray, List.set_cons_zero, List.set_cons_succ]
    refine quiet_yes 53 (v := ?_) rfl (by kernel_rfl) ?hy53 ?rest53
    case hy53 => (intro W hW; clear hW; go_simp; first | done | with_reducible rfl)
    try simp only [Act.put, List.setIfInBounds_toArray, List.set_cons_zero, List.set_cons_succ]
    refine quiet_yes 54 (v := .agg (mcells a (.slice Pa a.parts.length pa) (.slice Ea a.extra.length ea))) rfl (by kernel_rfl) ?hy54 ?rest54
    case hy54 => (intro W hW; exact quietAt_load 34 (.tmp 6) rfl (w.heap.size) rfl 34 (mcells a (.slice Pa a.parts.length pa) (.slice Ea a.extra.length ea)) (0, 0) _ (A3.out.below hW A3.out.lt) Tryz.underlying34 rfl met_size)
    try simp only [Act.put, List.setIfInBounds_toArray, List.set_cons_zero, List.set_cons_succ]
    refine quiet_yes 55 (v := .agg (mcells a (.slice Pa a.parts.length pa) (.slice Ea a.extra.length ea))) rfl (by kernel_rfl) ?hy55 ?rest55
    case hy55 => (intro W hW; exact quietAt_load 34 (.tmp 6) rfl (w.heap.size) rfl 34 (mcells a (.slice Pa a.parts.length pa) (.slice Ea a.extra.length ea)) (0, 0) _ (A3.out.below hW A3.out.lt) Tryz.underlying34 rfl met_size)
    try simp only [Act.put, List.setIfInBounds_toArray, List.set_cons_zero, List.set_cons_succ]
    refine quiet_yes 56 (v := .bool true) rfl (by kernel_rfl) ?hy56 ?rest56
    case hy56 => (intro W hW; (go_simp; go_at_call 15; (with_reducible refine (HM3.out W hW).mono ?_); rintro e w' ⟨rfl, hb⟩; exact ⟨rfl, hW.trans (hb.mono hW.size)⟩))
    try simp only [Act.put, List.setIfInBounds_toArray, List.set_cons_zero, List.set_cons_succ]
    refine quiet_yes 57 (v := .bool true) rfl (by kernel_rfl) ?hy57 ?rest57
    case hy57 => (intro W hW; clear hW; go_simp; first | done | with_reducible rfl)
    try simp only [Act.put, List.setIfInBounds_toArray, List.set_cons_zero, List.set_cons_succ]
    refine quiet_yes 8 (v := ?_) rfl (by kernel_rfl) ?hy8 ?rest8
    case hy8 => (intro W hW; clear hW; go_simp; first | done | with_reducible rfl)
    try simp only [Act.put, List.setIfInBounds_toArray, List.set_cons_zero, List.set_cons_succ]
    refine wpQuiet_nil ?_
    intro w5 hb5
    go_wp2_with fail
    go_ret
    exact ⟨rfl, HW3.out.trans (hb5.mono HW3.out.size)⟩
end Go.Proofs.YtbpangofobkmfaaGreatDoor
