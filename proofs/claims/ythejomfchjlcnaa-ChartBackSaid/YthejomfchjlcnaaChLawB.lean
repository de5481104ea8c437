/-
  The walk of ChartBack.
-/
import Derived.Test.YthejomfchjlcnaaChLawC
set_option linter.unusedVariables false
set_option linter.unusedSimpArgs false
namespace Go.Proofs.Ythejomfchjlcnaa
open Go.RowKit Go.Lib

namespace C
/-- Changes so far. -/
def ch (m : List Int) (i : Nat) : Nat := if i = 0 then changes (m.take 1) else changes (m.take i)
theorem ch_zero (m : List Int) : ch m 0 = min m.length 1 := by
  cases m with
  | nil => rfl
  | cons x r => simp [ch, changes, chg]
theorem ch_one (m : List Int) : ch m 1 = ch m 0 := by simp [ch]
theorem ch_same {m : List Int} {j : Nat} {x : Int} (hx : m[j + 1]? = some x) (hy : m[j]? = some x) : ch m (j + 2) = ch m (j + 1) := by
  simp only [ch]
  rw [if_neg (by omega), if_neg (by omega), changes_step hx hy]
  simp [nx]
theorem ch_other {m : List Int} {j : Nat} {x y : Int} (hx : m[j + 1]? = some x) (hy : m[j]? = some y) (hn : x ≠ y) : ch m (j + 2) = ch m (j + 1) + 1 := by
  simp only [ch]
  rw [if_neg (by omega), if_neg (by omega), changes_step hx hy]
  simp [nx, hn]
theorem chg_le (r : List Int) : ∀ c, chg c r ≤ r.length := by
  induction r with
  | nil => intro c; simp [chg]
  | cons x r ih => intro c; have := ih x; simp only [chg, nx, List.length_cons]; split <;> omega
theorem changes_le (m : List Int) : changes m ≤ m.length := by
  cases m with
  | nil => simp [changes]
  | cons x r => have := chg_le r x; simp only [changes, List.length_cons]; omega
theorem ch_le (m : List Int) (i : Nat) : ch m i ≤ m.length := by
  unfold ch
  split
  · have := changes_le (m.take 1); rw [List.length_take] at this; omega
  · have := changes_le (m.take i); rw [List.length_take] at this; omega
theorem ch_end (m : List Int) : ch m m.length = (spans m).length := by
  rw [spans_changes]
  unfold ch
  split
  · rename_i h
    have : m = [] := List.eq_nil_of_length_eq_zero h
    subst this; rfl
  · rw [List.take_length]
end C

set_option maxRecDepth 100000 in
set_option maxHeartbeats 20000000 in
theorem chartBack_any (A : Option Addr) (n c : Nat) (zs : List Int) (w : World) (hr : Rd w w.heap.size A n zs) (hn : n ≤ maxLen) :
    Calls Try.prog 5 #[.slice A n c] w fun e w' => e = .returned (.bool true) ∧ Below w.heap.size w w' := by
  unfold maxLen at hn
  have HR := hid hr
  have HL := hid hr.len
  have HK := hid (fun W => known_any W)
  clear hr
  go_enter Try.func5, Try.ntmps5
  go_wp2
  go_loopw [3, 4] (fun vv iv wr => ∃ (k : Nat) (v : Value), iv = .int .i64 k ∧ vv = v ∧ k ≤ n ∧ k ≤ 100 ∧ Hid (OwnI wr w.heap.size v ((zs.take k).map C.fO)) ∧ Hid (Below w.heap.size w wr)) (fun _ iv _ => n - (RowKit.intOf iv).toNat)
  case atStart => exact ⟨0, _, rfl, rfl, Nat.zero_le _, Nat.zero_le _, hid (OwnI.nil _ _), hid (Below.refl _ _)⟩
  case round =>
    obtain ⟨k, v, rfl, rfl, hk, hk100, HO, HW⟩ := hrel
    have HLN : Hid (((zs.take k).map C.fO).length = k) := hid (by rw [List.length_map, List.length_take, HL.out]; omega)
    obtain ⟨Ao, co, rfl, hco, _⟩ := own_room HO.out
    rw [HLN.out] at HO hco ⊢
    have hbs := HW.out.size
    by_cases hlt : k < n ∧ k < 100
    · have hlt1 := hlt.1
      have hlt2 := hlt.2
      have d1 : decide ((k : Int) < 100) = true := by rw [decide_eq_true_eq]; omega
      obtain ⟨bb, off, z, rfl, hb, hz0, hz1, hz, hcz⟩ := (HR.out.below HW.out).at_ hlt1
      have HF := hid (C.map_take (f := C.fO) hz)
      have HZ : Hid (1 + z % 9 = C.fO z) := hid rfl
      have e2 : IntKind.u8.wrap (z % 9) = z % 9 := IntWalk.u8_in _ (by omega)
      have f2 : Int.tmod z 9 = z % 9 := Int.tmod_eq_emod_of_nonneg hz0
      have e4 : IntKind.i64.wrap (z % 9) = z % 9 := IntWalk.i64_in _ (by omega)
      have e5 : IntKind.i64.wrap (1 + z % 9) = 1 + z % 9 := IntWalk.i64_in _ (by omega)
      clear hlt
      go_wp2_with (refine wpList_app_ints rfl (.tmp 18) (.tmp 26) rfl w.heap.size _ _ (by simp [Act.eval]) (World.ownsRow.alloc HO.out _) (wr.heap.size + 1) (some ⟨wr.heap.size, 0, none⟩) 1 1 [1 + z % 9] (by simp [Act.eval]) (RdI.one wr (1 + z % 9) (by omega)) (by rw [HLN.out]; omega) (by rw [World.size_alloc]; omega) ?_
                   intro v' w3 k1 k2 k3
                   rw [HZ.out, HF.out] at k1
                   have hl9 : ((zs.take (k + 1)).map C.fO).length = k + 1 := by rw [List.length_map, List.length_take, HL.out]; omega
                   obtain ⟨A9, c9, hv9, _, _⟩ := own_room k1
                   rw [hl9] at hv9
                   subst hv9
                   have K1 := hid k1
                   have B3 := hid (below_grown (HW.out.alloc HW.out.size _) k2 (by rw [World.size_alloc]; omega) (fun g' e => (World.ownsRow.lt HO.out g' e).1))
                   clear k1 k2 k3 hl9)
      go_roundw
      case rel => exact ⟨k + 1, _, (show Value.int .i64 _ = Value.int .i64 ((_ + 1 : Nat) : Int) by go_num), rfl, by omega, by omega, K1, B3⟩
      case measure => simp [RowKit.intOf] <;> omega
    · have hmc := C.cls_map (zs.take k)
      generalize hmm : (zs.take k).map C.fO = m at *
      have hmz : i64s m := fun y hy => by have := hmc y hy; omega
      have hml : m.length = k := HLN.out
      have hrm : RdI wr wr.heap.size Ao k m := by
        obtain ⟨Am, cm, hsl, hrm, _, _⟩ := HO.out.rd hmz
        rw [hml] at hsl hrm
        cases hsl
        exact hrm
      have HS := hid (spans_any Ao k co m (by omega) wr hrm)
      have HMC := hid hmc
      by_cases hkn : k < n
      case' pos =>
        have d0 : decide (k < n) = true := by rw [decide_eq_true_eq]; omega
        have d1 : decide ((k : Int) < 100) = false := by rw [decide_eq_false_iff_not]; omega
      case' neg => have d0 : decide (k < n) = false := by rw [decide_eq_false_iff_not]; omega
      all_goals
        clear hlt hmc hmz hmm hkn hco
        go_wp2_with fail
        (with_reducible refine HS.out.mono ?_)
        rintro e w1 ⟨v1, rfl, o1, b1⟩
        obtain ⟨A1, c1, rfl, r1, hc1, _⟩ := o1.rd
        have RL := hid r1
        have RM := hid hrm
        have HCV := hid (C.cov_spans HMC.out (k : Int))
        have HEN := hid (C.ch_end m)
        have HZ0 := hid (C.ch_zero m)
        have HLS : Hid ((C.spans m).length ≤ 100) := hid (by have := C.spans_len m; omega)
        have HCL := hid (fun i x (h : m[i]? = some x) => C.cls_spans h)
        have HW1 := hid (HW.out.trans (b1.mono HW.out.size))
        have HB1 := hid b1
        have hs1 := HW1.out.size
        have HML := hid hml
        have RM1 := hid ((RM.out.below HB1.out).more HB1.out.size)
        rw [hml] at HCV HEN HZ0
        generalize hls : C.spans m = l at *
        obtain ⟨N, hN⟩ : ∃ N, N = l.length := ⟨_, rfl⟩
        rw [← hN] at RL HLS HEN hc1 ⊢
        have HNN := hid hN
        clear HS HO r1 o1 b1 hls hN hml hrm
        by_cases hk1 : (1 : Int) < (k : Int)
        case' pos => have HZ : Hid (((C.ch m 0 : Nat) : Int) = 1) := hid (by have := HZ0.out; omega)
        case' neg => have HZ : Hid (((C.ch m 0 : Nat) : Int) = (k : Int)) := hid (by have := HZ0.out; omega)
      all_goals
        go_wp2
        go_loopw [6, 7] (fun cv iv wx => ∃ (i : Nat), iv = .int .i64 i ∧ cv = .int .i64 ((C.ch m i : Nat) : Int) ∧ i ≤ k ∧ Hid (Below w1.heap.size w1 wx)) (fun _ iv _ => k - (RowKit.intOf iv).toNat)
        case atStart => exact ⟨0, rfl, by rw [HZ.out], Nat.zero_le _, hid (Below.refl _ _)⟩
        case round =>
          obtain ⟨i, rfl, rfl, hik, HWX⟩ := hrel
          have hbx := HWX.out.size
          by_cases hlt : i < k
          · obtain ⟨bb, off, x, rfl, hb, hx, hx0, hx1, hcx⟩ := (RM1.out.below HWX.out).cell hlt
            have hN := HLS.out
            have FC := hid (fun (W : World) (hW : Below wr.heap.size wr W) => class_any A1 N c1 l (i : Int) W ((RL.out.below (HWX.out.trans (hW.mono hbx))).more (Nat.le_trans hbx hW.size)) (by omega) hc1)
            rw [HCL.out i x hx] at FC
            have CX := hid (fun (W : World) (hW : Below wr.heap.size wr W) => (hW.cell (p := ⟨bb, off + i, none⟩) (Nat.lt_of_lt_of_le hb hbx)).trans hcx)
            have HX := hid hx
            have d2 : (x != x) = false := by simp
            have HCH : Hid (C.ch m i ≤ 100) := hid (by have := C.ch_le m i; have := HML.out; omega)
            clear hcx hx hb
            go_wp2_with fail
            refine wp_region_held_drew (S := fun W => Below wr.heap.size wr W) (by kernel_rfl) (below_drew' (Below.refl _ _)) (fun hS => ?_)
            refine tkH 0 hS ?_
            refine tkH 1 hS ?_
            refine tkH 3 hS ?_
            refine tkH 4 hS ?_
            refine tkH 5 hS ?_
            refine tfH 6 hS CX.out ?_
            refine loneH (i := 2) 41 rfl rfl (by kernel_rfl) (by kernel_rfl) (fun K hK => ?_)
            go_simp
            (with_reducible refine (FC.out _ hS).mono ?_)
            rintro e wx ⟨rfl, bx⟩
            refine hK.out _ _ (hS.trans (bx.mono hS.size)) (fun hS => ?_)
            clear hK K bx
            try simp only [NM]
            refine tkH 7 hS ?_
            have WX := hid (HWX.out.trans (hS.mono hbx))
            clear hS
            refine wpAnyH_done (by kernel_rfl) ?_ _
            try simp only [NM]
            by_cases hi0 : i = 0
            · subst hi0
              go_wp2_with fail
              go_quiet (fail)
              have WX2 := hid (below_drewN' WX.out nq)
              go_wp2
              go_roundw
              case rel => exact ⟨1, rfl, by rw [C.ch_one], by omega, WX2⟩
              case measure => simp [RowKit.intOf] <;> omega
            · obtain ⟨j, hj⟩ : ∃ j, i = j + 1 := ⟨i - 1, by omega⟩
              obtain ⟨bb2, off2, y, hA2, hb, hy, hy0, hy1, hcy⟩ := (RM1.out.below WX.out).cell (k := j) (by omega)
              cases hA2
              obtain ⟨bb3, off3, x3, hA3, _, hx3, _, _, hcx⟩ := (RM1.out.below WX.out).cell (k := i) hlt
              cases hA3
              obtain rfl : x = x3 := by have := HX.out; rw [hx3] at this; injection this with this; exact this.symm
              have d0 : decide (0 < i) = true := by rw [decide_eq_true_eq]; omega
              have e1 : (i : Int) - 1 = (j : Int) := by omega
              have e2 : IntKind.i64.wrap (j : Int) = (j : Int) := IntWalk.i64_in _ (by omega)
              have hjk : j < k := by omega
              have HY := hid hy
              have HJ := hid hj
              clear hx3 hy hj
              by_cases hxy : x = y
              · subst hxy
                have HC2 : Hid (C.ch m (i + 1) = C.ch m i) := hid (by have h1 := HX.out; have h2 := HJ.out; subst h2; exact C.ch_same h1 HY.out)
                go_wp2_with fail
                go_quiet (fail)
                have WX2 := hid (below_drewN' WX.out nq)
                go_wp2
                go_roundw
                case rel => exact ⟨i + 1, (show Value.int .i64 _ = Value.int .i64 ((_ + 1 : Nat) : Int) by go_num), by rw [HC2.out], by omega, WX2⟩
                case measure => simp [RowKit.intOf] <;> omega
              · have d3 : (x != y) = true := by simpa using hxy
                have HC2 : Hid (C.ch m (i + 1) = C.ch m i + 1) := hid (by have h1 := HX.out; have h2 := HJ.out; subst h2; exact C.ch_other h1 HY.out hxy)
                go_wp2_with fail
                go_quiet (fail)
                have WX2 := hid (below_drewN' WX.out nq)
                have hch := HCH.out
                go_wp2
                go_roundw
                case rel => exact ⟨i + 1, (show Value.int .i64 _ = Value.int .i64 ((_ + 1 : Nat) : Int) by go_num), by rw [HC2.out]; exact congrArg _ (by omega), by omega, WX2⟩
                case measure => simp [RowKit.intOf] <;> omega
          · obtain rfl : i = k := by omega
            have FCV := hid (fun (W : World) (hW : Below w1.heap.size w1 W) => covers_any A1 N c1 l (i : Int) W ((RL.out.below hW).more hW.size) (by have := HLS.out; omega) hc1)
            rw [show C.cov 0 0 l (i : Int) = true by rw [HCV.out]; simp] at FCV
            have d5 : ((N : Int) == ((C.ch m i : Nat) : Int)) = true := by rw [HEN.out]; simp
            go_wp2_with (first
              | (go_at_call 7; (with_reducible refine (HK.out _).mono ?_); rintro e w2 ⟨rfl, b2⟩; have WK := hid (HWX.out.trans (b2.mono hbx)); clear b2)
              | (go_at_call 8; (with_reducible refine (FCV.out _ WK.out).mono ?_); rintro e w3 ⟨rfl, b3⟩; have WL := hid (WK.out.trans (b3.mono WK.out.size)); clear b3))
            go_ret
            exact ⟨rfl, HW1.out.trans (WL.out.mono hs1)⟩
end Go.Proofs.Ythejomfchjlcnaa
