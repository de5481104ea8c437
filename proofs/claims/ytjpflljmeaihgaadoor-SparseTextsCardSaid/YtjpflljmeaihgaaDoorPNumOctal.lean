/-
  The contracts of Octal, the program's and the document's: of any bytes both answer the same number and the same bool.
-/
import Derived.Test.YtjpflljmeaihgaaDoorPNumRead
import Derived.Laws.BitsAllLaws
import Derived.Laws.BitsLemmas
namespace Go.Proofs.YtjpflljmeaihgaaDoor.H
open Go.RowKit Go.Lib
attribute [local go_sem ↓] slice_from

theorem ofInt_i64 (a : Nat) (ha : a < 9223372036854775808) : (BitVec.ofInt 64 (a : Int)).toNat = a := by
  rw [BitVec.ofInt_natCast, BitVec.toNat_ofNat]; exact Nat.mod_eq_of_lt (by omega)
/-- Or of a number of whole 8's and one below 8: their sum. -/
theorem i64_or_8 (x y : Int) (h0 : 0 ≤ y) (h1 : y < 8) (hx : -9223372036854775808 ≤ 8 * x) (hx' : 8 * x + y < 9223372036854775808) :
    bits .or .i64 (8 * x) y = 8 * x + y := by
  obtain ⟨y, rfl⟩ := Int.eq_ofNat_of_zero_le h0
  have ey : (BitVec.ofInt 64 ((y : Nat) : Int)).toNat = y := ofInt_i64 y (by omega)
  have ex : (BitVec.ofInt 64 (8 * x)).toNat = 2 ^ 3 * (((8 * x) % 18446744073709551616).toNat / 8) := by
    rw [BitVec.toNat_ofInt]
    show ((8 * x) % 18446744073709551616).toNat = _
    omega
  show IntKind.i64.wrap ((BitVec.ofInt 64 (8 * x) ||| BitVec.ofInt 64 (y : Int)).toNat : Int) = _
  rw [BitVec.toNat_or, ex, ey, ← Nat.two_pow_add_eq_or_of_lt (by omega), IntKind.wrap_i64]
  omega
theorem i64_or_256 (x y : Int) (h0 : 0 ≤ y) (h1 : y < 256) (hx : -9223372036854775808 ≤ 256 * x) (hx' : 256 * x + y < 9223372036854775808) :
    bits .or .i64 (256 * x) y = 256 * x + y := by
  obtain ⟨y, rfl⟩ := Int.eq_ofNat_of_zero_le h0
  have ey : (BitVec.ofInt 64 ((y : Nat) : Int)).toNat = y := ofInt_i64 y (by omega)
  have ex : (BitVec.ofInt 64 (256 * x)).toNat = 2 ^ 8 * (((256 * x) % 18446744073709551616).toNat / 256) := by
    rw [BitVec.toNat_ofInt]
    show ((256 * x) % 18446744073709551616).toNat = _
    omega
  show IntKind.i64.wrap ((BitVec.ofInt 64 (256 * x) ||| BitVec.ofInt 64 (y : Int)).toNat : Int) = _
  rw [BitVec.toNat_or, ex, ey, ← Nat.two_pow_add_eq_or_of_lt (by omega), IntKind.wrap_i64]
  omega

def ret2 (a : Int) (b : Bool) : Ending := .returned (.tuple #[.int .i64 a, .bool b])
theorem ret2_eq {a a' : Int} {b b' : Bool} (h : a = a') (h' : b = b') : Ending.returned (.tuple #[.int .i64 a, .bool b]) = .returned (.tuple #[.int .i64 a', .bool b']) := by rw [h, h']

set_option maxHeartbeats 400000 in
theorem octal_any (A : Option Addr) (n c : Nat) (zs : List Int) (w : World) (B : Nat) (hr : Rd w B A n zs) (hn : n ≤ c) (hc : c ≤ maxLen) :
    Calls Tryd.prog 82 #[.slice A n c] w fun e w' => e = .returned (.tuple #[.int .i64 (M.octN zs), .bool (M.octOk zs)]) ∧ w = w' := by
  have hm : n ≤ maxLen := Nat.le_trans hn hc
  have hb := M.lead_le (· == 32) zs
  rw [hr.len] at hb
  have hr1 := hr.cut hb hn
  rw [M.rest_eq] at hr1
  have hd := M.lead_le M.dig (M.rest zs)
  rw [hr1.len] at hd
  have hr2 := hr1.cut hd (Nat.sub_le_sub_right hn _)
  rw [M.tail_eq] at hr2
  have hrd := hr1.front hd
  rw [M.digs_eq] at hrd
  have HB := blanks_any A n c zs w B hr hm
  have HD := digits_any _ _ (c - M.lead (· == 32) zs) _ w B hr1 (by omega)
  have HF := filling_any _ _ (c - M.lead (· == 32) zs - M.lead M.dig (M.rest zs)) _ w B hr2 (by omega)
  generalize M.lead (· == 32) zs = L at *
  generalize M.lead M.dig (M.rest zs) = D at *
  unfold maxLen at hm hc
  have HB := hid HB
  have HD := hid HD
  have HF := hid HF
  clear hr1 hr2 hr
  rename_i HB0 HD0 HF0
  clear HB0 HD0 HF0
  cases hfil : (M.tail zs).all M.fil with
  | false =>
    have HFF := hid hfil
    clear hfil
    go_enter Tryd.func82, Tryd.ntmps82
    go_wp2_with fail
    refine HB.out.mono ?_
    rintro e w' ⟨rfl, rfl⟩
    go_wp2_with fail
    refine HD.out.mono ?_
    rintro e w' ⟨rfl, rfl⟩
    go_wp2_with fail
    refine HF.out.mono ?_
    rintro e w' ⟨rfl, rfl⟩
    rw [HFF.out]
    go_wp2
    go_ret2
    have hno := M.octOk_false_of_tail HFF.out
    exact ⟨ret2_eq (by rw [M.octN_no hno]) (by rw [hno]), rfl⟩
  | true =>
    have HFF := hid hfil
    clear hfil
    go_enter Tryd.func82, Tryd.ntmps82
    go_wp2_with fail
    refine HB.out.mono ?_
    rintro e w' ⟨rfl, rfl⟩
    go_wp2_with fail
    refine HD.out.mono ?_
    rintro e w' ⟨rfl, rfl⟩
    go_wp2_with fail
    refine HF.out.mono ?_
    rintro e w' ⟨rfl, rfl⟩
    rw [HFF.out]
    clear HB HD HF
    go_wp2
    go_loop [6, 21] (fun v i => ∃ k : Nat, k ≤ D ∧ i = .int .i64 k ∧ v = .int .i64 (M.val ((M.digs zs).take k)) ∧ M.val ((M.digs zs).take k) ≤ M.most) (fun _ i => D - (intOf i).toNat)
    case atStart => exact ⟨0, Nat.zero_le _, rfl, rfl, by rw [List.take_zero, M.val_nil]; decide⟩
    case round =>
      obtain ⟨k, hk, rfl, rfl, hv⟩ := hrel
      have hv0 := M.val_take_nonneg zs k
      by_cases hlt : k < D
      · obtain ⟨b, off, z, hA, hbB, hz0, hz1, hzk, hc⟩ := hrd.at_ hlt
        have hzd := M.dig_bd hzk
        have HZ := hid (M.val_succ hzk)
        have HK := hid hzk
        clear hzk
        generalize hval : M.val ((M.digs zs).take k) = v at *
        have HV := hid hval
        clear hval
        unfold M.most at hv
        rw [hA]
        go_wp2
        · go_ret2
          have hst : (4611686018427387904 - (z - 48)) / 8 < v := by assumption
          have hno : M.octOk zs = false := by
            refine M.octOk_over (M.val_over (k := k + 1) (M.digs_dig zs) ?_)
            rw [HZ.out]
            unfold M.most
            omega
          exact ⟨ret2_eq (by rw [M.octN_no hno]) (by rw [hno]), rfl⟩
        · have hgo : v ≤ (4611686018427387904 - (z - 48)) / 8 := by assumption
          have he : bits .or .i64 (v * 8) (z - 48) = 8 * v + (z - 48) := by
            rw [Int.mul_comm]
            exact i64_or_8 v (z - 48) (by omega) (by omega) (by omega) (by omega)
          go_round
          case rel => exact ⟨k + 1, by omega, by go_num, by rw [he, HZ.out], by rw [HZ.out]; unfold M.most; omega⟩
          case measure => simp [intOf]; omega
      · have hkD : k = D := by omega
        have hall : (M.digs zs).take k = M.digs zs := List.take_of_length_le (by rw [hrd.len]; omega)
        rw [hall] at hv ⊢
        clear hall
        have hyes := M.octOk_yes HFF.out hv
        have HY := hid hyes
        have HN := hid (M.octN_yes hyes)
        clear hyes hv hv0
        go_wp2
        go_ret2
        exact ⟨ret2_eq (by rw [HN.out]) (by rw [HY.out]), rfl⟩

theorem dig_no {z : Int} (h : M.dig z = false) : z < 48 ∨ 55 < z := by
  by_cases h1 : z < 48
  · exact .inl h1
  · right
    simp only [M.dig] at h
    by_cases h2 : 55 < z
    · exact h2
    · have : decide (48 ≤ z) = true := by simp; omega
      have : decide (z ≤ 55) = true := by simp; omega
      simp_all

set_option maxHeartbeats 800000 in
theorem octalRef_any (A : Option Addr) (n c : Nat) (zs : List Int) (w : World) (B : Nat) (hr : Rd w B A n zs) (hn : n ≤ c) (hc : c ≤ maxLen) :
    Calls Tryd.prog 67 #[.slice A n c] w fun e w' => e = .returned (.tuple #[.int .i64 (M.octN zs), .bool (M.octOk zs)]) ∧ w = w' := by
  have hm : n ≤ maxLen := Nat.le_trans hn hc
  have hb := M.lead_le (· == 32) zs
  rw [hr.len] at hb
  have hr1 := hr.cut hb hn
  rw [M.rest_eq] at hr1
  have hd := M.lead_le M.dig (M.rest zs)
  rw [hr1.len] at hd
  have hr2 := hr.cut (k := M.lead (· == 32) zs + M.lead M.dig (M.rest zs)) (c := c) (by omega) hn
  rw [← List.drop_drop, M.rest_eq, M.tail_eq] at hr2
  have hrd := hr1.front hd
  rw [M.digs_eq] at hrd
  have HF := hid (fun q => blank_any _ _ q _ w B hr2 (by omega))
  have HR := hid (M.rest_eq zs)
  have H32 := hid (fun (k : Nat) z => M.lead_lt (p := (· == 32)) (zs := zs) (k := k) (z := z))
  have H32e := hid (fun z => M.lead_end (p := (· == 32)) (zs := zs) (z := z))
  have HDe := hid (fun z => M.lead_end (p := M.dig) (zs := M.rest zs) (z := z))
  have HDa := hid (fun (k : Nat) z => M.digs_at (zs := zs) (k := k) (z := z))
  have HDl := hid hrd.len
  generalize hL : M.lead (· == 32) zs = L at *
  generalize hD : M.lead M.dig (M.rest zs) = D at *
  unfold maxLen at hm hc
  clear hr1 hr2 hrd hL hD
  have hone : (0 : Nat) ≤ L := Nat.zero_le _
  go_enter Tryd.func67, Tryd.ntmps67
  go_wp2
  go_loop [4] (fun i => ∃ k : Nat, k ≤ L ∧ i = .int .i64 k) (fun i => L - (intOf i).toNat)
  case atStart => exact ⟨0, Nat.zero_le _, rfl⟩
  case round =>
    obtain ⟨k, hk, rfl⟩ := hrel
    by_cases hlt : k < L
    · obtain ⟨b, off, z, hA, hbB, hz0, hz1, hzk, hc⟩ := hr.at_ (k := k) (by omega)
      obtain rfl : z = 32 := by simpa using H32.out k z hlt hzk
      clear hzk
      have hkn : k < n := by omega
      rw [hA]
      go_wp2
      go_round
      case rel => exact ⟨k + 1, by omega, by go_num⟩
      case measure => simp [intOf]; omega
    · obtain rfl : k = L := by omega
      clear hk hlt
      clear H32
      by_cases hkn : k < n
      case' pos =>
        obtain ⟨b, off, z, hA, hbB, hz0, hz1, hzk, hc⟩ := hr.at_ hkn
        have h32 : (z == 32) = false := by simpa using H32e.out z hzk
        clear hzk
        rw [hA]
        go_wp2
        rw [← hA]
        clear hA hc h32
      case' neg =>
        go_wp2
        have hkn' : k ≤ n := by omega
      all_goals
        clear hkn
        go_loop [4, 5] (fun i v => ∃ j : Nat, j ≤ D ∧ i = .int .i64 ((k + j : Nat) : Int) ∧ v = .int .i64 (M.val ((M.digs zs).take j)) ∧ M.val ((M.digs zs).take j) ≤ M.most + 7) (fun i _ => k + D - (intOf i).toNat)
        case atStart => exact ⟨0, Nat.zero_le _, rfl, rfl, by rw [List.take_zero, M.val_nil]; decide⟩
        case round =>
          obtain ⟨j, hj, rfl, rfl, hv⟩ := hrel
          have hv0 := M.val_take_nonneg zs j
          by_cases hlt : j < D
          · obtain ⟨b, off, z, hA, hbB, hz0, hz1, hzk, hc⟩ := hr.at_ (k := k + j) (by omega)
            have hzr : (M.digs zs)[j]? = some z := HDa.out j z hlt (by rw [← HR.out, List.getElem?_drop]; exact hzk)
            have hzd := M.dig_bd hzr
            have HZ := hid (M.val_succ hzr)
            clear hzr hzk
            generalize hval : M.val ((M.digs zs).take j) = v at *
            have HV := hid hval
            clear hval
            unfold M.most at hv
            have hkj : k + j < n := by omega
            by_cases hst : 576460752303423488 < v
            · rw [hA]
              go_wp2
              go_ret2
              have hno : M.octOk zs = false := by
                refine M.octOk_over (M.val_over (k := j + 1) (M.digs_dig zs) ?_)
                rw [HZ.out]
                unfold M.most
                omega
              exact ⟨ret2_eq (by rw [M.octN_no hno]) (by rw [hno]), rfl⟩
            · rw [hA]
              go_wp2
              go_round
              case rel => exact ⟨j + 1, by omega, by go_num, by rw [HZ.out]; go_num, by rw [HZ.out]; unfold M.most; omega⟩
              case measure => simp [intOf]; omega
          · have hjD : j = D := by omega
            have hall : (M.digs zs).take j = M.digs zs := List.take_of_length_le (by have := HDl.out; omega)
            rw [hall] at hv hv0 ⊢
            clear hall
            subst hjD
            clear hj hlt
            generalize hval : M.val (M.digs zs) = v at *
            have HV := hid hval
            clear hval
            unfold M.most at hv
            have hnd : ∀ z, zs[k + j]? = some z → M.dig z = false := fun z hz => HDe.out z (by rw [← HR.out, List.getElem?_drop]; exact hz)
            have HND := hid hnd
            clear hnd
            have hfin : M.octOk zs = ((M.tail zs).all M.fil && decide (v ≤ 4611686018427387904)) := by
              unfold M.octOk
              rw [HV.out]
              rfl
            have HFIN := hid hfin
            clear hfin
            by_cases hkj : k + j < n
            case' pos =>
              obtain ⟨b, off, z, hA, hbB, hz0, hz1, hzk, hc⟩ := hr.at_ (k := k + j) hkj
              have hzd := dig_no (HND.out z hzk)
              clear hzk
              subst hA
              have ecut : cutA (some ⟨b, off, none⟩) c (k + j) = some ⟨b, off + (k + j), none⟩ := by
                unfold cutA
                rw [if_neg (by omega)]
                simp only [Option.map_some, Addr.add]
                split
                · rename_i h0
                  rw [h0]
                  rfl
                · rfl
              simp only [ecut] at HF
              clear ecut
              rcases hzd with hzd | hzd
              case' inl =>
                have e1 : decide (48 ≤ z) = false := by simp; omega
              case' inr =>
                have e1 : decide (z ≤ 55) = false := by simp; omega
                have e2 : decide (48 ≤ z) = true := by simp; omega
            case' neg =>
              by_cases hck : c = k + j
              case' pos => simp only [show cutA A c (k + j) = A from if_pos hck] at HF
              case' neg => simp only [show cutA A c (k + j) = A.map (·.add (k + j)) from if_neg hck] at HF
            all_goals
              by_cases hvm : v ≤ 4611686018427387904
              case' pos =>
                have hdv : decide (v ≤ 4611686018427387904) = true := by simpa using hvm
                rw [hdv, Bool.and_true] at HFIN
                clear hdv
                cases hfil : (M.tail zs).all M.fil
                case' false =>
                  simp only [hfil] at HF HFIN
                  clear hfil
                  have HN := hid (M.octN_no HFIN.out)
                  go_wp2_with fail
                  (with_reducible refine (HF.out _).mono ?_)
                  rintro e w' ⟨rfl, rfl⟩
                  go_wp2
                case' true =>
                  simp only [hfil] at HF HFIN
                  clear hfil
                  have HN := hid (M.octN_yes HFIN.out)
                  rw [HV.out] at HN
                  go_wp2_with fail
                  (with_reducible refine (HF.out _).mono ?_)
                  rintro e w' ⟨rfl, rfl⟩
                  go_wp2
              case' neg =>
                have hdv : decide (v ≤ 4611686018427387904) = false := by simpa using hvm
                rw [hdv, Bool.and_false] at HFIN
                clear hdv
                have HN := hid (M.octN_no HFIN.out)
                go_wp2
              all_goals
                go_ret2
                exact ⟨ret2_eq (by rw [HN.out]) (by rw [HFIN.out]), rfl⟩
end Go.Proofs.YtjpflljmeaihgaaDoor.H
