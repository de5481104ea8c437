/-
  The contracts of Binary and Parse, the program's and the document's: of any bytes both answer the same number and the same bool.
-/
import Derived.Test.YtjpflljmeaihgaaDoorPNumOctal
namespace Go.Proofs.YtjpflljmeaihgaaDoor.H
open Go.RowKit Go.Lib
attribute [local go_sem ↓] slice_from

theorem first_of (z : Int) (h : 128 ≤ z) (h' : z ≤ 255) : wrap64 (IntKind.i8.wrap (z * 2 % 256) / 2) = M.first z := by
  obtain ⟨n, rfl⟩ := Int.eq_ofNat_of_zero_le (by omega : 0 ≤ z)
  have h1 : n < 256 := by omega
  have h2 : 128 ≤ n := by omega
  clear h h'
  have : ∀ m : Fin 256, 128 ≤ m.val → wrap64 (IntKind.i8.wrap ((m.val : Int) * 2 % 256) / 2) = M.first (m.val : Int) := by decide +kernel
  exact this ⟨n, h1⟩ h2
theorem first_lo (z : Int) (h : 128 ≤ z) (h' : z ≤ 255) : -64 ≤ M.first z := by unfold M.first; split <;> omega
theorem first_hi (z : Int) (h : 128 ≤ z) (h' : z ≤ 255) : M.first z ≤ 63 := by unfold M.first; split <;> omega

set_option maxHeartbeats 400000 in
theorem binary_any (A : Option Addr) (n c : Nat) (zs : List Int) (w : World) (B : Nat) (hr : Rd w B A n zs) (hn : n ≤ c) (hc : c ≤ maxLen) :
    Calls Tryd.prog 81 #[.slice A n c] w fun e w' => e = .returned (.tuple #[.int .i64 (M.binN zs), .bool (M.binOk zs)]) ∧ w = w' := by
  have hm : n ≤ maxLen := Nat.le_trans hn hc
  cases hmk : M.marked zs with
  | false =>
    have HM := hid (marked_no A n c zs w B hr hm hmk)
    have hno : M.binOk zs = false := by simp [M.binOk, hmk]
    have HO := hid hno
    have HN := hid (M.binN_no hno)
    clear hmk hno
    go_enter Tryd.func81, Tryd.ntmps81
    go_wp2_with fail
    (with_reducible refine HM.out.mono ?_)
    rintro e w' ⟨rfl, rfl⟩
    go_wp2
    go_ret2
    exact ⟨ret2_eq (by rw [HN.out]) (by rw [HO.out]), rfl⟩
  | true =>
    have HM := hid (marked_yes A n c zs w B hr hm hmk)
    match zs, hmk with
    | z :: l, hmk =>
    have hz : 128 ≤ z := by simpa [M.marked] using hmk
    clear hmk
    have h0 : 0 < n := by have := hr.len; simp at this; omega
    have hr1 := hr.cut (k := 1) (by omega) hn
    simp only [List.drop_succ_cons, List.drop_zero] at hr1
    have hlb := hr1.bd
    have hll := hr1.len
    obtain ⟨b, off, z', hA, hbB, hz0, hz1, hzk, hcz⟩ := hr.at_ h0
    obtain rfl : z = z' := by simpa using hzk
    clear hzk
    rw [Nat.add_zero] at hcz
    clear hr
    subst hA
    unfold maxLen at hm hc
    have h1 : (1 : Int) ≤ (n : Int) := by omega
    have HLB := hid hlb
    have HLL := hid hll
    clear hlb hll
    go_enter Tryd.func81, Tryd.ntmps81
    go_wp2_with fail
    (with_reducible refine HM.out.mono ?_)
    rintro e w' ⟨rfl, rfl⟩
    go_wp2
    rw [first_of z hz hz1]
    have hf0 := first_lo z hz hz1
    have hf1 := first_hi z hz hz1
    go_loop [4, 20] (fun v i => ∃ k : Nat, k ≤ n - 1 ∧ i = .int .i64 k ∧ v = .int .i64 (M.bits z (l.take k)) ∧ -M.most ≤ M.bits z (l.take k) ∧ M.bits z (l.take k) ≤ M.most + 255) (fun _ i => n - 1 - (intOf i).toNat)
    case atStart => exact ⟨0, Nat.zero_le _, rfl, rfl, by show _ ≤ M.first z; unfold M.most; omega, by show M.first z ≤ _; unfold M.most; omega⟩
    case round =>
      obtain ⟨k, hk, rfl, rfl, hv0, hv1⟩ := hrel
      by_cases hlt : k < n - 1
      · · obtain ⟨b', off', y, hA', hbB', hy0, hy1, hyk, hcy⟩ := hr1.at_ hlt
          have eA : cutA (some ⟨b, off, none⟩) c 1 = some ⟨b, off + 1, none⟩ := by
            unfold cutA
            rw [if_neg (by omega)]
            rfl
          rw [eA] at hA' ⊢
          injection hA' with hA'
          injection hA' with h1' h2'
          subst h1'
          subst h2'
          clear eA
          have HZ : Hid (M.bits z (l.take (k + 1)) = 256 * M.bits z (l.take k) + y) := hid (by rw [M.take_snoc' hyk, M.bits_snoc])
          clear hyk
          have HST := hid (fun h => M.bits_stop (z := z) (l := l) (k := k) (by have := HLL.out; omega) HLB.out h)
          generalize hval : M.bits z (l.take k) = v at *
          have HV := hid hval
          clear hval
          unfold M.most at hv0 hv1
          by_cases hst : 18014398509481984 < v
          · have hno : M.binOk (z :: l) = false := by
              unfold M.binOk
              rcases HST.out (.inl hst) with h | h
              · rw [show decide (M.binV (z :: l) ≤ M.most) = false by rw [decide_eq_false_iff_not]; show ¬ M.bits z l ≤ _; omega]; simp
              · rw [show decide (-M.most ≤ M.binV (z :: l)) = false by rw [decide_eq_false_iff_not]; show ¬ _ ≤ M.bits z l; omega]; simp
            have HO := hid hno
            have HN := hid (M.binN_no hno)
            clear hno
            go_wp2
            go_ret2
            exact ⟨ret2_eq (by rw [HN.out]) (by rw [HO.out]), rfl⟩
          · by_cases hst' : v < -18014398509481984
            · have hno : M.binOk (z :: l) = false := by
                unfold M.binOk
                rcases HST.out (.inr hst') with h | h
                · rw [show decide (M.binV (z :: l) ≤ M.most) = false by rw [decide_eq_false_iff_not]; show ¬ M.bits z l ≤ _; omega]; simp
                · rw [show decide (-M.most ≤ M.binV (z :: l)) = false by rw [decide_eq_false_iff_not]; show ¬ _ ≤ M.bits z l; omega]; simp
              have HO := hid hno
              have HN := hid (M.binN_no hno)
              clear hno
              go_wp2
              go_ret2
              exact ⟨ret2_eq (by rw [HN.out]) (by rw [HO.out]), rfl⟩
            · have e1 : decide (v < -18014398509481984) = false := by simpa using hst'
              go_wp2
              have he : bits .or .i64 (v * 256) y = 256 * v + y := by
                rw [Int.mul_comm]
                exact i64_or_256 v y (by omega) (by omega) (by omega) (by omega)
              go_round
              case rel => exact ⟨k + 1, by omega, by go_num, by rw [he, HZ.out], by rw [HZ.out]; unfold M.most; omega, by rw [HZ.out]; unfold M.most; omega⟩
              case measure => simp [intOf]; omega
      · have hall : l.take k = l := List.take_of_length_le (by have := HLL.out; omega)
        rw [hall] at hv0 hv1 ⊢
        clear hall
        have hbv : M.binV (z :: l) = M.bits z l := rfl
        have hmk : M.marked (z :: l) = true := by simpa [M.marked] using hz
        by_cases hend : M.most < M.bits z l
        · have hno : M.binOk (z :: l) = false := by
            unfold M.binOk
            rw [hbv, show decide (M.bits z l ≤ M.most) = false by rw [decide_eq_false_iff_not]; omega]
            simp
          have HO := hid hno
          have HN := hid (M.binN_no hno)
          clear hno hbv hmk
          generalize M.bits z l = v at *
          unfold M.most at hv0 hv1 hend
          go_wp2
          go_ret2
          exact ⟨ret2_eq (by rw [HN.out]) (by rw [HO.out]), rfl⟩
        · have hyes : M.binOk (z :: l) = true := by
            unfold M.binOk
            rw [hbv, hmk, show decide (M.bits z l ≤ M.most) = true by rw [decide_eq_true_eq]; omega, show decide (-M.most ≤ M.bits z l) = true by rw [decide_eq_true_eq]; omega]
            rfl
          have HO := hid hyes
          have HN := hid (M.binN_yes hyes)
          rw [hbv] at HN
          clear hyes hbv hmk
          generalize M.bits z l = v at *
          unfold M.most at hv0 hv1 hend
          go_wp2
          go_ret2
          exact ⟨ret2_eq (by rw [HN.out]) (by rw [HO.out]), rfl⟩

theorem firstRef_lo (z : Int) (h : 192 ≤ z) : z - 128 - 128 = M.first z := by unfold M.first; rw [if_neg (by omega)]; omega
theorem firstRef_hi (z : Int) (h : z < 192) : z - 128 = M.first z := by unfold M.first; rw [if_pos h]
theorem binOk_end (z : Int) (l : List Int) (hz : 128 ≤ z) : M.binOk (z :: l) = (decide (-4611686018427387904 ≤ M.bits z l) && decide (M.bits z l ≤ 4611686018427387904)) := by
  show (decide (128 ≤ z) && _) = _
  rw [show decide (128 ≤ z) = true by simpa using hz]
  rfl

set_option maxHeartbeats 800000 in
theorem binaryRef_any (A : Option Addr) (n c : Nat) (zs : List Int) (w : World) (B : Nat) (hr : Rd w B A n zs) (hn : n ≤ c) (hc : c ≤ maxLen) :
    Calls Tryd.prog 66 #[.slice A n c] w fun e w' => e = .returned (.tuple #[.int .i64 (M.binN zs), .bool (M.binOk zs)]) ∧ w = w' := by
  have hm : n ≤ maxLen := Nat.le_trans hn hc
  unfold maxLen at hm hc
  match zs with
  | [] =>
    obtain rfl : n = 0 := hr.len.symm
    clear hr
    go_enter Tryd.func66, Tryd.ntmps66
    go_wp2
    go_ret2
    exact ⟨ret2_eq rfl rfl, rfl⟩
  | z :: l =>
  have h0 : 0 < n := by have := hr.len; simp at this; omega
  have hlb := hr.bd
  have hll : l.length + 1 = n := by have := hr.len; simpa using this
  obtain ⟨b, off, z', hA, hbB, hz0, hz1, hzk, hcz⟩ := hr.at_ h0
  obtain rfl : z = z' := by simpa using hzk
  clear hzk
  rw [Nat.add_zero] at hcz
  subst hA
  have HLB : Hid (∀ c ∈ l, 0 ≤ c ∧ c ≤ 255) := hid fun c hc => hlb c (by simp [hc])
  have HLL := hid hll
  clear hlb hll
  have hn0 : ((n : Int) == 0) = false := by simp; omega
  by_cases hz : z < 128
  · have hno : M.binOk (z :: l) = false := by
      have : M.marked (z :: l) = false := by simp [M.marked]; omega
      simp [M.binOk, this]
    have HO := hid hno
    have HN := hid (M.binN_no hno)
    clear hno
    have hd : decide (z < 128) = true := by simpa using hz
    go_enter Tryd.func66, Tryd.ntmps66
    go_wp2
    go_ret2
    exact ⟨ret2_eq (by rw [HN.out]) (by rw [HO.out]), rfl⟩
  · have hd : decide (z < 128) = false := by simpa using hz
    have HOE := hid (binOk_end z l (by omega))
    have hf0 := first_lo z (by omega) hz1
    have hf1 := first_hi z (by omega) hz1
    by_cases h192 : z < 192
    case' pos =>
      have HF := hid (firstRef_hi z h192)
      have h64 : z - 128 < 64 := by omega
      clear h192
      go_enter Tryd.func66, Tryd.ntmps66
      go_wp2
      rw [HF.out]
    case' neg =>
      have HF := hid (firstRef_lo z (by omega))
      have h64 : 64 ≤ z - 128 := by omega
      clear h192
      go_enter Tryd.func66, Tryd.ntmps66
      go_wp2
      rw [HF.out]
    all_goals
      clear h64 hd
      go_loop [4, 5] (fun v i => ∃ k : Nat, k ≤ n - 1 ∧ i = .int .i64 ((k + 1 : Nat) : Int) ∧ v = .int .i64 (M.bits z (l.take k)) ∧ -M.most - 256 ≤ M.bits z (l.take k) ∧ M.bits z (l.take k) ≤ M.most + 255) (fun _ i => n - (intOf i).toNat)
      case atStart => exact ⟨0, Nat.zero_le _, rfl, rfl, by show _ ≤ M.first z; unfold M.most; omega, by show M.first z ≤ _; unfold M.most; omega⟩
      case round =>
        obtain ⟨k, hk, rfl, rfl, hv0, hv1⟩ := hrel
        by_cases hlt : k < n - 1
        · obtain ⟨b', off', y, hA', hbB', hy0, hy1, hyk, hcy⟩ := hr.at_ (k := k + 1) (by omega)
          injection hA' with hA'
          injection hA' with h1' h2'
          subst h1'
          subst h2'
          have hyk' : l[k]? = some y := by simpa using hyk
          have HZ : Hid (M.bits z (l.take (k + 1)) = 256 * M.bits z (l.take k) + y) := hid (by rw [M.take_snoc' hyk', M.bits_snoc])
          clear hyk hyk'
          have HST := hid (fun h => M.bits_stop (z := z) (l := l) (k := k) (by have := HLL.out; omega) HLB.out h)
          generalize hval : M.bits z (l.take k) = v at *
          have HV := hid hval
          clear hval
          unfold M.most at hv0 hv1
          by_cases hst : 18014398509481984 < v ∨ v < -18014398509481985
          · have hno : M.binOk (z :: l) = false := by
              rw [HOE.out]
              rcases HST.out (by omega) with h | h
              · unfold M.most at h
                rw [show decide (M.bits z l ≤ 4611686018427387904) = false by rw [decide_eq_false_iff_not]; omega]; simp
              · unfold M.most at h
                rw [show decide (-4611686018427387904 ≤ M.bits z l) = false by rw [decide_eq_false_iff_not]; omega]; simp
            have HO := hid hno
            have HN := hid (M.binN_no hno)
            clear hno
            rcases hst with hst | hst
            · go_wp2
              go_ret2
              exact ⟨ret2_eq (by rw [HN.out]) (by rw [HO.out]), rfl⟩
            · have hst' : ¬ 18014398509481984 < v := by omega
              have e1 : decide (v < -18014398509481985) = true := by simpa using hst
              go_wp2
              go_ret2
              exact ⟨ret2_eq (by rw [HN.out]) (by rw [HO.out]), rfl⟩
          · have hst' : ¬ 18014398509481984 < v := by omega
            have hst'' : -18014398509481985 ≤ v := by omega
            have e1 : decide (v < -18014398509481985) = false := by simpa using hst''
            clear hst
            go_wp2
            go_round
            case rel => exact ⟨k + 1, by omega, by go_num, by rw [HZ.out], by rw [HZ.out]; unfold M.most; omega, by rw [HZ.out]; unfold M.most; omega⟩
            case measure => simp [intOf]; omega
        · have hall : l.take k = l := List.take_of_length_le (by have := HLL.out; omega)
          rw [hall] at hv0 hv1 ⊢
          clear hall
          have hbv : M.binV (z :: l) = M.bits z l := rfl
          have HBV := hid hbv
          clear hbv
          generalize M.bits z l = v at *
          unfold M.most at hv0 hv1
          by_cases hend : 4611686018427387904 < v
          · have hno : M.binOk (z :: l) = false := by
              rw [HOE.out, show decide (v ≤ 4611686018427387904) = false by rw [decide_eq_false_iff_not]; omega]
              simp
            have HO := hid hno
            have HN := hid (M.binN_no hno)
            clear hno
            go_wp2
            go_ret2
            exact ⟨ret2_eq (by rw [HN.out]) (by rw [HO.out]), rfl⟩
          · by_cases hend' : v < -4611686018427387904
            · have hno : M.binOk (z :: l) = false := by
                rw [HOE.out, show decide (-4611686018427387904 ≤ v) = false by rw [decide_eq_false_iff_not]; omega]
                simp
              have HO := hid hno
              have HN := hid (M.binN_no hno)
              clear hno
              have e1 : decide (v < -4611686018427387904) = true := by simpa using hend'
              go_wp2
              go_ret2
              exact ⟨ret2_eq (by rw [HN.out]) (by rw [HO.out]), rfl⟩
            · have hyes : M.binOk (z :: l) = true := by
                rw [HOE.out, show decide (v ≤ 4611686018427387904) = true by rw [decide_eq_true_eq]; omega, show decide (-4611686018427387904 ≤ v) = true by rw [decide_eq_true_eq]; omega]
                rfl
              have HO := hid hyes
              have HN := hid (M.binN_yes hyes)
              rw [HBV.out] at HN
              clear hyes
              have e1 : decide (v < -4611686018427387904) = false := by simpa using hend'
              go_wp2
              go_ret2
              exact ⟨ret2_eq (by rw [HN.out]) (by rw [HO.out]), rfl⟩

/-! ### Parse -/
def parN (zs : List Int) : Int := if M.marked zs then M.binN zs else M.octN zs
def parOk (zs : List Int) : Bool := if M.marked zs then M.binOk zs else M.octOk zs

theorem parse_any (A : Option Addr) (n c : Nat) (zs : List Int) (w : World) (B : Nat) (hr : Rd w B A n zs) (hn : n ≤ c) (hc : c ≤ maxLen) :
    Calls Tryd.prog 64 #[.slice A n c] w fun e w' => e = .returned (.tuple #[.int .i64 (parN zs), .bool (parOk zs)]) ∧ w = w' := by
  have HB := hid (binary_any A n c zs w B hr hn hc)
  have HO := hid (octal_any A n c zs w B hr hn hc)
  cases hm : M.marked zs with
  | true =>
    have HM := hid (marked_yes A n c zs w B hr (Nat.le_trans hn hc) hm)
    have HN : Hid (parN zs = M.binN zs) := hid (by simp [parN, hm])
    have HK : Hid (parOk zs = M.binOk zs) := hid (by simp [parOk, hm])
    clear hm hr hn hc
    go_enter Tryd.func64, Tryd.ntmps64
    go_wp2_with fail
    (with_reducible refine HM.out.mono ?_)
    rintro e w' ⟨rfl, rfl⟩
    go_wp2_with fail
    (with_reducible refine HB.out.mono ?_)
    rintro e w' ⟨rfl, rfl⟩
    go_wp2
    go_ret2
    exact ⟨ret2_eq (by rw [HN.out]) (by rw [HK.out]), rfl⟩
  | false =>
    have HM := hid (marked_no A n c zs w B hr (Nat.le_trans hn hc) hm)
    have HN : Hid (parN zs = M.octN zs) := hid (by simp [parN, hm])
    have HK : Hid (parOk zs = M.octOk zs) := hid (by simp [parOk, hm])
    clear hm hr hn hc
    go_enter Tryd.func64, Tryd.ntmps64
    go_wp2_with fail
    (with_reducible refine HM.out.mono ?_)
    rintro e w' ⟨rfl, rfl⟩
    go_wp2_with fail
    (with_reducible refine HO.out.mono ?_)
    rintro e w' ⟨rfl, rfl⟩
    go_wp2
    go_ret2
    exact ⟨ret2_eq (by rw [HN.out]) (by rw [HK.out]), rfl⟩

theorem parseRef_any (A : Option Addr) (n c : Nat) (zs : List Int) (w : World) (B : Nat) (hr : Rd w B A n zs) (hn : n ≤ c) (hc : c ≤ maxLen) :
    Calls Tryd.prog 54 #[.slice A n c] w fun e w' => e = .returned (.tuple #[.int .i64 (parN zs), .bool (parOk zs)]) ∧ w = w' := by
  have HB := hid (binaryRef_any A n c zs w B hr hn hc)
  have HO := hid (octalRef_any A n c zs w B hr hn hc)
  unfold maxLen at hc
  match zs with
  | [] =>
    obtain rfl : n = 0 := hr.len.symm
    have HN : Hid (parN [] = M.octN []) := hid rfl
    have HK : Hid (parOk [] = M.octOk []) := hid rfl
    clear hr
    go_enter Tryd.func54, Tryd.ntmps54
    go_wp2_with fail
    (with_reducible refine HO.out.mono ?_)
    rintro e w' ⟨rfl, rfl⟩
    go_wp2
    go_ret2
    exact ⟨ret2_eq (by rw [HN.out]) (by rw [HK.out]), rfl⟩
  | z :: l =>
    have h0 : 0 < n := by have := hr.len; simp at this; omega
    obtain ⟨b, off, z', hA, hbB, hz0, hz1, hzk, hcz⟩ := hr.at_ h0
    obtain rfl : z = z' := by simpa using hzk
    clear hzk
    rw [Nat.add_zero] at hcz
    subst hA
    clear hr
    by_cases hz : 128 ≤ z
    · have hm : M.marked (z :: l) = true := by simpa [M.marked] using hz
      have HN : Hid (parN (z :: l) = M.binN (z :: l)) := hid (by simp [parN, hm])
      have HK : Hid (parOk (z :: l) = M.binOk (z :: l)) := hid (by simp [parOk, hm])
      clear hm
      have hd : decide (128 ≤ z) = true := by simpa using hz
      go_enter Tryd.func54, Tryd.ntmps54
      go_wp2_with fail
      (with_reducible refine HB.out.mono ?_)
      rintro e w' ⟨rfl, rfl⟩
      go_wp2
      go_ret2
      exact ⟨ret2_eq (by rw [HN.out]) (by rw [HK.out]), rfl⟩
    · have hm : M.marked (z :: l) = false := by simp [M.marked]; omega
      have HN : Hid (parN (z :: l) = M.octN (z :: l)) := hid (by simp [parN, hm])
      have HK : Hid (parOk (z :: l) = M.octOk (z :: l)) := hid (by simp [parOk, hm])
      clear hm
      have hd : decide (128 ≤ z) = false := by simpa using hz
      go_enter Tryd.func54, Tryd.ntmps54
      go_wp2_with fail
      (with_reducible refine HO.out.mono ?_)
      rintro e w' ⟨rfl, rfl⟩
      go_wp2
      go_ret2
      exact ⟨ret2_eq (by rw [HN.out]) (by rw [HK.out]), rfl⟩
end Go.Proofs.YtjpflljmeaihgaaDoor.H
