/-
  Texts of one chapter, merged.
-/
import Derived.Test.YtkpnhggpcpjddaaGreatDoorHMr
import Derived.Laws.MakeOwn
import Derived.Deep.OwnRows
set_option linter.unusedVariables false
set_option linter.unusedSimpArgs false
/-! The contracts of PutOctal, PutBinary and Put, the program's and the document's: both answer the same bytes, or none, and the same bool. -/
namespace Go.Proofs.YtkpnhggpcpjddaaGreatDoor
open Go.RowKit Go.Lib
attribute [local go_sem ↓] slice_from

theorem u8_info : (Tryz.prog.info? 5).map (fun i => (i.zero, i.size, i.bytes)) = some (some (.int .u8 0), 1, 1) := by kernel_rfl

/-- Block b is a row of N bytes, cell j holding g j. -/
def RowB (w : World) (b N : Nat) (g : Nat → Int) : Prop := w.rowIs b 5 N (fun j => .int .u8 (g j))
section
variable {w w' : World} {b N : Nat} {g h : Nat → Int}
theorem RowB.cell (r : RowB w b N g) {i : Nat} (hi : i < N) : w.cell? ⟨b, i, none⟩ = some (.int .u8 (g i)) := World.rowIs.cell r hi
theorem RowB.frozen (r : RowB w b N g) (i : Nat) : w.frozen? ⟨b, i, none⟩ = false := World.rowIs.frozen r i
theorem RowB.lt (r : RowB w b N g) : b < w.heap.size := World.rowIs.lt r
theorem RowB.to (r : RowB w b N g) (e : ∀ i, i < N → g i = h i) : RowB w b N h := World.rowIs.congr r fun i hi => by rw [e i hi]
theorem RowB.set (r : RowB w b N g) (i : Nat) (v : Int) : RowB (w.setCell ⟨b, i, none⟩ (.int .u8 v)) b N (fun j => if j = i then v else g j) :=
  (World.rowIs.set r i (.int .u8 v)).congr fun j _ => by
    show (if j = i then _ else _) = Value.int .u8 (if j = i then v else g j)
    split <;> rfl
theorem RowB.made (w : World) (N : Nat) : RowB (w.alloc (.cells (madeCells #[.int .u8 0] N) 5)) w.heap.size N (fun _ => 0) := World.rowIs_made w _ N _
theorem RowB.rd (r : RowB w b N g) (hb : ∀ j, 0 ≤ g j ∧ g j ≤ 255) : Rd w w.heap.size (some ⟨b, 0, none⟩) N (M.listOf g N) := by
  refine ⟨M.listOf_len g N, ?_, fun _ => ⟨b, 0, rfl, r.lt, fun j z hz => ?_⟩⟩
  · intro z hz
    obtain ⟨j, hj, rfl⟩ := List.getElem_of_mem hz
    obtain ⟨_, e⟩ := M.listOf_at (List.getElem?_eq_getElem hj)
    rw [← e]
    exact hb j
  · obtain ⟨hj, rfl⟩ := M.listOf_at hz
    rw [Nat.zero_add]
    exact r.cell hj
end

/-- A put's answer: bytes zs in memory of its own, or nil, and whether there are some. -/
def PutPost (w : World) (ok : Bool) (zs : List Int) (e : Ending) (w' : World) : Prop :=
  ∃ A N, e = .returned (.tuple #[.slice A N N, .bool ok]) ∧ Rd w' w'.heap.size A N zs ∧ Below w.heap.size w w'
theorem PutPost.none_ {w w' : World} (h : Below w.heap.size w w') : PutPost w false [] (.returned (.tuple #[.slice none 0 0, .bool false])) w' :=
  ⟨none, 0, rfl, Rd.none_, h⟩

theorem and7 (v : Int) (h0 : 0 ≤ v) (h1 : v ≤ 4611686018427387904) : bits .and .i64 v 7 = v % 8 := by
  obtain ⟨v, rfl⟩ := Int.eq_ofNat_of_zero_le h0
  have hx : v &&& 7 = v % 8 := Nat.and_two_pow_sub_one_eq_mod v 3
  show IntKind.i64.wrap ((BitVec.ofInt 64 (v : Int) &&& BitVec.ofInt 64 7).toNat : Int) = _
  rw [BitVec.toNat_and, ofInt_i64 v (by omega), show (BitVec.ofInt 64 7).toNat = 7 from rfl, hx, IntKind.wrap_i64]
  omega

theorem octFits_no {n wide : Int} (h : ¬ (2 ≤ wide ∧ wide ≤ 32 ∧ 0 ≤ n ∧ n ≤ 4611686018427387904)) : M.octFits n wide = false := by
  unfold M.octFits M.most
  by_cases h1 : 2 ≤ wide
  · by_cases h2 : wide ≤ 32
    · by_cases h3 : 0 ≤ n
      · have h4 : ¬ n ≤ 4611686018427387904 := fun h4 => h ⟨h1, h2, h3, h4⟩
        simp [h4]
      · simp [h3]
    · simp [h2]
  · simp [h1]
theorem octR_no {n wide : Int} (h : M.octFits n wide = false) : M.octR n wide = [] := by unfold M.octR; rw [h]; rfl
theorem binFits_no {n wide : Int} (h : ¬ (2 ≤ wide ∧ wide ≤ 32)) : M.binFits n wide = false := by
  unfold M.binFits
  by_cases h1 : 2 ≤ wide
  · have h2 : ¬ wide ≤ 32 := fun h2 => h ⟨h1, h2⟩
    simp [h2]
  · simp [h1]
theorem binR_no {n wide : Int} (h : M.binFits n wide = false) : M.binR n wide = [] := by unfold M.binR; rw [h]; rfl

set_option maxHeartbeats 800000 in
theorem putOctalRef_go (n : Int) (N : Nat) (w : World) (h1 : 2 ≤ N) (h2 : N ≤ 32) (h3 : 0 ≤ n) (h4 : n ≤ 4611686018427387904) :
    Calls Tryz.prog 38 #[.int .i64 n, .int .i64 N] w (PutPost w (M.octFits n N) (M.octR n N)) := by
  have e1 : decide (n < 0) = false := by simpa using h3
  have e2 : decide (4611686018427387904 < n) = false := by simpa using h4
  have e3 : decide ((N : Int) < 2) = false := by rw [decide_eq_false_iff_not]; omega
  have e4 : decide (32 < (N : Int)) = false := by rw [decide_eq_false_iff_not]; omega
  have hmk := run_make_row' (P := Tryz.prog) 22 5 (.int .u8 0) 1 Tryz.underlying22 u8_info rfl .i64 .i64 N (by omega) (by omega)
  go_enter Tryz.func38, Tryz.ntmps38
  go_wp2
  clear hmk e1 e2 e3 e4
  go_loopw [0, 7] (fun v i wr => ∃ k : Nat, k ≤ N - 1 ∧ i = .int .i64 ((N : Int) - 2 - k) ∧ v = .int .i64 (n / 8 ^ k) ∧ RowB wr w.heap.size N (M.octC n N k) ∧ Below w.heap.size w wr) (fun _ i _ => (intOf i + 1).toNat)
  case atStart => exact ⟨0, Nat.zero_le _, by go_num, by simp, (RowB.made w N).to fun i _ => (M.octC_zero n N i).symm, (Below.refl _ _).alloc (Nat.le_refl _) _⟩
  case round =>
    obtain ⟨k, hk, rfl, rfl, hrow, hbel⟩ := hrel
    have hv0 := M.shr8_nonneg h3 k
    have hv1 := M.shr8_le h3 k
    by_cases hlt : k < N - 1
    · have hc := hrow.cell (i := N - 2 - k) (by omega)
      have hf := hrow.frozen (N - 2 - k)
      have HS := hid (M.shr8_succ n k)
      generalize hval : n / 8 ^ k = v at *
      have HV := hid hval
      clear hval
      have hge : (0 : Int) ≤ (N : Int) - 2 - k := by omega
      have hto : ((N : Int) - 2 - k).toNat = N - 2 - k := by omega
      go_wp2
      have he : (48 + v % 8) % 256 = 48 + v % 8 := by omega
      go_roundw
      case rel =>
        refine ⟨k + 1, by omega, by go_num, by rw [HS.out], (hrow.set _ _).to fun j _ => ?_, hbel.setCell (Nat.le_refl _) _⟩
        rw [← HV.out]
        exact M.octC_succ n N k j hlt
      case measure => simp [intOf]; omega
    · obtain rfl : k = N - 1 := by omega
      have hrow' : RowB wr w.heap.size N (M.octG n N) := hrow.to fun j _ => M.octC_end n N j
      clear hrow hlt hk
      have hfits : M.octFits n N = decide (n / 8 ^ (N - 1) = 0) := by
        unfold M.octFits M.most
        rw [show decide ((2 : Int) ≤ N) = true by simp; omega, show decide ((N : Int) ≤ 32) = true by simp; omega, show decide (0 ≤ n) = true by simpa using h3,
          show decide (n ≤ 4611686018427387904) = true by simpa using h4, Int.toNat_natCast]
        rfl
      have hneg : (N : Int) - 2 - ((N - 1 : Nat) : Int) < 0 := by omega
      by_cases hz : n / 8 ^ (N - 1) = 0
      · have hf : M.octFits n N = true := by rw [hfits, hz]; rfl
        have hR : M.octR n N = M.oct n N := by unfold M.octR; rw [hf, Int.toNat_natCast]; rfl
        have HF := hid hf
        have HR := hid hR
        clear hf hR hfits
        rw [hz]
        clear hz hv0 hv1
        go_wp2
        go_ret2
        rw [HF.out, HR.out]
        exact ⟨_, N, rfl, hrow'.rd (M.octG_bd n N), hbel⟩
      · have hf : M.octFits n N = false := by rw [hfits]; simpa using hz
        have hR : M.octR n N = [] := by unfold M.octR; rw [hf]; rfl
        have HF := hid hf
        have HR := hid hR
        clear hf hR hfits
        generalize n / 8 ^ (N - 1) = v at *
        have hz' : 0 < v := by omega
        go_wp2
        go_ret2
        rw [HF.out, HR.out]
        exact PutPost.none_ hbel
end Go.Proofs.YtkpnhggpcpjddaaGreatDoor

/-! The contracts of PutBinary and Put, the program's and the document's: both answer the same bytes, or none, and the same bool. -/
namespace Go.Proofs.YtkpnhggpcpjddaaGreatDoor
open Go.RowKit Go.Lib
attribute [local go_sem ↓] slice_from

set_option maxHeartbeats 400000 in
theorem putOctalRef_any (n wide : Int) (w : World) :
    Calls Tryz.prog 38 #[.int .i64 n, .int .i64 wide] w (PutPost w (M.octFits n wide) (M.octR n wide)) := by
  by_cases h : 2 ≤ wide ∧ wide ≤ 32 ∧ 0 ≤ n ∧ n ≤ 4611686018427387904
  · obtain ⟨h1, h2, h3, h4⟩ := h
    obtain ⟨N, rfl⟩ := Int.eq_ofNat_of_zero_le (by omega : 0 ≤ wide)
    exact putOctalRef_go n N w (by omega) (by omega) h3 h4
  · rw [octR_no (octFits_no h), octFits_no h]
    by_cases h1 : wide < 2
    · have e1 : decide (wide < 2) = true := by simpa using h1
      clear h h1
      go_enter Tryz.func38, Tryz.ntmps38
      go_wp2
      go_ret2
      exact PutPost.none_ (Below.refl _ _)
    · have e1 : decide (wide < 2) = false := by simpa using h1
      by_cases h2 : 32 < wide
      · have e2 : decide (32 < wide) = true := by simpa using h2
        clear h h1 h2
        go_enter Tryz.func38, Tryz.ntmps38
        go_wp2
        go_ret2
        exact PutPost.none_ (Below.refl _ _)
      · have e2 : decide (32 < wide) = false := by simpa using h2
        by_cases h3 : n < 0
        · have e3 : decide (n < 0) = true := by simpa using h3
          clear h h1 h2 h3
          go_enter Tryz.func38, Tryz.ntmps38
          go_wp2
          go_ret2
          exact PutPost.none_ (Below.refl _ _)
        · have e3 : decide (n < 0) = false := by simpa using h3
          have e4 : decide (4611686018427387904 < n) = true := by rw [decide_eq_true_eq]; omega
          clear h h1 h2 h3
          go_enter Tryz.func38, Tryz.ntmps38
          go_wp2
          go_ret2
          exact PutPost.none_ (Below.refl _ _)

theorem or128 (x : Int) (h0 : 0 ≤ x) (h1 : x ≤ 255) : bits .or .u8 x 128 = x % 128 + 128 := by
  obtain ⟨n, rfl⟩ := Int.eq_ofNat_of_zero_le h0
  have h2 : n < 256 := by omega
  clear h0 h1
  have : ∀ m : Fin 256, bits .or .u8 (m.val : Int) 128 = (m.val : Int) % 128 + 128 := by decide +kernel
  exact this ⟨n, h2⟩

theorem binFits_eq (n : Int) (N : Nat) (h1 : 2 ≤ N) (h2 : N ≤ 32) : M.binFits n N = (M.binOk (M.bin n N) && (M.binN (M.bin n N) == n)) := by
  unfold M.binFits
  rw [show decide ((2 : Int) ≤ N) = true by simp; omega, show decide ((N : Int) ≤ 32) = true by simp; omega, Int.toNat_natCast]
  rfl

theorem tmod_neg (v : Int) (h : v.tmod 256 < 0) : v.tmod 256 + 256 = v % 256 := by
  rw [Int.tmod_eq_emod] at h ⊢
  split at h <;> rename_i h' <;> simp only [h', if_true, if_false] at h ⊢ <;> omega
theorem tmod_pos (v : Int) (h : ¬ v.tmod 256 < 0) : v.tmod 256 = v % 256 := by
  rw [Int.tmod_eq_emod] at h ⊢
  split at h <;> rename_i h' <;> simp only [h', if_true, if_false] at h ⊢ <;> omega
theorem tdiv_whole (v : Int) : (v - v % 256).tdiv 256 = v / 256 := by
  have e : v - v % 256 = 256 * (v / 256) := by omega
  rw [e, Int.mul_tdiv_cancel_left _ (by decide)]

set_option maxHeartbeats 400000 in
theorem putBinaryRef_go (n : Int) (N : Nat) (w : World) (h1 : 2 ≤ N) (h2 : N ≤ 32) (hn : -9223372036854775808 ≤ n ∧ n ≤ 9223372036854775807) :
    Calls Tryz.prog 82 #[.int .i64 n, .int .i64 N] w (PutPost w (M.binFits n N) (M.binR n N)) := by
  have e3 : decide ((N : Int) < 2) = false := by rw [decide_eq_false_iff_not]; omega
  have e4 : decide (32 < (N : Int)) = false := by rw [decide_eq_false_iff_not]; omega
  have hmk := run_make_row' (P := Tryz.prog) 22 5 (.int .u8 0) 1 Tryz.underlying22 u8_info rfl .i64 .i64 N (by omega) (by omega)
  go_enter Tryz.func82, Tryz.ntmps82
  go_wp2
  clear hmk e3 e4
  go_loopw [7, 8] (fun v i wr => ∃ k : Nat, k ≤ N ∧ i = .int .i64 ((N : Int) - 1 - k) ∧ v = .int .i64 (n / 256 ^ k) ∧ RowB wr w.heap.size N (M.binC n N k) ∧ Below w.heap.size w wr) (fun _ i _ => (intOf i + 1).toNat)
  case atStart => exact ⟨0, Nat.zero_le _, by go_num, by simp, (RowB.made w N).to fun i _ => (M.binC_zero n N i).symm, (Below.refl _ _).alloc (Nat.le_refl _) _⟩
  case round =>
    obtain ⟨k, hk, rfl, rfl, hrow, hbel⟩ := hrel
    obtain ⟨hv0, hv1⟩ := M.shr256_bd hn k
    by_cases hlt : k < N
    · have hc := hrow.cell (i := N - 1 - k) (by omega)
      have hf := hrow.frozen (N - 1 - k)
      have HS := hid (M.shr256_succ n k)
      generalize hval : n / 256 ^ k = v at *
      have HV := hid hval
      clear hval
      have hge : (0 : Int) ≤ (N : Int) - 1 - k := by omega
      have hto : ((N : Int) - 1 - k).toNat = N - 1 - k := by omega
      have HT := hid (tdiv_whole v)
      have hm0 : 0 ≤ v % 256 := by omega
      have hm1 : v % 256 ≤ 255 := by omega
      have hs0 : -9223372036854775808 ≤ v - v % 256 := by omega
      have hs1 : v - v % 256 ≤ 9223372036854775807 := by omega
      have hw1 : wrap64 (v % 256) = v % 256 := IntWalk.wrap64_in _ ⟨by omega, by omega⟩
      have hw2 : wrap64 (v - v % 256) = v - v % 256 := IntWalk.wrap64_in _ ⟨by omega, by omega⟩
      have hw3 : wrap64 (v / 256) = v / 256 := IntWalk.wrap64_in _ ⟨by omega, by omega⟩
      have HW1 := hid hw1
      have HW2 := hid hw2
      have HW3 := hid hw3
      clear hw1 hw2 hw3
      by_cases hneg : v.tmod 256 < 0
      case' pos =>
        have HM := hid (tmod_neg v hneg)
        go_wp2
        rw [HM.out, HW1.out, HW2.out, HT.out, HW3.out]
      case' neg =>
        have HM := hid (tmod_pos v hneg)
        go_wp2
        rw [HM.out, HW2.out, HT.out, HW3.out]
      all_goals
        have he : v % 256 % 256 = v % 256 := by omega
        rw [he]
        go_roundw
        case rel =>
          refine ⟨k + 1, by omega, by go_num, by rw [HS.out], (hrow.set _ _).to fun j _ => ?_, hbel.setCell (Nat.le_refl _) _⟩
          rw [← HV.out]
          exact M.binC_succ n N k j hlt
        case measure => simp [intOf]; omega
    · obtain rfl : k = N := by omega
      clear hlt hk
      have hc := hrow.cell (i := 0) (by omega)
      have hf := hrow.frozen 0
      rw [M.binC_first n k (by omega)] at hc
      have hx0 : 0 ≤ n / 256 ^ (k - 1) % 256 := by omega
      have hx1 : n / 256 ^ (k - 1) % 256 ≤ 255 := by omega
      have HE := hid (M.binC_end n k)
      have HFE := hid (binFits_eq n k h1 h2)
      have HRE : Hid (M.binR n k = if M.binFits n k then M.bin n k else []) := hid (by unfold M.binR; rw [Int.toNat_natCast])
      generalize n / 256 ^ (k - 1) % 256 = x at *
      generalize n / 256 ^ k = v at *
      have hk0 : (0 : Int) < k := by omega
      have hneg : (k : Int) - 1 - k < 0 := by omega
      go_wp2_with fail
      have hx2 : (x % 128 + 128) % 256 = x % 128 + 128 := by omega
      try rw [hx2]
      have hrow2 : RowB (wr.setCell ⟨w.heap.size, 0, none⟩ (.int .u8 (x % 128 + 128))) w.heap.size k (M.binG n k) := (hrow.set 0 _).to fun j hj => HE.out j hj
      have hbel2 : Below w.heap.size w (wr.setCell ⟨w.heap.size, 0, none⟩ (.int .u8 (x % 128 + 128))) := hbel.setCell (Nat.le_refl _) _
      generalize wr.setCell ⟨w.heap.size, 0, none⟩ (.int .u8 (x % 128 + 128)) = w2 at *
      have HB := binaryRef_any _ k k _ w2 _ (hrow2.rd (M.binG_bd n k)) (Nat.le_refl _) (by unfold maxLen; omega)
      rw [show M.listOf (M.binG n k) k = M.bin n k from rfl] at HB
      refine HB.mono ?_
      rintro e w' ⟨rfl, rfl⟩
      clear HB hrow hbel hc hf HE hx0 hx1 hx2
      cases hok : M.binOk (M.bin n k) with
      | false =>
        have hf : M.binFits n k = false := by rw [HFE.out, hok]; rfl
        have hr : M.binR n k = [] := by rw [HRE.out, hf]; rfl
        have HF := hid hf
        have HR := hid hr
        clear hok hf hr
        go_wp2
        go_ret2
        rw [HF.out, HR.out]
        exact PutPost.none_ hbel2
      | true =>
        by_cases heq : M.binN (M.bin n k) = n
        · have hf : M.binFits n k = true := by rw [HFE.out, hok, heq]; simp
          have hr : M.binR n k = M.bin n k := by rw [HRE.out, hf]; rfl
          have HF := hid hf
          have HR := hid hr
          clear hok hf hr
          rw [heq]
          clear heq
          have hne : (n != n) = false := by simp
          go_wp2
          go_ret2
          rw [HF.out, HR.out]
          exact ⟨_, k, rfl, hrow2.rd (M.binG_bd n k), hbel2⟩
        · have hf : M.binFits n k = false := by rw [HFE.out, hok]; simpa using heq
          have hr : M.binR n k = [] := by rw [HRE.out, hf]; rfl
          have HF := hid hf
          have HR := hid hr
          clear hok hf hr
          have hne : (M.binN (M.bin n k) != n) = true := by simpa using heq
          generalize M.binN (M.bin n k) = y at *
          go_wp2
          go_ret2
          rw [HF.out, HR.out]
          exact PutPost.none_ hbel2

theorem putBinaryRef_any (n wide : Int) (w : World) (hn : -9223372036854775808 ≤ n ∧ n ≤ 9223372036854775807) :
    Calls Tryz.prog 82 #[.int .i64 n, .int .i64 wide] w (PutPost w (M.binFits n wide) (M.binR n wide)) := by
  by_cases h : 2 ≤ wide ∧ wide ≤ 32
  · obtain ⟨h1, h2⟩ := h
    obtain ⟨N, rfl⟩ := Int.eq_ofNat_of_zero_le (by omega : 0 ≤ wide)
    exact putBinaryRef_go n N w (by omega) (by omega) hn
  · rw [binR_no (binFits_no h), binFits_no h]
    by_cases h1 : wide < 2
    · have e1 : decide (wide < 2) = true := by simpa using h1
      clear h h1
      go_enter Tryz.func82, Tryz.ntmps82
      go_wp2
      go_ret2
      exact PutPost.none_ (Below.refl _ _)
    · have e1 : decide (wide < 2) = false := by simpa using h1
      have e2 : decide (32 < wide) = true := by rw [decide_eq_true_eq]; omega
      clear h h1
      go_enter Tryz.func82, Tryz.ntmps82
      go_wp2
      go_ret2
      exact PutPost.none_ (Below.refl _ _)

/-! ### Put -/
theorem PutPost.past {w w1 w2 : World} {ok : Bool} {zs : List Int} {e : Ending} (h1 : Below w.heap.size w w1) (h : PutPost w1 ok zs e w2) : PutPost w ok zs e w2 := by
  obtain ⟨A, N, he, hr, hb⟩ := h
  exact ⟨A, N, he, hr, h1.trans (hb.mono h1.size)⟩

set_option maxHeartbeats 400000 in
theorem putRef_any (n wide : Int) (w : World) (hn : -9223372036854775808 ≤ n ∧ n ≤ 9223372036854775807) :
    Calls Tryz.prog 66 #[.int .i64 n, .int .i64 wide] w (PutPost w (M.putFits n wide) (M.putR n wide)) := by
  have HO := hid (putOctalRef_any n wide w)
  have HB := hid (fun W => putBinaryRef_any n wide W hn)
  cases hf : M.octFits n wide with
  | true =>
    have hF : M.putFits n wide = true := by unfold M.putFits; rw [hf]; rfl
    have hR : M.putR n wide = M.octR n wide := by simp [M.putR, M.octR, hf]
    rw [hF, hR]
    rw [hf] at HO
    clear hf hF hR
    go_enter Tryz.func66, Tryz.ntmps66
    go_wp2_with fail
    (with_reducible refine HO.out.mono ?_)
    rintro e w' ⟨A, N, rfl, hr, hb⟩
    go_wp2
    go_ret2
    exact ⟨A, N, rfl, hr, hb⟩
  | false =>
    have hF : M.putFits n wide = M.binFits n wide := by unfold M.putFits; rw [hf]; rfl
    have hR : M.putR n wide = M.binR n wide := by unfold M.putR; rw [hf]; rfl
    rw [hF, hR]
    rw [hf] at HO
    clear hf hF hR
    go_enter Tryz.func66, Tryz.ntmps66
    go_wp2_with fail
    (with_reducible refine HO.out.mono ?_)
    rintro e w' ⟨A, N, rfl, hr, hb⟩
    go_wp2_with fail
    (with_reducible refine (HB.out _).mono ?_)
    rintro e w2 ⟨A2, N2, rfl, hr2, hb2⟩
    go_wp2
    go_ret2
    exact PutPost.past hb ⟨A2, N2, rfl, hr2, hb2⟩
end Go.Proofs.YtkpnhggpcpjddaaGreatDoor
