/-
  SparseWhole's walk.
-/
import Derived.Test.YtjpflljmeaihgaaDoorSpKnown
import Derived.Test.YtjpflljmeaihgaaDoorSpPack
namespace Go.Proofs.YtjpflljmeaihgaaDoor
open Go.RowKit Go.Lib

namespace M
theorem rowsAt_void (b : List Int) (h : ∀ z ∈ b, z = 0) (f a : Nat) : a = f → rowsAt b f a = [] := by
  induction f, a using rowsAt.induct (b := b) with
  | case1 f a h1 hb ih =>
    rintro rfl
    rw [rowsAt_blank h1 hb, ih rfl, rowEnd_none (Nat.le_refl _)]; rfl
  | case2 f a h1 hb ih =>
    exfalso
    apply hb
    unfold blank
    rw [List.all_eq_true]
    intro z hz
    simpa using h z (List.mem_of_mem_drop (List.mem_of_mem_take hz))
  | case3 f a h1 =>
    rintro rfl
    rw [rowsAt_end h1, rowEnd_none (by omega)]
theorem rows_void {b : List Int} (h : ∀ z ∈ b, z = 0) : rows b = [] := rowsAt_void b h 0 0 rfl
theorem rowsAt_full (b : List Int) (h : ∀ z ∈ b, z ≠ 0) (f a : Nat) : rowsAt b f a = rowEnd f b.length := by
  induction f, a using rowsAt.induct (b := b) with
  | case1 f a h1 hb ih =>
    exfalso
    unfold blank at hb
    rw [List.all_eq_true] at hb
    have hm : b[a] ∈ (b.drop a).take 512 := by
      rw [List.drop_eq_getElem_cons h1, show 512 = 511 + 1 from rfl, List.take_succ_cons]
      exact List.mem_cons_self
    exact h _ (List.getElem_mem h1) (by simpa using hb _ hm)
  | case2 f a h1 hb ih => rw [rowsAt_some h1 (by simpa using hb), ih]
  | case3 f a h1 => rw [rowsAt_end h1]
theorem rows_full {b : List Int} (h : ∀ z ∈ b, z ≠ 0) (hl : 0 < b.length) : rows b = [(0, (b.length : Int))] := by
  unfold rows
  rw [rowsAt_full b h, rowEnd_some hl]
  simp
theorem had_full (b : List Int) : had b [(0, (b.length : Int))] = b := by simp [had]
theorem fill_set {N k : Nat} (v : Int) (h : k < N) : (List.replicate k v ++ zeros (N - k)).set k v = List.replicate (k + 1) v ++ zeros (N - (k + 1)) := by
  rw [List.set_append_right _ _ (by simp)]
  unfold zeros
  obtain ⟨r, hr⟩ : ∃ r, N - k = r + 1 := ⟨N - k - 1, by omega⟩
  rw [hr, show N - (k + 1) = r by omega, List.length_replicate, Nat.sub_self, List.replicate_succ, List.set_cons_zero, List.replicate_succ', List.append_assoc]
  rfl
end M

set_option maxRecDepth 100000 in
set_option maxHeartbeats 2000000 in
theorem sparseWhole_any (a v : Int) (w : World) (ha : 0 ≤ a ∧ a ≤ 65535) (hv : 0 ≤ v ∧ v ≤ 255) (ht : EV w.heap.size w) :
    Calls Tryd.prog 3 #[.int .u16 a, .int .u8 v] w fun e w' => e = .returned (.bool true) ∧ Below w.heap.size w w' := by
  have HT := hid ht
  have HV := hid hv
  obtain ⟨N, hN⟩ : ∃ N : Nat, Int.tmod a 3000 = (N : Int) := ⟨(a % 3000).toNat, by rw [Int.tmod_eq_emod_of_nonneg ha.1]; omega⟩
  have hNb : N ≤ 3000 := by rw [Int.tmod_eq_emod_of_nonneg ha.1] at hN; omega
  have hmk := run_makeB N (by omega)
  clear ht ha hv
  go_enter Tryd.func3, Tryd.ntmps3
  go_wp2
  clear hmk hN
  have HB0 := hid (show Blk (w.alloc (.cells (bcells (M.zeros N)).toArray 5)) w.heap.size 5 (bcells (M.zeros N)) from Blk.new w _ _)
  have HW0 := hid (show Below w.heap.size w (w.alloc (.cells (bcells (M.zeros N)).toArray 5)) from (Below.refl _ _).alloc (Nat.le_refl _) _)
  generalize w.alloc _ = w0 at *
  go_loopw [6] (fun iv wr => ∃ k : Nat, iv = .int .i64 k ∧ k ≤ N ∧ Hid (Blk wr w.heap.size 5 (bcells (List.replicate k v ++ M.zeros (N - k)))) ∧ Hid (Below w.heap.size w wr)) (fun iv _ => N - (RowKit.intOf iv).toNat)
  case atStart => exact ⟨0, rfl, Nat.zero_le _, hid (by simpa using HB0.out), HW0⟩
  case round =>
    obtain ⟨k, rfl, hk, HK, HW⟩ := hrel
    by_cases hlt : k < N
    · have HK2 : Hid (Blk (wr.setCell ⟨w.heap.size, k, none⟩ (.int .u8 v)) w.heap.size 5 (bcells (List.replicate (k + 1) v ++ M.zeros (N - (k + 1))))) := hid (by
        have := HK.out.set k (.int .u8 v)
        rwa [bcells_set, M.fill_set v hlt] at this)
      have HW2 := hid (HW.out.setCell (p := ⟨w.heap.size, k, none⟩) (Nat.le_refl _) (.int .u8 v))
      have hcell : ∃ u, wr.cell? ⟨w.heap.size, k, none⟩ = some u := by
        have hl : k < (bcells (List.replicate k v ++ M.zeros (N - k))).length := by rw [bcells_len, List.length_append, M.zeros_len, List.length_replicate]; omega
        exact ⟨_, HK.out.cell (List.getElem?_eq_getElem hl)⟩
      obtain ⟨u, hu⟩ := hcell
      have hf := HK.out.frozen k
      have d1 : decide (k < N) = true := by rw [decide_eq_true_eq]; exact hlt
      obtain ⟨k1, hk1⟩ : ∃ k1, k1 = k + 1 := ⟨_, rfl⟩
      rw [← hk1] at HK2
      clear HK HW
      by_cases hk0 : k = 0
      case' pos =>
        subst hk0
      case' neg => have hkp : 0 < k := by omega
      all_goals
        go_wp2
        go_roundw
        case rel => exact ⟨k1, (by subst hk1; first | rfl | go_num), by omega, HK2, HW2⟩
        case measure => simp [RowKit.intOf]; omega
    · obtain rfl : k = N := by omega
      have hbk := HK.out
      rw [Nat.sub_self, show M.zeros 0 = [] from rfl, List.append_nil] at hbk
      have hzu : u8s (List.replicate k v) := by
        intro z hz
        rw [List.eq_of_mem_replicate hz]
        exact HV.out
      have hlen : (List.replicate k v).length = k := List.length_replicate
      have hrd := hbk.rd hzu
      rw [hlen] at hrd
      have HR := hid hrd
      have HP := hid (pack_any (some ⟨w.heap.size, 0, none⟩) k k (List.replicate k v) wr hrd (by omega) (Nat.le_refl _))
      have HW1 := hid HW.out
      have HLE := hid hlen
      have d1 : decide (k < k) = false := by simp
      clear HK HW hbk hrd hlt hlen hzu
      go_wp2_with fail
      (with_reducible refine HP.out.mono ?_)
      rintro e w2 ⟨lv, dv, rfl, hol, hod, hb2⟩
      have HB2 := hid (HW1.out.trans (hb2.mono HW1.out.size))
      have HR2 := hid ((HR.out.below hb2).more hb2.size)
      have HKN := hid (known_any w.heap.size w2 HB2.out.size (HT.out.on HB2.out))
      clear HP hb2 HR
      by_cases hz : v = 0 ∨ k = 0
      · have e1 : M.rows (List.replicate k v) = [] := M.rows_void (by
          intro z hz2
          rcases hz with h | h
          · rw [List.eq_of_mem_replicate hz2]; exact h
          · subst h; cases hz2)
        rw [e1] at hol hod
        obtain ⟨Al, cl, rfl, _, _⟩ := hol.rd
        obtain ⟨Ad, cd, rfl, _, _⟩ := own_room hod
        clear hol hod
        by_cases hv0 : v = 0
        case' pos => have d2 : (v == 0) = true := by simpa using hv0
        case' neg =>
          have d2 : (v == 0) = false := by simpa using hv0
          have d3 : ((k : Int) == 0) = true := by simp; omega
        all_goals
          clear hz
          go_wp2_with (go_at_call 10; (with_reducible refine HKN.out.mono ?_); rintro e w3 ⟨rfl, hb3⟩)
          go_ret
          exact ⟨rfl, HB2.out.trans (hb3.mono HB2.out.size)⟩
      · have hv0 : v ≠ 0 := fun h => hz (.inl h)
        have hk0 : k ≠ 0 := fun h => hz (.inr h)
        have e1 : M.rows (List.replicate k v) = [(0, (k : Int))] := by
          have := M.rows_full (b := List.replicate k v) (by intro z hz2; rw [List.eq_of_mem_replicate hz2]; exact hv0) (by rw [HLE.out]; omega)
          rwa [HLE.out] at this
        have e2 : M.had (List.replicate k v) [(0, (k : Int))] = List.replicate k v := by
          have := M.had_full (List.replicate k v)
          rwa [HLE.out] at this
        rw [e1] at hol hod
        rw [e2] at hod
        obtain ⟨Al, cl, rfl, hrl, _⟩ := hol.rd
        have hzu : u8s (List.replicate k v) := by
          intro z hz
          rw [List.eq_of_mem_replicate hz]
          exact HV.out
        obtain ⟨Ad, cd, rfl, hrd, _⟩ := hod.rd hzu
        rw [HLE.out] at hrd ⊢
        have HRL := hid hrl
        have HRD := hid hrd
        have d2 : (v == 0) = false := by simpa using hv0
        have d3 : ((k : Int) == 0) = false := by simp; omega
        clear hz hol hod hrl hrd hv0 hk0 hzu e1 e2
        go_wp2_with fail
        (with_reducible refine HKN.out.mono ?_)
        rintro e w3 ⟨rfl, hb3⟩
        have HB3 := hid (HB2.out.trans (hb3.mono HB2.out.size))
        have cv1 := run_str (n := k) ((HRD.out.below hb3).more hb3.size) cd
        have cv2 := run_str (n := k) ((HR2.out.below hb3).more hb3.size) k
        obtain ⟨b, off, p, rfl, _, hp, k1, k2⟩ := (HRL.out.below hb3).at_ (k := 0) (Nat.zero_lt_one)
        simp at hp
        subst hp
        simp only [Nat.zero_mul, Nat.add_zero] at k1 k2
        clear hb3 HRL HRD HR2
        generalize strOf (List.replicate k v) = S at *
        go_wp2
        go_ret
        exact ⟨rfl, HB3.out⟩
end Go.Proofs.YtjpflljmeaihgaaDoor
