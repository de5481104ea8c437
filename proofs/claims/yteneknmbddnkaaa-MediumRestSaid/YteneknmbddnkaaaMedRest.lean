/-
  MediumRest's walk.
-/
import Derived.Test.YteneknmbddnkaaaMedLaw
import Derived.Test.YteneknmbddnkaaaMedNew
import Derived.Test.YteneknmbddnkaaaMedGather
import Derived.Test.YteneknmbddnkaaaSumStep
namespace Go.Proofs.Yteneknmbddnkaaa
open Go.RowKit Go.Lib

theorem bads_nil (n : Nat) : M.bads n [] = [] := by
  refine M.rise_ext (M.bads_rise n []) (by simp) (fun x => ?_)
  rw [M.mem_bads]
  simp
theorem cutN_all (n : Nat) : M.cutN n (-1) = n := by unfold M.cutN; rw [if_neg (by omega)]

/-- Behind some pieces. -/
def RestAt (w2 : World) (g : Nat) (bz ss : List Int) (a : Value) (wr : World) : Prop :=
  ∃ p t, Med wr g bz [] ss p t ∧ OwnY wr w2.heap.size a (bz.take p) ∧ w2.grownBy wr (some g)

set_option maxRecDepth 100000 in
set_option maxHeartbeats 4000000 in
theorem mediumRest_nat (A : Option Addr) (n c : Nat) (zs : List Int) (m : Nat) (A' : Option Addr) (n' c' : Nat) (ss : List Int) (kk : Nat) (w : World) (hr : Rd w w.heap.size A n zs) (hn : n ≤ maxLen) (hm : m ≤ 65535) (hi : RdI w w.heap.size A' n' ss) (hn' : n' ≤ maxLen) (hk : kk ≤ 255) :
    Calls Try.prog 4 #[.slice A n c, .int .u16 m, .slice A' n' c', .int .u8 kk] w fun e w' => e = .returned (.bool true) ∧ Below w.heap.size w w' := by
  by_cases h6 : 20 < n'
  · have e1 : decide ((20 : Int) < n') = true := by rw [decide_eq_true_eq]; omega
    unfold maxLen at hn'
    clear hr hi
    go_enter Try.func4, Try.ntmps4
    go_wp2_with fail
    refine (known_any _).mono ?_
    rintro e w1 ⟨rfl, b1⟩
    go_wp2
    go_ret
    exact ⟨rfl, b1⟩
  have e1 : decide ((20 : Int) < n') = false := by rw [decide_eq_false_iff_not]; omega
  have hN1 : m % 3000 ≤ 2999 := by omega
  have HBY := hid (fun (W : World) (hb : Below w.heap.size w W) => bytes_any A n c zs m W w.heap.size (hr.keep (w' := W) fun p hp => hb.cell hp) hb.size hm hn)
  have HI := hid (fun W (hb : Below w.heap.size w W) => hi.keep (w' := W) fun p hp => hb.cell hp)
  have HBL := hid (M.bytes_len zs (m % 3000))
  have HBU : Hid (u8s (M.bytes zs (m % 3000))) := hid (M.bytes_bd zs (m % 3000))
  clear hr hi
  generalize M.bytes zs (m % 3000) = bz at *
  generalize m % 3000 = N at *
  have HNW : Hid (∀ (Ab : Option Addr) (cb : Nat) (W : World), Below w.heap.size w W → Rd W W.heap.size Ab N bz → N ≤ cb → cb ≤ maxLen → Calls Try.prog 13 #[.slice Ab N cb, .slice none 0 0, .int .i64 (-1), .slice A' n' c'] W (NewMed bz [] (M.szs ss) W)) := hid (fun Ab cb W hb hrr h1 h2 => by
    have h := new_any Ab N cb bz none 0 0 [] (-1) A' n' c' ss W W.heap.size hrr RdI.none_ ((HI.out W hb).more hb.size) (Nat.le_refl _) h1 h2 (by omega) (by omega) (by omega) (by decide)
    rw [cutN_all, bads_nil, M.wipe_nil, List.take_of_length_le (by rw [HBL.out]; exact Nat.le_refl _)] at h
    exact h)
  generalize M.szs ss = sz at *
  have hk9 : ((kk : Int)) % 9 = ((kk % 9 : Nat) : Int) := by omega
  have hk8 : kk % 9 ≤ 8 := by omega
  go_enter Try.func4, Try.ntmps4
  go_wp2_with fail
  (with_reducible refine (HBY.out w (Below.refl _ _)).mono ?_)
  rintro e w1 ⟨v1, rfl, hv1, b1⟩
  obtain ⟨Ab, cb, rfl, hrb, hcb, hmb⟩ := hv1.rd HBU.out
  rw [HBL.out] at hrb hcb ⊢
  have HN := hid (HNW.out Ab cb w1 b1 hrb hcb hmb)
  have HB1 := hid b1
  clear hv1 hrb b1
  go_wp2_with fail
  (with_reducible refine HN.out.mono ?_)
  rintro e w2 ⟨g, rfl, hg, hmed, b2⟩
  have HB2 := hid (HB1.out.trans (b2.mono HB1.out.size))
  have HGG := hid (Nat.le_trans HB1.out.size hg)
  have HMED := hid hmed
  clear hmed b2 hg HN
  go_wp2_with fail
  generalize kk % 9 = K at *
  have hg2 := HMED.out.lt
  have HTL : Hid (∀ x, x ≤ N → (bz.take x).length = x) := hid (fun x hx => by rw [List.length_take, HBL.out]; omega)
  go_loopw [10, 11] (fun a i wr => ∃ j : Nat, j ≤ K ∧ i = .int .i64 j ∧ RestAt w2 g bz sz a wr) (fun _ i _ => K - (intOf i).toNat)
  case atStart => exact ⟨0, Nat.zero_le _, rfl, 0, 0, HMED.out, OwnY.nil _ _, World.grownBy.refl _ _⟩
  case round =>
    obtain ⟨j, hj, rfl, p, t, hM, hy, hG⟩ := hrel
    obtain ⟨A4, c4, rfl, _, _⟩ := own_room hy
    have hpl := hM.place
    rw [HBL.out] at hpl
    have hglt := hM.lt
    have HGL := HGG.out
    by_cases hlt : j < K
    · have e2 : decide ((j : Int) < (K : Int)) = true := by rw [decide_eq_true_eq]; omega
      by_cases hp : p < N
      · have HRD := hid (read_some g bz [] sz p t wr hM (by rw [HBL.out]; exact hp))
        have hq0 := M.pc_pos sz t (left := bz.length - p) (by rw [HBL.out]; omega)
        have hq1 := M.pc_le sz t (bz.length - p)
        rw [HBL.out] at hq1
        unfold ReadPost at HRD
        rw [HBL.out] at HRD hq0
        generalize M.pc sz t (N - p) = q at *
        have hpb : (M.pbytes bz p q).length = q := by unfold M.pbytes; rw [List.length_take, List.length_drop, HBL.out]; omega
        have hpu : u8s (M.pbytes bz p q) := fun z hz => HBU.out z (List.mem_of_mem_drop (List.mem_of_mem_take hz))
        have hap : bz.take p ++ M.pbytes bz p q = bz.take (p + q) := by unfold M.pbytes; rw [← List.take_add]
        have HPB := hid hpb
        have HPU := hid hpu
        have HAP := hid hap
        have HY := hid hy
        have HG := hid hG
        have hLt : (bz.take p).length = p := by rw [List.length_take, HBL.out]; omega
        have HLT := hid hLt
        clear hM hy hG hpb hpu hap
        rw [hLt]
        rw [hLt] at HY
        clear hLt
        have e3 : decide ((0 : Int) < (q : Int)) = true := by rw [decide_eq_true_eq]; omega
        go_wp2_with fail
        (with_reducible refine HRD.out.mono ?_)
        rintro e w4 ⟨v, rfl, hv, hM4, hG4⟩
        obtain ⟨A5, c5, rfl, hr5, _, _⟩ := hv.rd HPU.out
        rw [HPB.out] at hr5 ⊢
        have HR5 := hid hr5
        have HY4 := hid (HY.out.grown hG4 (.inr (HY.out.apart hg2)))
        have HM4 := hid hM4
        have HG4 := hid (HG.out.trans hG4)
        have HZ4 := hid (Nat.le_trans HG.out.size hG4.size)
        clear hv hr5 hM4 hG4 HRD
        go_wp2_with (refine wpList_app_bytes rfl (.tmp 43) (.tmp 44) rfl w2.heap.size (.slice A4 p c4) (bz.take p) (by simp [Act.eval]) HY4.out w4.heap.size A5 q c5 (M.pbytes bz p q) (by simp [Act.eval]) HR5.out (by rw [HLT.out]; omega) HZ4.out ?_; intro v' w5 q1 q2 q3; rw [HAP.out] at q1; obtain ⟨A6, c6, hv6, _, _⟩ := own_room q1; rw [HTL.out (p + q) (by omega)] at hv6; subst hv6; have Q1 := hid q1; have Q2 := hid q2; clear q1 q2 q3)
        go_roundw
        case rel =>
          have hfar : ∀ r, (Value.slice A4 p c4).ownBlock = some r → w2.heap.size ≤ r := fun r hr => (World.ownsRow.lt HY4.out r hr).1
          refine ⟨j + 1, by omega, by go_num, p + q, _, HM4.out.kept (fun k hk => Q2.out.block k (by have := HM4.out.lt; omega) (fun e => by have := hfar k e.symm; omega)), Q1.out, grown_far HG4.out Q2.out hfar⟩
        case measure => simp [intOf]; omega
      · obtain rfl : p = N := by omega
        have HRD := hid (read_none g bz [] sz t wr (by rw [HBL.out]; exact hM))
        have HY := hid hy
        have HG := hid hG
        have HM := hid hM
        have hLt : (bz.take p).length = p := by rw [List.length_take, HBL.out]; omega
        have HLT := hid hLt
        rw [hLt]
        rw [hLt] at HY
        clear hLt hM hy hG
        go_wp2_with fail
        (with_reducible refine HRD.out.mono ?_)
        rintro e w4 ⟨rfl, b4⟩
        have HY4 := hid (HY.out.later b4)
        have HM4 := hid (HM.out.later b4)
        have HG4 := hid (HG.out.trans (grown_of_below b4 (some g)))
        have HZ4 := hid (Nat.le_trans HG.out.size b4.size)
        clear b4 HRD
        go_wp2_with (refine wpList_app_bytes rfl (.tmp 43) (.tmp 44) rfl w2.heap.size (.slice A4 p c4) (bz.take p) (by simp [Act.eval]) HY4.out w4.heap.size none 0 0 [] (by simp [Act.eval]) Rd.none_ (by rw [HLT.out]; omega) HZ4.out ?_; intro v' w5 q1 q2 q3; rw [List.append_nil] at q1; obtain ⟨A6, c6, hv6, _, _⟩ := own_room q1; rw [HTL.out p (Nat.le_refl _)] at hv6; subst hv6; have Q1 := hid q1; have Q2 := hid q2; clear q1 q2 q3)
        go_roundw
        case rel =>
          have hfar : ∀ r, (Value.slice A4 p c4).ownBlock = some r → w2.heap.size ≤ r := fun r hr => (World.ownsRow.lt HY4.out r hr).1
          refine ⟨j + 1, by omega, by go_num, p, _, HM4.out.kept (fun k hk => Q2.out.block k (by have := HM4.out.lt; omega) (fun e => by have := hfar k e.symm; omega)), Q1.out, grown_far HG4.out Q2.out hfar⟩
        case measure => simp [intOf]; omega
    · have hjK : j = K := by omega
      have e2 : decide ((j : Int) < (K : Int)) = false := by rw [decide_eq_false_iff_not]; omega
      have hLt : (bz.take p).length = p := HTL.out p hpl
      have hb0 : (if p = 0 then ([] : List Int) else []) = [] := by split <;> rfl
      have HGA := gather_any g bz [] sz p t wr hM
      unfold GatherPost at HGA
      rw [hb0] at HGA
      have HGP := hid HGA
      have hdl : (bz.drop p).length = N - p := by rw [List.length_drop, HBL.out]
      have hdu : u8s (bz.drop p) := fun z hz => HBU.out z (List.mem_of_mem_drop hz)
      have HDL := hid hdl
      have HDU := hid hdu
      have HY := hid hy
      have HG := hid hG
      rw [hLt]
      rw [hLt] at HY
      clear hLt hb0 HGA hdl hdu hy hG hM
      go_wp2_with fail
      (with_reducible refine HGP.out.mono ?_)
      rintro e w5 ⟨u, v, rfl, hu, hv, ⟨t5, hM5⟩, hG5⟩
      obtain ⟨Au, cu, rfl, hru, _, _⟩ := hu.rd HDU.out
      obtain ⟨Av, cv, rfl, _, _⟩ := own_room hv
      rw [HDL.out] at hru ⊢
      rw [List.length_nil] at hv ⊢
      obtain ⟨w6, hw6⟩ : ∃ w6, w5.alloc (.cells #[.slice Au (N - p) cu, .slice Av 0 cv] 27) = w6 := ⟨_, rfl⟩
      have hb6 : Below w5.heap.size w5 w6 := by rw [← hw6]; exact (Below.refl _ _).alloc (Nat.le_refl _) _
      have hx6 : Blk w6 w5.heap.size 27 [.slice Au (N - p) cu, .slice Av 0 cv] := by rw [← hw6]; exact Blk.new w5 _ _
      have c0 := hx6.cell (i := 0) rfl
      have HRU6 := hid (((hru.keep (w' := w6) fun p hp => hb6.cell hp)))
      have HY6 := hid ((HY.out.grown hG5 (.inr (HY.out.apart hg2))).later hb6)
      have HM6 := hid (hM5.later hb6)
      have HG6 := hid ((HG.out.trans hG5).trans (grown_of_below hb6 (some g)))
      have HZ6 := hid (Nat.le_trans (Nat.le_trans HG.out.size hG5.size) hb6.size)
      clear hu hv hru hM5 hG5 hb6 hx6 HGP
      go_wp2_with (refine wpList_app_bytes rfl (.tmp 48) (.tmp 50) rfl w2.heap.size (.slice A4 p c4) (bz.take p) (by simp [Act.eval]) HY6.out w5.heap.size Au (N - p) cu (bz.drop p) (by simp [Act.eval]) HRU6.out (by rw [HTL.out p hpl]; omega) HZ6.out ?_; intro v' w7 q1 q2 q3; rw [List.take_append_drop] at q1; obtain ⟨A7, c7, hv7, _, _⟩ := own_room q1; rw [HBL.out] at hv7; subst hv7; have Q1 := hid q1; have Q2 := hid q2; clear q1 q2 q3)
      clear hw6
      have hfar : ∀ r, (Value.slice A4 p c4).ownBlock = some r → w2.heap.size ≤ r := fun r hr => (World.ownsRow.lt HY6.out r hr).1
      have hM7 : Med w7 g bz [] sz bz.length t5 := HM6.out.kept (fun k hk => Q2.out.block k (by have := HM6.out.lt; omega) (fun e => by have := hfar k e.symm; omega))
      have HRN := hid (read_none g bz [] sz t5 w7 hM7)
      have hG7 := grown_far HG6.out Q2.out hfar
      have HB7 := hid (below_grown HB2.out hG7 HB2.out.size (fun k e => by injection e with e; omega))
      clear hM7 hfar hG7 c0 HY6 HM6 HG6
      (with_reducible refine HRN.out.mono ?_)
      rintro e w8 ⟨rfl, b8⟩
      have HB8 := hid (HB7.out.trans (b8.mono HB7.out.size))
      have hq8 := Q1.out.later b8
      have hry8 : Rd w8 w8.heap.size A7 N bz := by
        obtain ⟨A', c', hv', hrd, _, _⟩ := hq8.rd HBU.out
        rw [HBL.out] at hv' hrd
        cases hv'
        exact hrd
      have HRY8 := hid hry8
      clear b8 hq8 hry8
      go_wp2_with fail
      have CV1 := hid (fun (W : World) (hW : Below w8.heap.size w8 W) => run_str (HRY8.out.keep (w' := W) fun p hp => hW.cell hp) c7)
      have CBY := hid (fun (W : World) (hW : Below w8.heap.size w8 W) => HBY.out W (HB8.out.trans (hW.mono HB8.out.size)))
      have hne := strOf_eq bz
      have HCV := hid (fun (V W : World) (A9 : Option Addr) (c9 : Nat) (hr : Rd V V.heap.size A9 N bz) (hW : Below V.heap.size V W) => run_str (hr.keep (w' := W) fun p hp => hW.cell hp) c9)
      generalize strOf bz = s at *
      have HB8' := hid (Below.refl w8.heap.size w8)
      refine wp_region_held_drew (S := fun W => Below w8.heap.size w8 W) (by kernel_rfl) (below_drew' HB8'.out) (fun hS => ?_)
      refine loneH (i := 0) 57 rfl rfl (by kernel_rfl) (by rfl) (fun K hK => ?_)
      go_simp
      (with_reducible refine (known_any _).mono ?_)
      rintro e w9 ⟨rfl, b9⟩
      have B9 := hS.trans (b9.mono hS.size)
      clear b9 hS
      refine hK.out _ _ B9 (fun hS => ?_)
      clear hK K
      try simp only [Act.put, List.setIfInBounds_toArray, List.set_cons_zero, List.set_cons_succ]
      refine takeH (i := 1) (v := ?_) 58 rfl rfl (by kernel_rfl) (by kernel_rfl) (by kernel_rfl) (fun _ _ _ h => h) (by rfl) ?hy1 hS ?rest1
      case hy1 => (intro W hW; have f1 := CV1.out W hW; clear hW; go_simp; first | done | with_reducible rfl)
      try simp only [Act.put, List.setIfInBounds_toArray, List.set_cons_zero, List.set_cons_succ]
      refine takeH (i := 2) (v := ?_) 59 rfl rfl (by kernel_rfl) (by kernel_rfl) (by kernel_rfl) (fun _ _ _ h => h) (by rfl) ?hy2 hS ?rest2
      case hy2 => (intro W hW; have f1 := CV1.out W hW; clear hW; go_simp; first | done | with_reducible rfl)
      try simp only [Act.put, List.setIfInBounds_toArray, List.set_cons_zero, List.set_cons_succ]
      refine takeH (i := 3) (v := ?_) 60 rfl rfl (by kernel_rfl) (by kernel_rfl) (by kernel_rfl) (fun _ _ _ h => h) (by rfl) ?hy3 hS ?rest3
      case hy3 => (intro W hW; have f1 := CV1.out W hW; clear hW; go_simp; first | done | with_reducible rfl)
      try simp only [Act.put, List.setIfInBounds_toArray, List.set_cons_zero, List.set_cons_succ]
      refine takeH (i := 4) (v := ?_) 61 rfl rfl (by kernel_rfl) (by kernel_rfl) (by kernel_rfl) (fun _ _ _ h => h) (by rfl) ?hy4 hS ?rest4
      case hy4 => (intro W hW; have f1 := CV1.out W hW; clear hW; go_simp; first | done | with_reducible rfl)
      try simp only [Act.put, List.setIfInBounds_toArray, List.set_cons_zero, List.set_cons_succ]
      refine takeH (i := 5) (v := ?_) 62 rfl rfl (by kernel_rfl) (by kernel_rfl) (by kernel_rfl) (fun _ _ _ h => h) (by rfl) ?hy5 hS ?rest5
      case hy5 => (intro W hW; have f1 := CV1.out W hW; clear hW; go_simp; first | done | with_reducible rfl)
      try simp only [Act.put, List.setIfInBounds_toArray, List.set_cons_zero, List.set_cons_succ]
      refine loneH (i := 6) 63 rfl rfl (by kernel_rfl) (by rfl) (fun K hK => ?_)
      go_simp
      (with_reducible refine (CBY.out _ hS).mono ?_)
      rintro e w10 ⟨bv, rfl, hbv, b10⟩
      obtain ⟨A10, c10, rfl, hr10, _, _⟩ := hbv.rd HBU.out
      rw [HBL.out] at hr10 ⊢
      have B10 := hS.trans (b10.mono hS.size)
      have HR10 := hid hr10
      clear b10 hS hbv hr10
      refine hK.out _ _ B10 (fun hS => ?_)
      clear hK K
      try simp only [Act.put, List.setIfInBounds_toArray, List.set_cons_zero, List.set_cons_succ]
      refine wpAnyH_narrow (S' := fun W => Below w10.heap.size w10 W) (fun W h => B10.trans (h.mono B10.size)) _ _ _ _ ?_
      clear hS
      have hS : Below w10.heap.size w10 w10 := Below.refl _ _
      have CV2 := hid (fun (W : World) (hW : Below w10.heap.size w10 W) => HCV.out w10 W A10 c10 HR10.out hW)
      refine takeH (i := 7) (v := ?_) 64 rfl rfl (by kernel_rfl) (by kernel_rfl) (by kernel_rfl) (fun _ _ _ h => h) (by rfl) ?hy7 hS ?rest7
      case hy7 => (intro W hW; have f2 := CV2.out W hW; clear hW; go_simp; first | done | with_reducible rfl)
      try simp only [Act.put, List.setIfInBounds_toArray, List.set_cons_zero, List.set_cons_succ]
      refine takeH (i := 8) (v := ?_) 65 rfl rfl (by kernel_rfl) (by kernel_rfl) (by kernel_rfl) (fun _ _ _ h => h) (by rfl) ?hy8 hS ?rest8
      case hy8 => (intro W hW; have f2 := CV2.out W hW; clear hW; go_simp; first | done | with_reducible rfl)
      try simp only [Act.put, List.setIfInBounds_toArray, List.set_cons_zero, List.set_cons_succ]
      refine takeH (i := 9) (v := ?_) 66 rfl rfl (by kernel_rfl) (by kernel_rfl) (by kernel_rfl) (fun _ _ _ h => h) (by rfl) ?hy9 hS ?rest9
      case hy9 => (intro W hW; have f2 := CV2.out W hW; clear hW; go_simp; first | done | with_reducible rfl)
      try simp only [Act.put, List.setIfInBounds_toArray, List.set_cons_zero, List.set_cons_succ]
      refine takeH (i := 10) (v := ?_) 67 rfl rfl (by kernel_rfl) (by kernel_rfl) (by kernel_rfl) (fun _ _ _ h => h) (by rfl) ?hy10 hS ?rest10
      case hy10 => (intro W hW; have f2 := CV2.out W hW; clear hW; go_simp; first | done | with_reducible rfl)
      try simp only [Act.put, List.setIfInBounds_toArray, List.set_cons_zero, List.set_cons_succ]
      refine takeH (i := 11) (v := ?_) 68 rfl rfl (by kernel_rfl) (by kernel_rfl) (by kernel_rfl) (fun _ _ _ h => h) (by rfl) ?hy11 hS ?rest11
      case hy11 => (intro W hW; have f2 := CV2.out W hW; clear hW; go_simp; first | done | with_reducible rfl)
      try simp only [Act.put, List.setIfInBounds_toArray, List.set_cons_zero, List.set_cons_succ]
      refine takeH (i := 12) (v := ?_) 69 rfl rfl (by kernel_rfl) (by kernel_rfl) (by kernel_rfl) (fun _ _ _ h => h) (by rfl) ?hy12 hS ?rest12
      case hy12 => (intro W hW; have f2 := CV2.out W hW; clear hW; go_simp; first | done | with_reducible rfl)
      try simp only [Act.put, List.setIfInBounds_toArray, List.set_cons_zero, List.set_cons_succ]
      refine takeH (i := 13) (v := ?_) 70 rfl rfl (by kernel_rfl) (by kernel_rfl) (by kernel_rfl) (fun _ _ _ h => h) (by rfl) ?hy13 hS ?rest13
      case hy13 => (intro W hW; have f2 := CV2.out W hW; clear hW; go_simp; first | done | with_reducible rfl)
      try simp only [Act.put, List.setIfInBounds_toArray, List.set_cons_zero, List.set_cons_succ]
      refine takeH (i := 14) (v := ?_) 8 rfl rfl (by kernel_rfl) (by kernel_rfl) (by kernel_rfl) (fun _ _ _ h => h) (by rfl) ?hy14 hS ?rest14
      case hy14 => (intro W hW; have f2 := CV2.out W hW; clear hW; go_simp; first | done | with_reducible rfl)
      try simp only [Act.put, List.setIfInBounds_toArray, List.set_cons_zero, List.set_cons_succ]
      refine wpAnyH_done (by kernel_rfl) ?_ _
      go_wp2
      go_ret
      exact ⟨rfl, HB8.out.trans (B10.mono HB8.out.size)⟩

theorem mediumRest_any (A : Option Addr) (n c : Nat) (zs : List Int) (m : Int) (A' : Option Addr) (n' c' : Nat) (ss : List Int) (k : Int) (w : World) (hr : Rd w w.heap.size A n zs) (hn : n ≤ maxLen) (hm : 0 ≤ m ∧ m ≤ 65535) (hi : RdI w w.heap.size A' n' ss) (hn' : n' ≤ maxLen) (hk : 0 ≤ k ∧ k ≤ 255) :
    Calls Try.prog 4 #[.slice A n c, .int .u16 m, .slice A' n' c', .int .u8 k] w fun e w' => e = .returned (.bool true) ∧ Below w.heap.size w w' := by
  obtain ⟨m, rfl⟩ : ∃ j : Nat, m = j := ⟨m.toNat, by omega⟩
  obtain ⟨k, rfl⟩ : ∃ j : Nat, k = j := ⟨k.toNat, by omega⟩
  exact mediumRest_nat A n c zs m A' n' c' ss k w hr hn (by omega) hi hn' (by omega)
end Go.Proofs.Yteneknmbddnkaaa
