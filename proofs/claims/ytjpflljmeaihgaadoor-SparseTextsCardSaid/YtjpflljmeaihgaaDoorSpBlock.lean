/-
  The law's Block: 512 bytes.
-/
import Derived.Test.YtjpflljmeaihgaaDoorSpRefExp
import Derived.Test.YtjpflljmeaihgaaDoorSpLawParts
import Derived.Test.YtjpflljmeaihgaaDoorSpMake
import Derived.Test.YtjpflljmeaihgaaDoorHdStepX
import Derived.Lib.MinMax
import Derived.Deep.RegionLawGrows
namespace Go.Proofs.YtjpflljmeaihgaaDoor
open Go.RowKit Go.Lib
attribute [local go_sem ↓] add_plain

/-- A block of 512 bytes. -/
def B512 (w : World) (g : Nat) : Prop := ∃ zs : List Int, zs.length = 512 ∧ u8s zs ∧ Blk w g 5 (bcells zs)
theorem B512.set {w : World} {g : Nat} (h : B512 w g) (p : Nat) {z : Int} (hz : 0 ≤ z ∧ z ≤ 255) : B512 (w.setCell ⟨g, p, none⟩ (.int .u8 z)) g := by
  obtain ⟨zs, h1, h2, h3⟩ := h
  refine ⟨zs.set p z, by rw [List.length_set]; exact h1, fun y hy => ?_, ?_⟩
  · rcases List.mem_or_eq_of_mem_set hy with h | h
    · exact h2 y h
    · rw [h]; exact hz
  · have := h3.set p (.int .u8 z)
    rwa [bcells_set] at this
theorem B512.cell {w : World} {g p : Nat} (h : B512 w g) (hp : p < 512) : (∃ u, w.cell? ⟨g, p, none⟩ = some u) ∧ w.frozen? ⟨g, p, none⟩ = false := by
  obtain ⟨zs, h1, h2, h3⟩ := h
  refine ⟨?_, h3.frozen p⟩
  have hl : p < (bcells zs).length := by rw [bcells_len, h1]; exact hp
  exact ⟨_, h3.cell (List.getElem?_eq_getElem hl)⟩
theorem B512.below {w w' : World} {g B : Nat} (h : B512 w g) (hb : Below B w w') (hg : g < B) : B512 w' g := by
  obtain ⟨zs, h1, h2, h3⟩ := h
  exact ⟨zs, h1, h2, h3.below hb hg⟩
theorem B512.drewN {w : World} {g : Nat} (h : B512 w g) (k : Nat) : B512 (w.drewN k) g := h
theorem B512.lt {w : World} {g : Nat} (h : B512 w g) : g < w.heap.size := by
  obtain ⟨zs, h1, h2, h3⟩ := h
  exact h3.lt

theorem tdiv8_bd {x : Int} (h : -10000 ≤ x ∧ x ≤ 10000) : -10000 ≤ Int.tdiv x 8 ∧ Int.tdiv x 8 ≤ 10000 := by
  by_cases h0 : 0 ≤ x
  · rw [Int.tdiv_eq_ediv_of_nonneg h0]; omega
  · have e : Int.tdiv x 8 = -(Int.tdiv (-x) 8) := by rw [Int.neg_tdiv, Int.neg_neg]
    rw [e, Int.tdiv_eq_ediv_of_nonneg (by omega)]; omega

set_option maxRecDepth 100000 in
set_option maxHeartbeats 4000000 in
theorem block_any (A : Option Addr) (n c : Nat) (zs : List Int) (w : World) (hr : Rd w w.heap.size A n zs) (hn : n ≤ maxLen) :
    Calls Tryd.prog 19 #[.slice A n c] w fun e w' => e = .returned (.slice (some ⟨w.heap.size, 0, none⟩) 512 512) ∧ B512 w' w.heap.size ∧ Below w.heap.size w w' := by
  have HR := hid (fun (W : World) (hW : Below w.heap.size w W) => hr.below hW)
  have HP := hid (fun (W : World) (hW : Below w.heap.size w W) => lawParts_any A n c zs W ((hr.below hW).more hW.size) hn)
  have hmk := run_makeB 512 (by omega) w
  rw [show ((512 : Nat) : Int) = 512 by rfl] at hmk
  unfold maxLen at hn
  clear hr
  go_enter Tryd.func19, Tryd.ntmps19
  go_wp2_with fail
  clear hmk
  have HX0 := hid (show B512 (w.alloc (.cells (bcells (M.zeros 512)).toArray 5)) w.heap.size from ⟨_, M.zeros_len 512, M.zeros_u8 512, Blk.new w _ _⟩)
  have HW0 := hid (show Below w.heap.size w (w.alloc (.cells (bcells (M.zeros 512)).toArray 5)) from (Below.refl _ _).alloc (Nat.le_refl _) _)
  generalize w.alloc _ = w0 at *
  (with_reducible refine (HP.out w0 HW0.out).mono ?_)
  rintro e w1 ⟨v, l, m, en, rfl, hop, hfew, hb1⟩
  obtain ⟨Ap, cp, rfl, _, _⟩ := hop.rd
  have HOP := hid hop
  have HG0 := hid (show w.heap.size < w0.heap.size from HX0.out.lt)
  have HX1 := hid (HX0.out.below hb1 HX0.out.lt)
  have HB1 := hid (HW0.out.trans (hb1.mono HW0.out.size))
  have HF := hid hfew
  obtain ⟨L, hL⟩ : ∃ L, l.length = L := ⟨_, rfl⟩
  have hL8 : L ≤ 8 := by have := hfew.len; omega
  rw [hL]
  have HLL := hid hL
  clear HP hop hfew hb1 HX0 HW0 hL
  go_wp2_with fail
  go_loopw [7] (fun iv wr => ∃ i : Nat, iv = .int .i64 i ∧ i ≤ L ∧ Hid (B512 wr w.heap.size) ∧ Hid (Below w.heap.size w wr) ∧ Hid (OwnP wr w0.heap.size (.slice Ap l.length cp) l)) (fun iv _ => L - (RowKit.intOf iv).toNat)
  case atStart => exact ⟨0, rfl, Nat.zero_le _, HX1, HB1, HOP⟩
  case round =>
    obtain ⟨i, rfl, hi, HX, HB, HO⟩ := hrel
    by_cases hlt : i < L
    · have d1 : decide (i < L) = true := by rw [decide_eq_true_eq]; exact hlt
      have d2 : decide (i < 21) = true := by rw [decide_eq_true_eq]; omega
      obtain ⟨Aq, cq, hvq, hrq, _⟩ := HO.out.rd
      injection hvq with q1 q2 q3
      subst q1 q3
      obtain ⟨b, off, ⟨p, q⟩, rfl, hb, hp, hc1, hc2⟩ := hrq.at_ (k := i) (by rw [HLL.out]; exact hlt)
      have hpq := HF.out.parts _ (List.mem_of_getElem? hp)
      dsimp only at hc1 hc2 hpq
      obtain ⟨i1, hi1⟩ : ∃ i1, i1 = i + 1 := ⟨_, rfl⟩
      clear hp hrq
      go_wp2_with fail
      clear hc1 hc2
      go_loopw [8, 9, 10] (fun xv yv kv wi => ∃ (x y k : Int), xv = .int .i64 x ∧ yv = .int .i64 y ∧ kv = .int .i64 k ∧ (-10000 ≤ x ∧ x ≤ 10000) ∧ (0 ≤ y ∧ y ≤ 30) ∧ (-1 ≤ k ∧ k ≤ 10) ∧ Hid (B512 wi w.heap.size) ∧ Hid (Below w.heap.size w wi) ∧ Hid (OwnP wi w0.heap.size (.slice (some ⟨b, off, none⟩) l.length cp) l)) (fun _ _ kv _ => (RowKit.intOf kv + 1).toNat)
      case atStart => exact ⟨p, q, 10, rfl, rfl, rfl, by omega, by omega, by omega, HX, HB, HO⟩
      case round =>
        obtain ⟨x, y, k, rfl, rfl, rfl, hx, hy, hk, HXi, HBi, HOi⟩ := hrel
        obtain ⟨x0, x1⟩ := hx
        obtain ⟨y0, y1⟩ := hy
        obtain ⟨k0, k1⟩ := hk
        by_cases hk0 : 0 ≤ k
        · have d3 : decide (0 ≤ k) = true := by rw [decide_eq_true_eq]; exact hk0
          obtain ⟨mx, hmx⟩ : ∃ mx : Int, max x 0 = mx := ⟨_, rfl⟩
          obtain ⟨r, hr⟩ : ∃ r : Int, Int.tmod mx 8 = r := ⟨_, rfl⟩
          obtain ⟨s, hs⟩ : ∃ s : Int, Int.tmod y 8 = s := ⟨_, rfl⟩
          have hrb : 0 ≤ r ∧ r < 8 := by rw [Int.tmod_eq_emod_of_nonneg (by omega)] at hr; omega
          have hsb : 0 ≤ s ∧ s < 8 := by rw [Int.tmod_eq_emod_of_nonneg y0] at hs; omega
          obtain ⟨r0, r1⟩ := hrb
          obtain ⟨s0, s1⟩ := hsb
          obtain ⟨x2, hx2⟩ : ∃ x2 : Int, Int.tdiv x 8 = x2 := ⟨_, rfl⟩
          obtain ⟨y2, hy2⟩ : ∃ y2 : Int, Int.tdiv y 8 = y2 := ⟨_, rfl⟩
          have hx2b : -10000 ≤ x2 ∧ x2 ≤ 10000 := by rw [← hx2]; exact tdiv8_bd ⟨x0, x1⟩
          have hy2b : 0 ≤ y2 ∧ y2 ≤ 30 := by have h := hy2; rw [Int.tdiv_eq_ediv_of_nonneg y0] at h; omega
          have HX2 := hid hx2b
          have HY2 := hid hy2b
          obtain ⟨P, hP⟩ : ∃ P : Nat, 24 * (i : Int) + k = (P : Int) := ⟨(24 * (i : Int) + k).toNat, by omega⟩
          have hPb : P < 512 := by omega
          have hP2 : 24 * (i : Int) + 12 + k = ((P + 12 : Nat) : Int) := by omega
          obtain ⟨P2, hP3⟩ : ∃ P2, P2 = P + 12 := ⟨_, rfl⟩
          rw [← hP3] at hP2
          have hP2b : P2 < 512 := by omega
          have hwx : wrap64 x2 = x2 := by unfold wrap64; omega
          have hwy : wrap64 y2 = y2 := by unfold wrap64; omega
          clear hP3
          obtain ⟨⟨u1, hu1⟩, hf1⟩ := HXi.out.cell hPb
          have HA := hid (HXi.out.set P (z := 48 + r) (by omega))
          obtain ⟨⟨u2, hu2⟩, hf2⟩ := HA.out.cell hP2b
          have HA2 := hid (HA.out.set P2 (z := 48 + s) (by omega))
          have HBi2 := hid ((HBi.out.setCell (p := ⟨w.heap.size, P, none⟩) (Nat.le_refl _) (.int .u8 (48 + r))).setCell (p := ⟨w.heap.size, P2, none⟩) (Nat.le_refl _) (.int .u8 (48 + s)))
          have HOi2 := hid (OwnP.set (OwnP.set HOi.out (p := ⟨w.heap.size, P, none⟩) HG0.out (.int .u8 (48 + r))) (p := ⟨w.heap.size, P2, none⟩) HG0.out (.int .u8 (48 + s)))
          clear HXi HA HBi HOi hx2b hy2b
          go_wp2_with fail
          go_roundw
          case rel => exact ⟨x2, y2, k - 1, (by first | rfl | rw [hwx]), (by first | rfl | rw [hwy]), rfl, HX2.out, HY2.out, by omega, HA2, HBi2, HOi2⟩
          case measure => simp [RowKit.intOf] <;> omega
        · have d3 : decide (0 ≤ k) = false := by rw [decide_eq_false_iff_not]; exact hk0
          go_wp2_with fail
          go_roundw
          case rel => exact ⟨i1, (by subst hi1; first | rfl | go_num), by omega, HXi, HBi, HOi⟩
          case measure => simp [RowKit.intOf] <;> omega
    · obtain rfl : i = L := by omega
      have d1 : decide (i < i) = false := by simp
      by_cases hn1 : 1 < n
      case neg =>
        have d2 : decide (1 < n) = false := by rw [decide_eq_false_iff_not]; exact hn1
        go_wp2_with fail
        go_ret
        exact ⟨rfl, HX.out, HB.out⟩
      case pos =>
        have d2 : decide (1 < n) = true := by rw [decide_eq_true_eq]; exact hn1
        obtain ⟨b, off, z, rfl, hb, hz0, hz1, hz, hcz⟩ := (HR.out wr HB.out).at_ (k := 0) (by omega)
        obtain ⟨b', off', y, eA, _, hy0, hy1, hy, hcy⟩ := (HR.out wr HB.out).at_ (k := 1) hn1
        injection eA with eA
        injection eA with e1 e2
        subst e1 e2
        simp only [Nat.add_zero] at hcz
        obtain ⟨r, hr⟩ : ∃ r : Int, Int.tmod z 2 = r := ⟨_, rfl⟩
        have hrb : 0 ≤ r ∧ r < 2 := by rw [Int.tmod_eq_emod_of_nonneg hz0] at hr; omega
        obtain ⟨P, hP⟩ : ∃ P : Nat, Int.tmod z 21 = (P : Int) := ⟨(z % 21).toNat, by rw [Int.tmod_eq_emod_of_nonneg hz0]; omega⟩
        have hPb : P < 21 := by rw [Int.tmod_eq_emod_of_nonneg hz0] at hP; omega
        obtain ⟨⟨u1, hu1⟩, hf1⟩ := HX.out.cell (p := 504) (by omega)
        have hn0 : 0 < n := by omega
        have HA := hid (HX.out.set 504 (z := r) (by omega))
        have HBA := hid (HB.out.setCell (p := ⟨w.heap.size, 504, none⟩) (Nat.le_refl _) (.int .u8 r))
        have HYB := hid (show 0 ≤ y ∧ y ≤ 255 from ⟨hy0, hy1⟩)
        have HCY := hid (fun (W : World) (hW : Below w.heap.size (wr.setCell ⟨w.heap.size, 504, none⟩ (.int .u8 r)) W) => show W.cell? ⟨b, off + 1, none⟩ = some (.int .u8 y) from (hW.cell (p := ⟨b, off + 1, none⟩) hb).trans ((World.cell?_setCell_other wr ⟨w.heap.size, 504, none⟩ ⟨b, off + 1, none⟩ (.int .u8 r) (fun e => by injection e with e; omega)).trans hcy))
        have HCZ := hid (fun (W : World) (hW : Below w.heap.size (wr.setCell ⟨w.heap.size, 504, none⟩ (.int .u8 r)) W) => show W.cell? ⟨b, off, none⟩ = some (.int .u8 z) from (hW.cell (p := ⟨b, off, none⟩) hb).trans ((World.cell?_setCell_other wr ⟨w.heap.size, 504, none⟩ ⟨b, off, none⟩ (.int .u8 r) (fun e => by injection e with e; omega)).trans hcz))
        clear hz hy HX HB
        have hu1' : (wr.cell? ⟨w.heap.size, 504, none⟩) = some u1 := hu1
        by_cases h240 : 240 < y
        case neg =>
          have d3 : decide (240 < y) = false := by rw [decide_eq_false_iff_not]; exact h240
          go_wp2_with fail
          go_ret
          exact ⟨rfl, HA.out, HBA.out⟩
        case pos =>
          have d3 : decide (240 < y) = true := by rw [decide_eq_true_eq]; exact h240
          obtain ⟨Q, hQ⟩ : ∃ Q : Nat, Q = 24 * P + 3 := ⟨_, rfl⟩
          have hQb : Q < 512 := by omega
          have hQi : (Q : Int) < 512 := by omega
          have hw0 : IntKind.i64.wrap (P : Int) = (P : Int) := IntWalk.i64_in _ (by omega)
          have hw1 : IntKind.i64.wrap (24 * (P : Int)) = 24 * (P : Int) := IntWalk.i64_in _ (by omega)
          have hw2 : IntKind.i64.wrap (24 * (P : Int) + 3) = (Q : Int) := by rw [IntWalk.i64_in _ (by omega)]; omega
          go_wp2_with fail
          generalize wr.setCell _ _ = V1 at *
          clear hcz hcy hu1 hu1' hf1 hQ
          refine wp_region_held_drew (S := fun W => Below w.heap.size V1 W) (by kernel_rfl) (below_drew' (Below.refl _ _)) (fun hS => ?_)
          clear hS
          have hVs : Below w.heap.size V1 V1.drew := below_drew' (Below.refl _ _)
          have HAV := hid (show B512 V1.drew w.heap.size from HA.out)
          generalize hSV : World.drew V1 = V at *
          clear hSV
          have hS := hVs
          obtain ⟨⟨u2, hu2⟩, hf2⟩ := HAV.out.cell hQb
          have HA2 := hid (HAV.out.set Q (z := y) HYB.out)
          have HBV := hid (HBA.out.trans hVs)
          refine takeH (i := 0) (v := ?_) 81 rfl rfl (by kernel_rfl) (by kernel_rfl) (by kernel_rfl) (fun _ _ _ h => h) (by rfl) ?hy0 hS ?rest0
          case hy0 => (intro W hW; clear hW; go_simp; first | done | with_reducible rfl)
          try simp only [Act.put, List.setIfInBounds_toArray, List.set_cons_zero, List.set_cons_succ]
          refine takeH (i := 1) (v := ?_) 82 rfl rfl (by kernel_rfl) (by kernel_rfl) (by kernel_rfl) (fun _ _ _ h => h) (by rfl) ?hy1 hS ?rest1
          case hy1 => (intro W hW; clear hW; go_simp; first | done | with_reducible rfl)
          try simp only [Act.put, List.setIfInBounds_toArray, List.set_cons_zero, List.set_cons_succ]
          refine takeH (i := 2) (v := ?_) 83 rfl rfl (by kernel_rfl) (by kernel_rfl) (by kernel_rfl) (fun _ _ _ h => h) (by rfl) ?hy2 hS ?rest2
          case hy2 => (intro W hW; clear hW; go_simp; first | done | with_reducible rfl)
          try simp only [Act.put, List.setIfInBounds_toArray, List.set_cons_zero, List.set_cons_succ]
          refine takeH (i := 3) (v := ?_) 84 rfl rfl (by kernel_rfl) (by kernel_rfl) (by kernel_rfl) (fun _ _ _ h => h) (by rfl) ?hy3 hS ?rest3
          case hy3 => (intro W hW; have f0 := HCZ.out W hW; clear hW; go_simp; first | done | with_reducible rfl)
          try simp only [Act.put, List.setIfInBounds_toArray, List.set_cons_zero, List.set_cons_succ]
          refine takeH (i := 4) (v := ?_) 85 rfl rfl (by kernel_rfl) (by kernel_rfl) (by kernel_rfl) (fun _ _ _ h => h) (by rfl) ?hy4 hS ?rest4
          case hy4 => (intro W hW; clear hW; go_simp; first | done | with_reducible rfl)
          try simp only [Act.put, List.setIfInBounds_toArray, List.set_cons_zero, List.set_cons_succ]
          refine takeH (i := 5) (v := ?_) 86 rfl rfl (by kernel_rfl) (by kernel_rfl) (by kernel_rfl) (fun _ _ _ h => h) (by rfl) ?hy5 hS ?rest5
          case hy5 => (intro W hW; clear hW; go_simp; first | done | with_reducible rfl)
          try simp only [Act.put, List.setIfInBounds_toArray, List.set_cons_zero, List.set_cons_succ]
          refine takeH (i := 6) (v := ?_) 87 rfl rfl (by kernel_rfl) (by kernel_rfl) (by kernel_rfl) (fun _ _ _ h => h) (by rfl) ?hy6 hS ?rest6
          case hy6 => (intro W hW; clear hW; go_simp; first | done | with_reducible rfl)
          try simp only [Act.put, List.setIfInBounds_toArray, List.set_cons_zero, List.set_cons_succ]
          refine takeH (i := 7) (v := ?_) 88 rfl rfl (by kernel_rfl) (by kernel_rfl) (by kernel_rfl) (fun _ _ _ h => h) (by rfl) ?hy7 hS ?rest7
          case hy7 => (intro W hW; clear hW; go_simp; first | done | with_reducible rfl)
          try simp only [Act.put, List.setIfInBounds_toArray, List.set_cons_zero, List.set_cons_succ]
          refine takeH (i := 8) (v := ?_) 89 rfl rfl (by kernel_rfl) (by kernel_rfl) (by kernel_rfl) (fun _ _ _ h => h) (by rfl) ?hy8 hS ?rest8
          case hy8 => (intro W hW; clear hW; go_simp; first | done | with_reducible rfl)
          try simp only [Act.put, List.setIfInBounds_toArray, List.set_cons_zero, List.set_cons_succ]
          refine takeH (i := 9) (v := ?_) 90 rfl rfl (by kernel_rfl) (by kernel_rfl) (by kernel_rfl) (fun _ _ _ h => h) (by rfl) ?hy9 hS ?rest9
          case hy9 => (intro W hW; clear hW; go_simp; first | done | with_reducible rfl)
          try simp only [Act.put, List.setIfInBounds_toArray, List.set_cons_zero, List.set_cons_succ]
          refine takeH (i := 10) (v := ?_) 91 rfl rfl (by kernel_rfl) (by kernel_rfl) (by kernel_rfl) (fun _ _ _ h => h) (by rfl) ?hy10 hS ?rest10
          case hy10 => (intro W hW; have f0 := HCY.out W hW; clear hW; go_simp; first | done | with_reducible rfl)
          try simp only [Act.put, List.setIfInBounds_toArray, List.set_cons_zero, List.set_cons_succ]
          refine takeH (i := 11) (v := ?_) 92 rfl rfl (by kernel_rfl) (by kernel_rfl) (by kernel_rfl) (fun _ _ _ h => h) (by rfl) ?hy11 hS ?rest11
          case hy11 => (intro W hW; clear hW; go_simp; first | done | with_reducible rfl)
          try simp only [Act.put, List.setIfInBounds_toArray, List.set_cons_zero, List.set_cons_succ]
          refine loneN (i := 12) rfl rfl (by kernel_rfl) (by rfl) (fun K hK => ?_)
          go_simp
          refine hK.out _ _ (hS.setCell (p := ⟨w.heap.size, Q, none⟩) (Nat.le_refl _) _) (fun hS => ?_)
          clear hK K
          try simp only [Act.put, List.setIfInBounds_toArray, List.set_cons_zero, List.set_cons_succ]
          refine wpAnyH_done (by kernel_rfl) ?_ _
          try simp only [Act.put, List.setIfInBounds_toArray, List.set_cons_zero, List.set_cons_succ]
          go_wp2_with fail
          go_ret
          exact ⟨rfl, HA2.out, HBV.out.setCell (p := ⟨w.heap.size, Q, none⟩) (Nat.le_refl _) _⟩
end Go.Proofs.YtjpflljmeaihgaaDoor
