/-
  Of two times one is ahead, or they are the same: the walk.
-/
import Derived.Test.YtahhgphlfodonaaDoorStpLess
import Derived.Test.YtahhgphlfodonaaDoorStpKnown
import Derived.Test.YtahhgphlfodonaaDoorStpClass
namespace Go.Proofs.YtahhgphlfodonaaDoor
open Go.RowKit Go.Shelf

theorem box_cells {w : World} {g : Nat} {S n : Int} (h : BoxT w g (S, n)) : w.cell? ⟨g, 0, none⟩ = some (.int .i64 S) ∧ w.cell? ⟨g, 1, none⟩ = some (.int .i64 n) := ⟨h.cell0, h.cell1⟩

theorem cell_on {x y : World} {p : Addr} {v : Value} (h : x.cell? p = some v) (hxy : Below x.heap.size x y) : y.cell? p = some v := (hxy.cell (World.block_lt_of_cell? _ _ h)).trans h
theorem lexB_trans {a b c : M.Tm} (h1 : lexB a b = true) (h2 : lexB b c = true) : lexB a c = true := by
  unfold lexB at *
  rw [decide_eq_true_eq] at *
  omega

set_option maxRecDepth 100000 in
set_option maxHeartbeats 8000000 in
theorem stampOrder_any (S n T m U k : Int) (B : Nat) (w : World) (hB : B ≤ w.heap.size) (ht : TB B w) :
    Calls Tryd.prog 8 #[.agg #[.int .i64 S, .int .i64 n], .agg #[.int .i64 T, .int .i64 m], .agg #[.int .i64 U, .int .i64 k]] w fun e w' => e = .returned (.bool true) ∧ Below w.heap.size w w' := by
  have C1 := fun W => norm_any S n W
  have C2 := fun W => norm_any T m W
  have hnn := M.norm_norm (S, n)
  have D1 := fun W => less_any S n T m W
  have D2 := fun W => less_any T m S n W
  have D3 := fun W => less_any T m U k W
  have D4 := fun W => less_any S n U k W
  unfold lessB at D1 D2 D3 D4
  unfold TimeIs at C1 C2
  generalize M.norm (S, n) = x at *
  generalize M.norm (T, m) = y at *
  generalize M.norm (U, k) = z at *
  obtain ⟨p1, p2⟩ := x
  obtain ⟨q1, q2⟩ := y
  obtain ⟨r1, r2⟩ := z
  have C5 := fun W => norm_any p1 p2 W
  rw [hnn] at C5
  unfold TimeIs at C5
  unfold tv at C1 C2 C5
  dsimp only at C1 C2 C5
  have HT := Lib.hid (ht.up hB)
  have hK := fun W h1 h2 => known_any w.heap.size W h1 h2
  have H1 := Lib.hid C1
  have H2 := Lib.hid C2
  have H5 := Lib.hid C5
  have HD1 := Lib.hid D1
  have HD2 := Lib.hid D2
  have HD3 := Lib.hid D3
  have HD4 := Lib.hid D4
  have HK := Lib.hid hK
  clear C1 C2 C5 D1 D2 D3 D4 hnn ht hK
  go_enter Tryd.func8, Tryd.ntmps8
  go_wp2_with fail
  have x1 := ((BoxT.new w (S, n)).alloc (.cells #[.int .i64 T, .int .i64 m] 25)).alloc (.cells #[.int .i64 U, .int .i64 k] 25)
  have y1 := (box2 w (.cells #[.int .i64 S, .int .i64 n] 25) (T, m)).alloc (.cells #[.int .i64 U, .int .i64 k] 25)
  have z1 := box3 w (.cells #[.int .i64 S, .int .i64 n] 25) (.cells #[.int .i64 T, .int .i64 m] 25) (U, k)
  have b0 := below3 w (.cells #[.int .i64 S, .int .i64 n] 25) (.cells #[.int .i64 T, .int .i64 m] 25) (.cells #[.int .i64 U, .int .i64 k] 25)
  dsimp only at x1 y1 z1
  refine (H1.out _).mono ?_
  rintro e w1 ⟨rfl, hb1⟩
  have b1 := b0.trans (hb1.mono b0.size)
  have x2 := (x1.below hb1 x1.lt).alloc (.cells #[.int .i64 p1, .int .i64 p2] 25)
  have y2 := (y1.below hb1 y1.lt).alloc (.cells #[.int .i64 p1, .int .i64 p2] 25)
  have z2 := (z1.below hb1 z1.lt).alloc (.cells #[.int .i64 p1, .int .i64 p2] 25)
  have u2 := BoxT.new w1 (p1, p2)
  have b2 := b1.alloc b1.size (.cells #[.int .i64 p1, .int .i64 p2] 25)
  clear x1 y1 z1 b0 hb1 b1
  dsimp only at u2
  obtain ⟨c0, c1⟩ := box_cells y2
  go_wp2_with fail
  refine (H2.out _).mono ?_
  rintro e w2 ⟨rfl, hb2⟩
  clear c0 c1
  have b3 := b2.trans (hb2.mono b2.size)
  have x3 := (x2.below hb2 x2.lt).alloc (.cells #[.int .i64 q1, .int .i64 q2] 25)
  have y3 := (y2.below hb2 y2.lt).alloc (.cells #[.int .i64 q1, .int .i64 q2] 25)
  have z3 := (z2.below hb2 z2.lt).alloc (.cells #[.int .i64 q1, .int .i64 q2] 25)
  have u3 := (u2.below hb2 u2.lt).alloc (.cells #[.int .i64 q1, .int .i64 q2] 25)
  have v3 := BoxT.new w2 (q1, q2)
  have b4 := b3.alloc b3.size (.cells #[.int .i64 q1, .int .i64 q2] 25)
  clear x2 y2 z2 u2 b2 hb2 b3
  dsimp only at v3
  obtain ⟨c0, c1⟩ := box_cells x3
  obtain ⟨d0, d1⟩ := box_cells y3
  go_wp2_with fail
  refine (HD1.out _).mono ?_
  rintro e w3 ⟨rfl, hb3⟩
  clear c0 c1 d0 d1
  have b5 := b4.trans (hb3.mono b4.size)
  have x4 := x3.below hb3 x3.lt
  have y4 := y3.below hb3 y3.lt
  have z4 := z3.below hb3 z3.lt
  have u4 := u3.below hb3 u3.lt
  have v4 := v3.below hb3 v3.lt
  clear x3 y3 z3 u3 v3 b4 hb3
  obtain ⟨c0, c1⟩ := box_cells x4
  obtain ⟨d0, d1⟩ := box_cells y4
  go_wp2_with fail
  refine (HD2.out _).mono ?_
  rintro e w4 ⟨rfl, hb4⟩
  clear c0 c1 d0 d1
  have b6 := b5.trans (hb4.mono b5.size)
  have x5 := x4.below hb4 x4.lt
  have y5 := y4.below hb4 y4.lt
  have z5 := z4.below hb4 z4.lt
  have u5 := u4.below hb4 u4.lt
  have v5 := v4.below hb4 v4.lt
  clear x4 y4 z4 u4 v4 b5 hb4
  obtain ⟨c0, c1⟩ := box_cells z5
  obtain ⟨d0, d1⟩ := box_cells y5
  go_wp2_with fail
  refine (HD3.out _).mono ?_
  rintro e w5 ⟨rfl, hb5⟩
  clear c0 c1 d0 d1
  have b7 := b6.trans (hb5.mono b6.size)
  have x6 := x5.below hb5 x5.lt
  have z6 := z5.below hb5 z5.lt
  have u6 := u5.below hb5 u5.lt
  have v6 := v5.below hb5 v5.lt
  clear x5 y5 z5 u5 v5 b6 hb5
  clear H1 H2 HD1 HD2 HD3
  obtain ⟨c0, c1⟩ := box_cells u6
  obtain ⟨d0, d1⟩ := box_cells v6
  obtain ⟨f0, f1⟩ := box_cells x6
  obtain ⟨i0, i1⟩ := box_cells z6
  clear u6 v6 x6 z6
  have S1 : ∀ (x y : World), (x.cell? ⟨w1.heap.size, 0, none⟩ = some (.int .i64 p1) ∧ x.cell? ⟨w1.heap.size, 1, none⟩ = some (.int .i64 p2) ∧ x.cell? ⟨w2.heap.size, 0, none⟩ = some (.int .i64 q1) ∧ x.cell? ⟨w2.heap.size, 1, none⟩ = some (.int .i64 q2) ∧ x.cell? ⟨w.heap.size, 0, none⟩ = some (.int .i64 S) ∧ x.cell? ⟨w.heap.size, 1, none⟩ = some (.int .i64 n) ∧ x.cell? ⟨w.heap.size + 1 + 1, 0, none⟩ = some (.int .i64 U) ∧ x.cell? ⟨w.heap.size + 1 + 1, 1, none⟩ = some (.int .i64 k) ∧ Below w.heap.size w x) → Below x.heap.size x y →
      y.cell? ⟨w1.heap.size, 0, none⟩ = some (.int .i64 p1) ∧ y.cell? ⟨w1.heap.size, 1, none⟩ = some (.int .i64 p2) ∧ y.cell? ⟨w2.heap.size, 0, none⟩ = some (.int .i64 q1) ∧ y.cell? ⟨w2.heap.size, 1, none⟩ = some (.int .i64 q2) ∧ y.cell? ⟨w.heap.size, 0, none⟩ = some (.int .i64 S) ∧ y.cell? ⟨w.heap.size, 1, none⟩ = some (.int .i64 n) ∧ y.cell? ⟨w.heap.size + 1 + 1, 0, none⟩ = some (.int .i64 U) ∧ y.cell? ⟨w.heap.size + 1 + 1, 1, none⟩ = some (.int .i64 k) ∧ Below w.heap.size w y := by
    rintro x y ⟨h1, h2, h3, h4, h5, h6, h7, h8, h9⟩ hxy
    exact ⟨cell_on h1 hxy, cell_on h2 hxy, cell_on h3 hxy, cell_on h4 hxy, cell_on h5 hxy, cell_on h6 hxy, cell_on h7 hxy, cell_on h8 hxy, h9.trans (hxy.mono h9.size)⟩
  have HS1 := Lib.hid S1
  clear S1
  go_wp2_with fail
  rcases (show (p1 = q1 ∧ p2 < q2) ∨ (p1 = q1 ∧ q2 < p2) ∨ p1 < q1 ∨ q1 < p1 ∨ (p1 = q1 ∧ p2 = q2) by omega) with ⟨g1, g2⟩ | ⟨g1, g2⟩ | g1 | g1 | ⟨g1, g2⟩
  case' inl =>
    have e1 : lexB (p1, p2) (q1, q2) = true := by unfold lexB; simp; omega
    have e2 : lexB (q1, q2) (p1, p2) = false := by unfold lexB; simp; omega
    have k1 : (p1 == q1) = true := by simpa using g1
    have k2 : (p2 == q2) = false := by simp; omega
  case' inr.inl =>
    have e1 : lexB (p1, p2) (q1, q2) = false := by unfold lexB; simp; omega
    have e2 : lexB (q1, q2) (p1, p2) = true := by unfold lexB; simp; omega
    have k1 : (p1 == q1) = true := by simpa using g1
    have k2 : (p2 == q2) = false := by simp; omega
  case' inr.inr.inl =>
    have e1 : lexB (p1, p2) (q1, q2) = true := by unfold lexB; simp; omega
    have e2 : lexB (q1, q2) (p1, p2) = false := by unfold lexB; simp; omega
    have k1 : (p1 == q1) = false := by simp; omega
  case' inr.inr.inr.inl =>
    have e1 : lexB (p1, p2) (q1, q2) = false := by unfold lexB; simp; omega
    have e2 : lexB (q1, q2) (p1, p2) = true := by unfold lexB; simp; omega
    have k1 : (p1 == q1) = false := by simp; omega
  case' inr.inr.inr.inr =>
    have e1 : lexB (p1, p2) (q1, q2) = false := by unfold lexB; simp; omega
    have e2 : lexB (q1, q2) (p1, p2) = false := by unfold lexB; simp; omega
    have k1 : (p1 == q1) = true := by simpa using g1
    have k2 : (p2 == q2) = true := by simpa using g2
  all_goals
    rcases e3 : lexB (q1, q2) (r1, r2) with _ | _
    all_goals
      try rw [lexB_trans e1 e3] at HD4
      rw [e1, e2]
      clear e1 e2 e3 g1
      try clear g2
      obtain ⟨C, hC⟩ : ∃ C : World → Prop, C = fun w' => w'.cell? ⟨w1.heap.size, 0, none⟩ = some (.int .i64 p1) ∧ w'.cell? ⟨w1.heap.size, 1, none⟩ = some (.int .i64 p2) ∧ w'.cell? ⟨w2.heap.size, 0, none⟩ = some (.int .i64 q1) ∧ w'.cell? ⟨w2.heap.size, 1, none⟩ = some (.int .i64 q2) ∧ w'.cell? ⟨w.heap.size, 0, none⟩ = some (.int .i64 S) ∧ w'.cell? ⟨w.heap.size, 1, none⟩ = some (.int .i64 n) ∧ w'.cell? ⟨w.heap.size + 1 + 1, 0, none⟩ = some (.int .i64 U) ∧ w'.cell? ⟨w.heap.size + 1 + 1, 1, none⟩ = some (.int .i64 k) ∧ Below w.heap.size w w' := ⟨_, rfl⟩
      have hC0 : C w5.drew := by rw [hC]; exact ⟨c0, c1, d0, d1, f0, f1, i0, i1, below_drew' b7⟩
      have HCF : Hid (∀ W, C W → W.cell? ⟨w1.heap.size, 0, none⟩ = some (.int .i64 p1) ∧ W.cell? ⟨w1.heap.size, 1, none⟩ = some (.int .i64 p2) ∧ W.cell? ⟨w2.heap.size, 0, none⟩ = some (.int .i64 q1) ∧ W.cell? ⟨w2.heap.size, 1, none⟩ = some (.int .i64 q2) ∧ W.cell? ⟨w.heap.size, 0, none⟩ = some (.int .i64 S) ∧ W.cell? ⟨w.heap.size, 1, none⟩ = some (.int .i64 n) ∧ W.cell? ⟨w.heap.size + 1 + 1, 0, none⟩ = some (.int .i64 U) ∧ W.cell? ⟨w.heap.size + 1 + 1, 1, none⟩ = some (.int .i64 k) ∧ Below w.heap.size w W) := Lib.hid (fun W h => by rw [hC] at h; exact h)
      have HCS : Hid (∀ x y, C x → Below x.heap.size x y → C y) := Lib.hid (by rw [hC]; exact HS1.out)
      clear hC
      refine wp_region_class C (by kernel_rfl) (by kernel_rfl) hC0 ?_
      clear hC0
      repeat
        refine wpQuiet_step (fun K hK => ?_)
        go_simp
        first
          | (refine hK _ ?_; clear hK K)
          | (apply Exists.intro
             refine ⟨fun W hW => ?_, hK _ ?_⟩
             · first
                 | with_reducible rfl
                 | (obtain ⟨m0, m1, m2, m3, m4, m5, m6, m7, m8⟩ := HCF.out W hW; go_simp; done)
                 | (obtain ⟨m0, m1, m2, m3, m4, m5, m6, m7, m8⟩ := HCF.out W hW; go_simp; with_reducible rfl)
                 | (go_at_call 11; refine (HK.out _ (HCF.out W hW).2.2.2.2.2.2.2.2.size (HT.out.on (HCF.out W hW).2.2.2.2.2.2.2.2)).mono ?_; rintro e w' ⟨rfl, hb1⟩; exact ⟨rfl, HCS.out _ _ hW hb1⟩)
                 | (go_at_call 18; refine (HD4.out _).mono ?_; rintro e w' ⟨rfl, hb1⟩; exact ⟨rfl, HCS.out _ _ hW hb1⟩)
                 | (go_at_call 16; refine (H5.out _).mono ?_; rintro e w' ⟨rfl, hb1⟩; exact ⟨rfl, HCS.out _ _ hW hb1⟩)
             clear hK K)
      refine wpQuiet_nil ?_
      intro w9 hw9
      have hbz := (HCF.out w9 hw9).2.2.2.2.2.2.2.2
      clear hw9 HCF HCS
      go_wp2
      go_ret
      exact ⟨rfl, hbz⟩
end Go.Proofs.YtahhgphlfodonaaDoor
