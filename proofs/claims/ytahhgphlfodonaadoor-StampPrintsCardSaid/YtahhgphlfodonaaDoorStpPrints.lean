/-
  Print, Norm and Less are what the chapter says: the walk.
-/
import Derived.Test.YtahhgphlfodonaaDoorStpPrintR
import Derived.Test.YtahhgphlfodonaaDoorStpLessR
import Derived.Test.YtahhgphlfodonaaDoorStpKnown
import Derived.Test.YtahhgphlfodonaaDoorStpClass
namespace Go.Proofs.YtahhgphlfodonaaDoor
open Go.RowKit Go.Shelf

theorem box_cells {w : World} {g : Nat} {S n : Int} (h : BoxT w g (S, n)) : w.cell? ⟨g, 0, none⟩ = some (.int .i64 S) ∧ w.cell? ⟨g, 1, none⟩ = some (.int .i64 n) := ⟨h.cell0, h.cell1⟩
theorem cell_on {x y : World} {p : Addr} {v : Value} (h : x.cell? p = some v) (hxy : Below x.heap.size x y) : y.cell? p = some v := (hxy.cell (World.block_lt_of_cell? _ _ h)).trans h

set_option maxRecDepth 100000 in
set_option maxHeartbeats 8000000 in
theorem stampPrints_any (S n T m k s : Int) (w : World) (hk : 0 ≤ k ∧ k ≤ 4294967295) (hs : -32768 ≤ s ∧ s ≤ 32767) (ht : TB w.heap.size w) :
    Calls Tryd.prog 6 #[.agg #[.int .i64 S, .int .i64 n], .agg #[.int .i64 T, .int .i64 m], .int .u32 k, .int .i16 s] w fun e w' => e = .returned (.bool true) ∧ Below w.heap.size w w' := by
  obtain ⟨hk1, hk2⟩ := hk
  obtain ⟨hs1, hs2⟩ := hs
  obtain ⟨N1, hN1⟩ : ∃ N1, k % 1000000001 = N1 := ⟨_, rfl⟩
  obtain ⟨N2, hN2⟩ : ∃ N2, k / 7 = N2 := ⟨_, rfl⟩
  obtain ⟨S2, hS2⟩ : ∃ S2, s.tdiv 100 = S2 := ⟨_, rfl⟩
  have hS3 : -327 ≤ S2 ∧ S2 ≤ 327 := by
    have h1 := Int.natAbs_tdiv s 100
    rw [hS2] at h1
    have h2 : (100 : Int).natAbs = 100 := rfl
    have h3 : s.natAbs.div 100 = s.natAbs / 100 := rfl
    rw [h2, h3] at h1
    omega
  obtain ⟨hS4, hS5⟩ := hS3
  have HT := Lib.hid ht
  have HK := Lib.hid (fun W h1 h2 => known_any w.heap.size W h1 h2)
  have HP := Lib.hid (fun (a b : Int) (W : World) (h : Below w.heap.size w W) => print_any a b w.heap.size W h.size (ht.on h))
  have HQ := Lib.hid (fun (a b : Int) (W : World) (h : Below w.heap.size w W) => refPrint_any a b w.heap.size W h.size (ht.on h))
  have HN := Lib.hid (fun (a b : Int) (W : World) => norm_any a b W)
  have HM := Lib.hid (fun (a b : Int) (W : World) => refNorm_any a b W)
  have HL := Lib.hid (fun (a b c d : Int) (W : World) => less_any a b c d W)
  have HO := Lib.hid (fun (a b c d : Int) (W : World) => refLess_any a b c d W)
  clear ht
  unfold TimeIs tv at HN HM
  unfold TextIs at HP HQ
  go_enter Tryd.func6, Tryd.ntmps6
  go_wp2_with fail
  have x0 := (BoxT.new w (S, n)).alloc (.cells #[.int .i64 T, .int .i64 m] 25)
  have y0 := box2 w (.cells #[.int .i64 S, .int .i64 n] 25) (T, m)
  have b0 := below2 w (.cells #[.int .i64 S, .int .i64 n] 25) (.cells #[.int .i64 T, .int .i64 m] 25)
  dsimp only at x0 y0
  refine (HK.out _ b0.size (HT.out.on b0)).mono ?_
  rintro e w1 ⟨rfl, hb1⟩
  have b1 := b0.trans (hb1.mono b0.size)
  have x1 := x0.below hb1 x0.lt
  have y1 := y0.below hb1 y0.lt
  clear x0 y0 b0 hb1
  go_wp2_with fail
  obtain ⟨c0, c1⟩ := box_cells ((x1.alloc (.cells #[.int .i64 s, .int .i64 N1] 25)).alloc (.cells #[.int .i64 S2, .int .i64 N2] 25))
  obtain ⟨d0, d1⟩ := box_cells ((y1.alloc (.cells #[.int .i64 s, .int .i64 N1] 25)).alloc (.cells #[.int .i64 S2, .int .i64 N2] 25))
  obtain ⟨f0, f1⟩ := box_cells ((BoxT.new w1 (s, N1)).alloc (.cells #[.int .i64 S2, .int .i64 N2] 25))
  obtain ⟨i0, i1⟩ := box_cells (box2 w1 (.cells #[.int .i64 s, .int .i64 N1] 25) (S2, N2))
  have b2 := (b1.alloc b1.size (.cells #[.int .i64 s, .int .i64 N1] 25)).alloc (by have := b1.size; simp; omega) (.cells #[.int .i64 S2, .int .i64 N2] 25)
  obtain ⟨C, hC⟩ : ∃ C : World → Prop, C = fun w' => w'.cell? ⟨w.heap.size, 0, none⟩ = some (.int .i64 S) ∧ w'.cell? ⟨w.heap.size, 1, none⟩ = some (.int .i64 n) ∧ w'.cell? ⟨w.heap.size + 1, 0, none⟩ = some (.int .i64 T) ∧ w'.cell? ⟨w.heap.size + 1, 1, none⟩ = some (.int .i64 m) ∧ w'.cell? ⟨w1.heap.size, 0, none⟩ = some (.int .i64 s) ∧ w'.cell? ⟨w1.heap.size, 1, none⟩ = some (.int .i64 N1) ∧ w'.cell? ⟨w1.heap.size + 1, 0, none⟩ = some (.int .i64 S2) ∧ w'.cell? ⟨w1.heap.size + 1, 1, none⟩ = some (.int .i64 N2) ∧ Below w.heap.size w w' := ⟨_, rfl⟩
  have hC0 : C ((w1.alloc (.cells #[.int .i64 s, .int .i64 N1] 25)).alloc (.cells #[.int .i64 S2, .int .i64 N2] 25)).drew := by rw [hC]; exact ⟨c0, c1, d0, d1, f0, f1, i0, i1, below_drew' b2⟩
  have HCF : Hid (∀ W, C W → W.cell? ⟨w.heap.size, 0, none⟩ = some (.int .i64 S) ∧ W.cell? ⟨w.heap.size, 1, none⟩ = some (.int .i64 n) ∧ W.cell? ⟨w.heap.size + 1, 0, none⟩ = some (.int .i64 T) ∧ W.cell? ⟨w.heap.size + 1, 1, none⟩ = some (.int .i64 m) ∧ W.cell? ⟨w1.heap.size, 0, none⟩ = some (.int .i64 s) ∧ W.cell? ⟨w1.heap.size, 1, none⟩ = some (.int .i64 N1) ∧ W.cell? ⟨w1.heap.size + 1, 0, none⟩ = some (.int .i64 S2) ∧ W.cell? ⟨w1.heap.size + 1, 1, none⟩ = some (.int .i64 N2) ∧ Below w.heap.size w W) := Lib.hid (fun W h => by rw [hC] at h; exact h)
  have HCB : Hid (∀ W, C W → Below w.heap.size w W) := Lib.hid (fun W h => (HCF.out W h).2.2.2.2.2.2.2.2)
  have HCS : Hid (∀ x y, C x → Below x.heap.size x y → C y) := Lib.hid (by
    rw [hC]
    rintro x y ⟨h1, h2, h3, h4, h5, h6, h7, h8, h9⟩ hxy
    exact ⟨cell_on h1 hxy, cell_on h2 hxy, cell_on h3 hxy, cell_on h4 hxy, cell_on h5 hxy, cell_on h6 hxy, cell_on h7 hxy, cell_on h8 hxy, h9.trans (hxy.mono h9.size)⟩)
  have HCD : Hid (∀ x, C x → C x.drew) := Lib.hid (by
    rw [hC]
    rintro x ⟨h1, h2, h3, h4, h5, h6, h7, h8, h9⟩
    exact ⟨h1, h2, h3, h4, h5, h6, h7, h8, below_drew' h9⟩)
  clear hC x1 y1 c0 c1 d0 d1 f0 f1 i0 i1
  refine wp_region_class C (by kernel_rfl) (by kernel_rfl) hC0 ?_
  clear hC0
  repeat
    refine wpQuiet_step (fun K hK => ?_)
    go_simp
    first
      | (refine hK _ ?_; clear hK K)
      | (apply Exists.intro
         refine ⟨fun W hW => ?_, hK _ ?_⟩
         · first
             | with_reducible rfl
             | (obtain ⟨m0, m1, m2, m3, m4, m5, m6, m7, m8⟩ := HCF.out W hW; go_simp; done)
             | (obtain ⟨m0, m1, m2, m3, m4, m5, m6, m7, m8⟩ := HCF.out W hW; go_simp; with_reducible rfl)
             | (go_at_call 12; refine (HP.out _ _ _ (HCB.out W hW)).mono ?_; rintro e w' ⟨rfl, hb1⟩; exact ⟨rfl, HCS.out _ _ hW hb1⟩)
             | (go_at_call 15; refine (HQ.out _ _ _ (HCB.out W hW)).mono ?_; rintro e w' ⟨rfl, hb1⟩; exact ⟨rfl, HCS.out _ _ hW hb1⟩)
             | (go_at_call 16; refine (HN.out _ _ _).mono ?_; rintro e w' ⟨rfl, hb1⟩; exact ⟨rfl, HCS.out _ _ hW hb1⟩)
             | (go_at_call 17; refine (HM.out _ _ _).mono ?_; rintro e w' ⟨rfl, hb1⟩; exact ⟨rfl, HCS.out _ _ hW hb1⟩)
             | (go_at_call 18; refine (HL.out _ _ _ _ _).mono ?_; rintro e w' ⟨rfl, hb1⟩; exact ⟨rfl, HCS.out _ _ hW hb1⟩)
             | (go_at_call 19; refine (HO.out _ _ _ _ _).mono ?_; rintro e w' ⟨rfl, hb1⟩; exact ⟨rfl, HCS.out _ _ hW hb1⟩)
         clear hK K)
  refine wpQuiet_nil ?_
  intro w8 hw8
  go_wp2_with fail
  refine wp_region_class C (by kernel_rfl) (by kernel_rfl) (HCD.out _ hw8) ?_
  repeat
    refine wpQuiet_step (fun K hK => ?_)
    go_simp
    first
      | (refine hK _ ?_; clear hK K)
      | (apply Exists.intro
         refine ⟨fun W hW => ?_, hK _ ?_⟩
         · first
             | with_reducible rfl
             | (obtain ⟨m0, m1, m2, m3, m4, m5, m6, m7, m8⟩ := HCF.out W hW; go_simp; done)
             | (obtain ⟨m0, m1, m2, m3, m4, m5, m6, m7, m8⟩ := HCF.out W hW; go_simp; with_reducible rfl)
             | (go_at_call 12; refine (HP.out _ _ _ (HCB.out W hW)).mono ?_; rintro e w' ⟨rfl, hb1⟩; exact ⟨rfl, HCS.out _ _ hW hb1⟩)
             | (go_at_call 15; refine (HQ.out _ _ _ (HCB.out W hW)).mono ?_; rintro e w' ⟨rfl, hb1⟩; exact ⟨rfl, HCS.out _ _ hW hb1⟩)
             | (go_at_call 16; refine (HN.out _ _ _).mono ?_; rintro e w' ⟨rfl, hb1⟩; exact ⟨rfl, HCS.out _ _ hW hb1⟩)
             | (go_at_call 17; refine (HM.out _ _ _).mono ?_; rintro e w' ⟨rfl, hb1⟩; exact ⟨rfl, HCS.out _ _ hW hb1⟩)
             | (go_at_call 18; refine (HL.out _ _ _ _ _).mono ?_; rintro e w' ⟨rfl, hb1⟩; exact ⟨rfl, HCS.out _ _ hW hb1⟩)
             | (go_at_call 19; refine (HO.out _ _ _ _ _).mono ?_; rintro e w' ⟨rfl, hb1⟩; exact ⟨rfl, HCS.out _ _ hW hb1⟩)
         clear hK K)
  refine wpQuiet_nil ?_
  intro w9 hw9
  have hbz := HCB.out w9 hw9
  clear hw9 hw8 HCF HCS HCB HCD
  go_wp2
  go_ret
  exact ⟨rfl, hbz⟩
end Go.Proofs.YtahhgphlfodonaaDoor
