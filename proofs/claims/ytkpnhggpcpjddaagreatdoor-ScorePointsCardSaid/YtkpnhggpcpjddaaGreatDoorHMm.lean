/-
  Texts of one chapter, merged.
-/
import Derived.Test.YtkpnhggpcpjddaaGreatDoorHdInts
import Derived.Test.YtkpnhggpcpjddaaGreatDoorHMl
import Derived.Test.YtkpnhggpcpjddaaGreatDoorHdPrintW
import Derived.Deep.CutRange
import Derived.StillTailTactics
import Derived.Test.YtkpnhggpcpjddaaGreatDoorHMs
set_option linter.unusedVariables false
set_option linter.unusedSimpArgs false
/-! The document's numbers, as far as its bytes are bytes. -/
namespace Go.Proofs.YtkpnhggpcpjddaaGreatDoor
open Go.RowKit Go.Lib

/-- A number, the place where it is laid, and how wide. -/
def fL (x : Int × Nat × Nat) : Int := x.1
def fT (x : Int × Nat × Nat) : Int := ((x.2.1 : Nat) : Int)
def fD (x : Int × Nat × Nat) : Int := ((x.2.2 : Nat) : Int)
def FitN (x : Int × Nat × Nat) : Prop := (-9223372036854775808 ≤ x.1 ∧ x.1 ≤ 9223372036854775807) ∧ x.2.1 + x.2.2 ≤ 512 ∧ x.2.2 ≤ 12
/-- The three rows under way. -/
structure NS (w W : World) (h : M.Hdr) (pv vl va vd : Value) (N : Nat) (q : List (Int × Nat × Nat)) : Prop where
  l : OwnI W (w.heap.size + 1) vl (q.map fL)
  a : OwnI W (w.heap.size + 1) va (q.map fT)
  d : OwnI W (w.heap.size + 1) vd (q.map fD)
  la : Apt vl va
  ld : Apt vl vd
  ad : Apt va vd
  fit : ∀ x ∈ q, FitN x
  few : q.length ≤ N
  some_ : 0 < q.length
  box : HB W w.heap.size h pv
  below : Below w.heap.size w W
theorem NS.base {w W : World} {h : M.Hdr} {pv vl va vd : Value} {N : Nat} {q : List (Int × Nat × Nat)} (s : NS w W h pv vl va vd N q) : w.heap.size + 1 ≤ W.heap.size := HB.lt s.box
theorem NS.mono {w W : World} {h : M.Hdr} {pv vl va vd : Value} {N N' : Nat} {q : List (Int × Nat × Nat)} (s : NS w W h pv vl va vd N q) (hN : N ≤ N') : NS w W h pv vl va vd N' q := { s with few := Nat.le_trans s.few hN }
theorem NS.drew {w W : World} {h : M.Hdr} {pv vl va vd : Value} {N : Nat} {q : List (Int × Nat × Nat)} (s : NS w W h pv vl va vd N q) : NS w W.drew h pv vl va vd N q :=
  ⟨s.l, s.a, s.d, s.la, s.ld, s.ad, s.fit, s.few, s.some_, s.box, ⟨s.below.os, s.below.tape, s.below.output, s.below.size, s.below.block⟩⟩
theorem grown_low {B : Nat} {w w' : World} {base : Nat} {v : Value} {zs : List Int} (hg : w.grownBy w' v.ownBlock) (ho : OwnI w base v zs) (hB : B ≤ base) (hW : B ≤ w.heap.size) : Below B w w' :=
  ⟨hg.os, hg.tape, hg.output, hg.size, fun k hk => hg.block k (by omega) (fun e => by have := (World.ownsRow.lt ho k e.symm).1; omega)⟩
theorem below_al {B : Nat} {W : World} (o : Obj) (h : B ≤ W.heap.size) : Below B W (W.alloc o) := (Below.refl _ _).alloc h o

section
variable {w W w1 w2 w3 : World} {h : M.Hdr} {pv vl va vd v1 v2 v3 : Value} {N : Nat} {q : List (Int × Nat × Nat)} {cs1 cs2 cs3 : Array Value} {z1 z2 z3 : List Int}
theorem NS.a1 (s : NS w W h pv vl va vd N q) (g1 : (W.alloc (.cells cs1 3)).grownBy w1 vl.ownBlock) : OwnI w1 (w.heap.size + 1) va (q.map fT) := (s.a.alloc _).keep g1 s.la
theorem NS.b1 (s : NS w W h pv vl va vd N q) (g1 : (W.alloc (.cells cs1 3)).grownBy w1 vl.ownBlock) : w.heap.size + 1 ≤ w1.heap.size := Nat.le_trans s.base (Nat.le_trans (by simp) g1.size)
theorem NS.d2 (s : NS w W h pv vl va vd N q) (g1 : (W.alloc (.cells cs1 3)).grownBy w1 vl.ownBlock) (g2 : (w1.alloc (.cells cs2 3)).grownBy w2 va.ownBlock) : OwnI w2 (w.heap.size + 1) vd (q.map fD) :=
  (((s.d.alloc _).keep g1 s.ld).alloc _).keep g2 s.ad
theorem NS.b2 (s : NS w W h pv vl va vd N q) (g1 : (W.alloc (.cells cs1 3)).grownBy w1 vl.ownBlock) (g2 : (w1.alloc (.cells cs2 3)).grownBy w2 va.ownBlock) : w.heap.size + 1 ≤ w2.heap.size := Nat.le_trans (s.b1 g1) (Nat.le_trans (by simp) g2.size)
theorem NS.len (s : NS w W h pv vl va vd N q) (f : Int × Nat × Nat → Int) {m : Nat} (hm : N + m ≤ 1000000) : (q.map f).length + m ≤ 1000000 := by rw [List.length_map]; have := s.few; omega
theorem NS.more (s : NS w W h pv vl va vd N q) (news : List (Int × Nat × Nat)) (e1 : z1 = news.map fL) (e2 : z2 = news.map fT) (e3 : z3 = news.map fD)
    (o1 : OwnI w1 (w.heap.size + 1) v1 (q.map fL ++ z1)) (g1 : (W.alloc (.cells cs1 3)).grownBy w1 vl.ownBlock) (c1 : v1.ownBlock = vl.ownBlock ∨ v1.ownBlock = some (W.heap.size + 1))
    (o2 : OwnI w2 (w.heap.size + 1) v2 (q.map fT ++ z2)) (g2 : (w1.alloc (.cells cs2 3)).grownBy w2 va.ownBlock) (c2 : v2.ownBlock = va.ownBlock ∨ v2.ownBlock = some (w1.heap.size + 1))
    (o3 : OwnI w3 (w.heap.size + 1) v3 (q.map fD ++ z3)) (g3 : (w2.alloc (.cells cs3 3)).grownBy w3 vd.ownBlock) (c3 : v3.ownBlock = vd.ownBlock ∨ v3.ownBlock = some (w2.heap.size + 1))
    (hf : ∀ x ∈ news, FitN x) : NS w w3 h pv v1 v2 v3 (N + news.length) (q ++ news) := by
  subst e1 e2 e3
  have la1 : Apt v1 va := Apt.next s.a c1 s.la
  have ld1 : Apt v1 vd := Apt.next s.d c1 s.ld
  have la2 : Apt v2 v1 := Apt.next o1 c2 la1.swap
  have ad2 : Apt v2 vd := Apt.next (((s.d.alloc _).keep g1 s.ld)) c2 s.ad
  have o1' : OwnI w2 (w.heap.size + 1) v1 (q.map fL ++ news.map fL) := (o1.alloc _).keep g2 la1.swap
  have ld3 : Apt v3 v1 := Apt.next o1' c3 ld1.swap
  have ad3 : Apt v3 v2 := Apt.next o2 c3 ad2.swap
  have bs := s.base
  have w1s := s.b1 g1
  have w2s : w.heap.size + 1 ≤ w2.heap.size := Nat.le_trans w1s (Nat.le_trans (by simp) g2.size)
  have bl : Below (w.heap.size + 1) W w3 :=
    (((((below_al _ bs).trans (grown_low g1 (s.l.alloc _) (Nat.le_refl _) (by simp; omega))).trans (below_al _ w1s)).trans (grown_low g2 ((s.a1 g1).alloc _) (Nat.le_refl _) (by simp; omega))).trans (below_al _ w2s)).trans (grown_low g3 ((s.d2 g1 g2).alloc _) (Nat.le_refl _) (by simp; omega))
  refine ⟨?_, ?_, ?_, la2.swap, ld3.swap, ad3.swap, ?_, ?_, ?_, HB.below s.box bl (Nat.lt_succ_self _), s.below.trans (bl.mono (Nat.le_succ _))⟩
  · rw [List.map_append]; exact (o1'.alloc _).keep g3 ld1.swap
  · rw [List.map_append]; exact (o2.alloc _).keep g3 ad2.swap
  · rw [List.map_append]; exact o3
  · intro x hx
    rcases List.mem_append.1 hx with hx | hx
    · exact s.fit x hx
    · exact hf x hx
  · rw [List.length_append]; have := s.few; omega
  · rw [List.length_append]; have := s.some_; omega
end
def NSx (w W : World) (h : M.Hdr) (pv x y z : Value) (N : Nat) : Prop := ∃ q, NS w W h pv x y z N q
theorem NS.forms {w W : World} {h : M.Hdr} {pv vl va vd : Value} {N : Nat} {q : List (Int × Nat × Nat)} (s : NS w W h pv vl va vd N q) (g : Nat) (hg : g < w.heap.size) :
    ∃ gl cl ga ca gd cd, vl = .slice (some ⟨gl, 0, none⟩) q.length cl ∧ va = .slice (some ⟨ga, 0, none⟩) q.length ca ∧ vd = .slice (some ⟨gd, 0, none⟩) q.length cd ∧
      Hid (∀ V, But g W V → ∀ (j : Nat) (x : Int × Nat × Nat), q[j]? = some x → V.cell? ⟨gl, j, none⟩ = some (.int .i64 x.1) ∧ V.cell? ⟨ga, j, none⟩ = some (.int .i64 ((x.2.1 : Nat) : Int)) ∧ V.cell? ⟨gd, j, none⟩ = some (.int .i64 ((x.2.2 : Nat) : Int))) := by
  obtain ⟨gl, cl, e1, l1, b1, h1⟩ := s.l.form (by rw [List.length_map]; exact s.some_)
  obtain ⟨ga, ca, e2, l2, b2, h2⟩ := s.a.form (by rw [List.length_map]; exact s.some_)
  obtain ⟨gd, cd, e3, l3, b3, h3⟩ := s.d.form (by rw [List.length_map]; exact s.some_)
  rw [List.length_map] at e1 e2 e3
  refine ⟨gl, cl, ga, ca, gd, cd, e1, e2, e3, hid fun V hV j x hx => ⟨?_, ?_, ?_⟩⟩
  · rw [World.cell?_of_block (hV.block gl l1 (by omega))]; exact h1 j _ (by rw [List.getElem?_map, hx]; rfl)
  · rw [World.cell?_of_block (hV.block ga l2 (by omega))]; exact h2 j _ (by rw [List.getElem?_map, hx]; rfl)
  · rw [World.cell?_of_block (hV.block gd l3 (by omega))]; exact h3 j _ (by rw [List.getElem?_map, hx]; rfl)

set_option maxRecDepth 100000 in
set_option maxHeartbeats 4000000 in
theorem refNumbers_any (g : Nat) (h : M.Hdr) (A : Option Addr) (c : Nat) (w : World) (hb : B512 w g) (hi : HIn w h (.slice A h.parts.length c)) (h4 : h.parts.length ≤ 4) :
    Calls Tryz.prog 32 #[.slice (some ⟨g, 0, none⟩) 512 512, .agg (hcells h (.slice A h.parts.length c))] w (LaidTo g w) := by
  have HX := hid hb
  have HI := hid hi
  have H4 := hid h4
  clear hb hi h4
  generalize hn : h.parts.length = n at *
  have HN := hid hn
  clear hn
  have B1 := hid (HB.new w h (.slice A n c))
  have k1 := HB.cell B1.out (i := 1) (v := .int .i64 h.mode) rfl
  have k2 := HB.cell B1.out (i := 2) (v := .int .i64 h.uid) rfl
  have k3 := HB.cell B1.out (i := 3) (v := .int .i64 h.gid) rfl
  have k4 := HB.cell B1.out (i := 4) (v := .int .i64 h.size) rfl
  have k5 := HB.cell B1.out (i := 5) (v := .int .i64 h.mtime) rfl
  have HF := hid (four_new w (.cells (hcells h (.slice A n c)) 33) (.cells #[.int .i64 h.mode, .int .i64 h.uid, .int .i64 h.gid, .int .i64 h.size, .int .i64 h.mtime] 3)
    (.cells #[.int .i64 100, .int .i64 108, .int .i64 116, .int .i64 124, .int .i64 136] 3) (.cells #[.int .i64 8, .int .i64 8, .int .i64 8, .int .i64 12, .int .i64 12] 3))
  clear B1
  go_enter Tryz.func32, Tryz.ntmps32
  go_upto_region 4 with fail
  clear k1 k2 k3 k4 k5
  generalize World.alloc (World.alloc (World.alloc (World.alloc w _) _) _) _ = W at *
  have S0 : Hid (NS w W h (.slice A n c) (.slice (some ⟨w.heap.size + 1, 0, none⟩) 5 5) (.slice (some ⟨w.heap.size + 1 + 1, 0, none⟩) 5 5) (.slice (some ⟨w.heap.size + 1 + 1 + 1, 0, none⟩) 5 5) 5 [(h.mode, 100, 8), (h.uid, 108, 8), (h.gid, 116, 8), (h.size, 124, 12), (h.mtime, 136, 12)]) := hid (by
    obtain ⟨r1, r2, r3, r4, rb, _⟩ := HF.out
    obtain ⟨i1, i2, i3, i4, i5, _⟩ := HI.out.ints
    refine ⟨OwnI.lit _ _ _ rfl r2 (Nat.le_refl _) (show (5 : Nat) ≤ 1000000 by decide), OwnI.lit _ _ _ rfl r3 (by omega) (show (5 : Nat) ≤ 1000000 by decide), OwnI.lit _ _ _ rfl r4 (by omega) (show (5 : Nat) ≤ 1000000 by decide), .inr ?_, .inr ?_, .inr ?_, ?_, Nat.le_refl _, Nat.succ_pos _, r1, rb⟩
    · intro e; have := Option.some.inj e; dsimp only at this; omega
    · intro e; have := Option.some.inj e; dsimp only at this; omega
    · intro e; have := Option.some.inj e; dsimp only at this; omega
    · intro x hx
      simp only [List.mem_cons, List.not_mem_nil, or_false] at hx
      rcases hx with rfl | rfl | rfl | rfl | rfl
      · exact ⟨i1, Nat.le_of_ble_eq_true rfl, Nat.le_of_ble_eq_true rfl⟩
      · exact ⟨i2, Nat.le_of_ble_eq_true rfl, Nat.le_of_ble_eq_true rfl⟩
      · exact ⟨i3, Nat.le_of_ble_eq_true rfl, Nat.le_of_ble_eq_true rfl⟩
      · exact ⟨i4, Nat.le_of_ble_eq_true rfl, Nat.le_of_ble_eq_true rfl⟩
      · exact ⟨i5, Nat.le_of_ble_eq_true rfl, Nat.le_of_ble_eq_true rfl⟩)
  clear HF
  have k8 := HB.cell S0.out.box (i := 8) (v := .int .i64 h.way) rfl
  have k11 := HB.cell S0.out.box (i := 11) (v := .int .i64 h.major) rfl
  have k12 := HB.cell S0.out.box (i := 12) (v := .int .i64 h.minor) rfl
  go_upto_if 28 with fail
  generalize decide (0 < h.way) = bw
  go_cut [6, 7, 8] from 29 to 41 (fun x y z wx => NSx w wx h (.slice A n c) x y z 7)
  case first =>
    cases bw
    · go_wp2_with fail
      go_meet
      case rel => exact ⟨_, S0.out.mono (by decide)⟩
    · go_wp2_with (first
        | (refine wpList_appI rfl (.tmp 29) (.tmp 34) rfl (w.heap.size + 1) _ _ [h.major, h.minor] _ rfl 2 rfl (by simp [Act.eval]) S0.out.l S0.out.base (by simp [Act.eval]) (S0.out.len (m := 2) _ (by decide)) ?_; intro v1 w1 o1 g1 c1)
        | (refine wpList_appI rfl (.tmp 36) (.tmp 37) rfl (w.heap.size + 1) _ _ [329, 337] _ rfl 2 rfl (by simp [Act.eval]) (S0.out.a1 g1.out) (S0.out.b1 g1.out) (by simp [Act.eval]) (S0.out.len (m := 2) _ (by decide)) ?_; intro v2 w2 o2 g2 c2)
        | (refine wpList_appI rfl (.tmp 39) (.tmp 40) rfl (w.heap.size + 1) _ _ [8, 8] _ rfl 2 rfl (by simp [Act.eval]) (S0.out.d2 g1.out g2.out) (S0.out.b2 g1.out g2.out) (by simp [Act.eval]) (S0.out.len (m := 2) _ (by decide)) ?_; intro v3 w3 o3 g3 c3))
      go_meet
      case rel => exact ⟨_, S0.out.more [(h.major, 329, 8), (h.minor, 337, 8)] rfl rfl rfl o1.out g1.out c1.out o2.out g2.out c2.out o3.out g3.out c3.out (by
        obtain ⟨_, _, _, _, _, i6, i7, _⟩ := HI.out.ints
        intro x hx
        simp only [List.mem_cons, List.not_mem_nil, or_false] at hx
        rcases hx with rfl | rfl
        · exact ⟨i6, Nat.le_of_ble_eq_true rfl, Nat.le_of_ble_eq_true rfl⟩
        · exact ⟨i7, Nat.le_of_ble_eq_true rfl, Nat.le_of_ble_eq_true rfl⟩)⟩
  case rest =>
    clear k8 k11 k12 S0
    obtain ⟨q1, s1⟩ := hcut
    have S1 := hid s1
    clear s1
    have k6 := HB.cell S1.out.box (i := 6) (v := .int .u8 h.kind) rfl
    have k16 := HB.cell S1.out.box (i := 16) (v := .int .i64 h.real) rfl
    go_upto_if 44 with fail
    generalize (h.kind == 83) = bk
    go_cut [6, 7, 8, 9] from 45 to 89 (fun x y z _ wx => NSx w wx h (.slice A n c) x y z 16)
    case first =>
      cases bk
      · go_wp2_with fail
        go_meet
        case rel => exact ⟨_, S1.out.mono (by decide)⟩
      · go_upto_region 12 with (first
          | (refine wpList_appI rfl (.tmp 45) (.tmp 48) rfl (w.heap.size + 1) _ _ [h.real] _ rfl 1 rfl (by simp [Act.eval]) S1.out.l S1.out.base (by simp [Act.eval]) (S1.out.len (m := 1) _ (by decide)) ?_; intro v1 w1 o1 g1 c1)
          | (refine wpList_appI rfl (.tmp 50) (.tmp 51) rfl (w.heap.size + 1) _ _ [483] _ rfl 1 rfl (by simp [Act.eval]) (S1.out.a1 g1.out) (S1.out.b1 g1.out) (by simp [Act.eval]) (S1.out.len (m := 1) _ (by decide)) ?_; intro v2 w2 o2 g2 c2)
          | (refine wpList_appI rfl (.tmp 53) (.tmp 54) rfl (w.heap.size + 1) _ _ [12] _ rfl 1 rfl (by simp [Act.eval]) (S1.out.d2 g1.out g2.out) (S1.out.b2 g1.out g2.out) (by simp [Act.eval]) (S1.out.len (m := 1) _ (by decide)) ?_; intro v3 w3 o3 g3 c3))
        have S2 := hid (S1.out.more [(h.real, 483, 12)] rfl rfl rfl o1.out g1.out c1.out o2.out g2.out c2.out o3.out g3.out c3.out (by
          obtain ⟨_, _, _, _, _, _, _, i8⟩ := HI.out.ints
          intro x hx
          simp only [List.mem_cons, List.not_mem_nil, or_false] at hx
          subst hx
          exact ⟨i8, Nat.le_of_ble_eq_true rfl, Nat.le_of_ble_eq_true rfl⟩))
        clear o1 g1 c1 o2 g2 c2 o3 g3 c3 S1 k6 k16
        go_wp2_with fail
        go_loopw [6, 7, 8, 9] (fun x y z i wr => ∃ k : Nat, i = .int .i64 k ∧ k ≤ n ∧ NSx w wr h (.slice A n c) x y z (8 + 2 * k)) (fun _ _ _ i _ => n - (RowKit.intOf i).toNat)
        case atStart => exact ⟨0, rfl, Nat.zero_le _, _, S2.out⟩
        case round =>
          clear S2
          obtain ⟨k, rfl, hk, q, s⟩ := hrel
          have S3 := hid s
          clear s
          have k14 := HB.cell S3.out.box (i := 14) (v := .slice A n c) rfl
          have hk4 : k ≤ 4 := Nat.le_trans hk H4.out
          by_cases hkn : k < n
          · obtain ⟨A', c', he, _, hcells⟩ := PartsB.below HI.out.parts S3.out.below
            injection he with he1 he2 he3
            clear he2
            subst he1 he3
            obtain ⟨ba, oa, rfl, _, hca⟩ := hcells (by rw [HN.out]; omega)
            obtain ⟨⟨p, p2⟩, hpk⟩ : ∃ p, h.parts[k]? = some p := ⟨_, List.getElem?_eq_getElem (by rw [HN.out]; exact hkn)⟩
            have HPN := hid (HI.out.nums _ (List.mem_of_getElem? hpk))
            clear hcells hca
            go_wp2_with fail
            have S4 := hid S3.out.drew
            clear S3 k14
            obtain ⟨A', c', he, _, hcells⟩ := PartsB.below HI.out.parts S4.out.below
            injection he with he1 he2 he3
            clear he2
            subst he1 he3
            obtain ⟨ba', oa', he, hba, hca⟩ := hcells (by rw [HN.out]; omega)
            injection he with he
            injection he with he1 he2
            subst he1 he2
            obtain ⟨a0, a1⟩ := hca k _ hpk
            dsimp only at a0 a1
            rw [show 2 * k = k * 2 by omega] at a0 a1
            have C14 := hid (fun V (hV : Below (w.heap.size + 1) wr.drew V) => (hV.cell (p := ⟨w.heap.size, 14, none⟩) (Nat.lt_succ_self _)).trans (HB.cell S4.out.box (i := 14) (v := .slice (some ⟨ba, oa, none⟩) n c) rfl))
            have CA0 := hid (fun V (hV : Below (w.heap.size + 1) wr.drew V) => (hV.cell (p := ⟨ba, oa + k * 2, none⟩) (Nat.lt_succ_of_lt hba)).trans a0)
            have CA1 := hid (fun V (hV : Below (w.heap.size + 1) wr.drew V) => (hV.cell (p := ⟨ba, oa + k * 2 + 1, none⟩) (Nat.lt_succ_of_lt hba)).trans a1)
            have hS0 : Below (w.heap.size + 1) wr.drew wr.drew := Below.refl _ _
            clear hcells hca hpk a0 a1 hba
            refine wp_region_held_drew (S := fun U => Below (w.heap.size + 1) wr.drew U) (by kernel_rfl) hS0 (fun hS => ?_)
            clear hS0
            generalize hSV : wr.drew = V at *
            clear hSV
            refine takeH (i := 0) (v := ?_) 63 rfl rfl (by kernel_rfl) (by kernel_rfl) (by kernel_rfl) (fun _ _ _ h => h) (by rfl) ?hy0 hS ?rest0
            case hy0 => (intro W hW; clear hW; go_simp; first | done | with_reducible rfl)
            try simp only [Act.put, List.setIfInBounds_toArray, List.set_cons_zero, List.set_cons_succ]
            refine takeH (i := 1) (v := ?_) 64 rfl rfl (by kernel_rfl) (by kernel_rfl) (by kernel_rfl) (fun _ _ _ h => h) (by rfl) ?hy1 hS ?rest1
            case hy1 => (intro W hW; clear hW; go_simp; first | done | with_reducible rfl)
            try simp only [Act.put, List.setIfInBounds_toArray, List.set_cons_zero, List.set_cons_succ]
            refine takeH (i := 2) (v := ?_) 65 rfl rfl (by kernel_rfl) (by kernel_rfl) (by kernel_rfl) (fun _ _ _ h => h) (by rfl) ?hy2 hS ?rest2
            case hy2 => (intro W hW; have f0 := C14.out W hW; clear hW; go_simp; first | done | with_reducible rfl)
            try simp only [Act.put, List.setIfInBounds_toArray, List.set_cons_zero, List.set_cons_succ]
            refine takeH (i := 3) (v := ?_) 66 rfl rfl (by kernel_rfl) (by kernel_rfl) (by kernel_rfl) (fun _ _ _ h => h) (by rfl) ?hy3 hS ?rest3
            case hy3 => (intro W hW; clear hW; go_simp; first | done | with_reducible rfl)
            try simp only [Act.put, List.setIfInBounds_toArray, List.set_cons_zero, List.set_cons_succ]
            refine takeH (i := 4) (v := ?_) 67 rfl rfl (by kernel_rfl) (by kernel_rfl) (by kernel_rfl) (fun _ _ _ h => h) (by rfl) ?hy4 hS ?rest4
            case hy4 => (intro W hW; clear hW; go_simp; first | done | with_reducible rfl)
            try simp only [Act.put, List.setIfInBounds_toArray, List.set_cons_zero, List.set_cons_succ]
            refine takeH (i := 5) (v := ?_) 68 rfl rfl (by kernel_rfl) (by kernel_rfl) (by kernel_rfl) (fun _ _ _ h => h) (by rfl) ?hy5 hS ?rest5
            case hy5 => (intro W hW; clear hW; go_simp; first | done | with_reducible rfl)
            try simp only [Act.put, List.setIfInBounds_toArray, List.set_cons_zero, List.set_cons_succ]
            refine takeH (i := 6) (v := ?_) 69 rfl rfl (by kernel_rfl) (by kernel_rfl) (by kernel_rfl) (fun _ _ _ h => h) (by rfl) ?hy6 hS ?rest6
            case hy6 => (intro W hW; have f0 := CA0.out W hW; clear hW; go_simp; first | done | with_reducible rfl)
            try simp only [Act.put, List.setIfInBounds_toArray, List.set_cons_zero, List.set_cons_succ]
            refine takeH (i := 7) (v := ?_) 70 rfl rfl (by kernel_rfl) (by kernel_rfl) (by kernel_rfl) (fun _ _ _ h => h) (by rfl) ?hy7 hS ?rest7
            case hy7 => (intro W hW; clear hW; go_simp; first | done | with_reducible rfl)
            try simp only [Act.put, List.setIfInBounds_toArray, List.set_cons_zero, List.set_cons_succ]
            refine takeH (i := 8) (v := ?_) 71 rfl rfl (by kernel_rfl) (by kernel_rfl) (by kernel_rfl) (fun _ _ _ h => h) (by rfl) ?hy8 hS ?rest8
            case hy8 => (intro W hW; have f0 := C14.out W hW; clear hW; go_simp; first | done | with_reducible rfl)
            try simp only [Act.put, List.setIfInBounds_toArray, List.set_cons_zero, List.set_cons_succ]
            refine takeH (i := 9) (v := ?_) 72 rfl rfl (by kernel_rfl) (by kernel_rfl) (by kernel_rfl) (fun _ _ _ h => h) (by rfl) ?hy9 hS ?rest9
            case hy9 => (intro W hW; clear hW; go_simp; first | done | with_reducible rfl)
            try simp only [Act.put, List.setIfInBounds_toArray, List.set_cons_zero, List.set_cons_succ]
            refine takeH (i := 10) (v := ?_) 73 rfl rfl (by kernel_rfl) (by kernel_rfl) (by kernel_rfl) (fun _ _ _ h => h) (by rfl) ?hy10 hS ?rest10
            case hy10 => (intro W hW; clear hW; go_simp; first | done | with_reducible rfl)
            try simp only [Act.put, List.setIfInBounds_toArray, List.set_cons_zero, List.set_cons_succ]
            refine takeH (i := 11) (v := ?_) 74 rfl rfl (by kernel_rfl) (by kernel_rfl) (by kernel_rfl) (fun _ _ _ h => h) (by rfl) ?hy11 hS ?rest11
            case hy11 => (intro W hW; clear hW; go_simp; first | done | with_reducible rfl)
            try simp only [Act.put, List.setIfInBounds_toArray, List.set_cons_zero, List.set_cons_succ]
            refine takeH (i := 12) (v := ?_) 75 rfl rfl (by kernel_rfl) (by kernel_rfl) (by kernel_rfl) (fun _ _ _ h => h) (by rfl) ?hy12 hS ?rest12
            case hy12 => (intro W hW; have f0 := CA1.out W hW; clear hW; go_simp; first | done | with_reducible rfl)
            try simp only [Act.put, List.setIfInBounds_toArray, List.set_cons_zero, List.set_cons_succ]
            refine loneH (i := 13) 76 rfl rfl (by kernel_rfl) (by rfl) (fun K hK => ?_)
            go_simp
            refine hK.out _ _ (hS.alloc S4.out.base _) (fun hS => ?_)
            clear hK K
            try simp only [Act.put, List.setIfInBounds_toArray, List.set_cons_zero, List.set_cons_succ]
            refine loneH (i := 14) 77 rfl rfl (by kernel_rfl) (by rfl) (fun K hK => ?_)
            refine wp_appI (.tmp 63) (.tmp 76) rfl (w.heap.size + 1) _ _ [p, p2] _ rfl 2 rfl (by simp [Act.eval]) S4.out.l S4.out.base (by simp [Act.eval]) (S4.out.len (m := 2) _ (by omega)) ?_
            intro v1 w1 o1 g1 c1
            refine hK.out _ _ (hS.trans (grown_low g1.out (S4.out.l.alloc _) (Nat.le_refl _) (by simp; exact Nat.le_of_succ_le S4.out.base))) (fun hS => ?_)
            clear hK K
            try simp only [Act.put, List.setIfInBounds_toArray, List.set_cons_zero, List.set_cons_succ]
            refine takeH (i := 15) (v := ?_) 6 rfl rfl (by kernel_rfl) (by kernel_rfl) (by kernel_rfl) (fun _ _ _ h => h) (by rfl) ?hy15 hS ?rest15
            case hy15 => (intro W hW; clear hW; go_simp; first | done | with_reducible rfl)
            try simp only [Act.put, List.setIfInBounds_toArray, List.set_cons_zero, List.set_cons_succ]
            refine wpAnyH_done (by kernel_rfl) ?_ _
            try simp only [Act.put, List.setIfInBounds_toArray, List.set_cons_zero, List.set_cons_succ]
            go_wp2_with (first
              | (refine wpList_appI rfl (.tmp 78) (.tmp 85) rfl (w.heap.size + 1) _ _ [386 + 24 * (k : Int), 398 + 24 * (k : Int)] _ rfl 2 rfl (by simp [Act.eval]) (S4.out.a1 g1.out) (S4.out.b1 g1.out) (by simp [Act.eval]) (S4.out.len (m := 2) _ (by omega)) ?_; intro v2 w2 o2 g2 c2)
              | (refine wpList_appI rfl (.tmp 87) (.tmp 88) rfl (w.heap.size + 1) _ _ [12, 12] _ rfl 2 rfl (by simp [Act.eval]) (S4.out.d2 g1.out g2.out) (S4.out.b2 g1.out g2.out) (by simp [Act.eval]) (S4.out.len (m := 2) _ (by omega)) ?_; intro v3 w3 o3 g3 c3))
            go_roundw
            case rel => exact ⟨k + 1, (by go_num), hkn, _, (S4.out.more [(p, 386 + 24 * k, 12), (p2, 398 + 24 * k, 12)] rfl (by simp [fT]) rfl o1.out g1.out c1.out o2.out g2.out c2.out o3.out g3.out c3.out (by
              intro x hx
              simp only [List.mem_cons, List.not_mem_nil, or_false] at hx
              have hk3 : k ≤ 3 := by have := H4.out; omega
              rcases hx with rfl | rfl
              · exact ⟨HPN.out.1, show 386 + 24 * k + 12 ≤ 512 by omega, Nat.le_refl _⟩
              · exact ⟨HPN.out.2, show 398 + 24 * k + 12 ≤ 512 by omega, Nat.le_refl _⟩)).mono (show 8 + 2 * k + 2 ≤ 8 + 2 * (k + 1) by omega)⟩
            case measure => simp [RowKit.intOf]; omega
          · go_wp2_with fail
            go_meet
            case rel => exact ⟨_, S3.out.mono (by have := H4.out; omega)⟩
    case rest =>
      clear k6 k16 S1
      obtain ⟨q2, s2⟩ := hcut
      obtain ⟨gl, cl, ga, ca, gd, cd, rfl, rfl, rfl, HC⟩ := s2.forms g HX.out.lt
      have S2 := hid s2
      have HXD := hid (B512.below HX.out s2.below HX.out.lt)
      have HFit := hid s2.fit
      have h16 := s2.few
      have HUD := hid s2.below
      clear s2 S2
      generalize hnq : q2.length = nq at *
      have HNQ := hid hnq
      clear hnq
      go_wp2_with fail
      go_loopw [0, 10] (fun b i wr => ∃ k : Nat, b = .slice (some ⟨g, 0, none⟩) 512 512 ∧ i = .int .i64 k ∧ k ≤ nq ∧ Hid (B512 wr g) ∧ Hid (But g wc wr)) (fun _ i _ => nq - (RowKit.intOf i).toNat)
      case atStart => exact ⟨0, rfl, rfl, Nat.zero_le _, HXD, hid (But.refl _ _)⟩
      case round =>
        clear HXD
        obtain ⟨k, rfl, rfl, hk, HXr, HU⟩ := hrel
        by_cases hlt : k < nq
        · obtain ⟨⟨z, a, m⟩, hq⟩ : ∃ x, q2[k]? = some x := ⟨_, List.getElem?_eq_getElem (by rw [HNQ.out]; exact hlt)⟩
          obtain ⟨hz, ham, hm⟩ := HFit.out _ (List.mem_of_getElem? hq)
          dsimp only at hz ham hm
          have E5 := hid (show decide (k < nq) = true by rw [decide_eq_true_eq]; omega)
          have HLT := hid hlt
          go_wp2_with fail
          try simp only [E5.out]
          clear E5 hlt
          have HXd := hid HXr.out.drew
          have HUd := hid HU.out.drew
          clear HXr HU
          have HC1 := hid (fun V (hV : But g wc V ∧ B512 V g) => (HC.out V hV.1 k _ hq).1)
          have HC2 := hid (fun V (hV : But g wc V ∧ B512 V g) => (HC.out V hV.1 k _ hq).2.2)
          have HC3 := hid (fun V (hV : But g wc V) => HC.out V hV k _ hq)
          dsimp only at HC1 HC2 HC3
          have HZ := hid hz
          clear hq
          refine wp_region_held_drew (S := fun V => But g wc V ∧ B512 V g) (by kernel_rfl) ⟨HUd.out, HXd.out⟩ (fun hS => ?_)
          refine takeH (i := 0) (v := ?_) 97 rfl rfl (by kernel_rfl) (by kernel_rfl) (by kernel_rfl) (fun _ _ _ h => h) (by rfl) ?hy0d hS ?rest0d
          case hy0d => (intro W hW; clear hW; go_simp; first | done | with_reducible rfl)
          try simp only [Act.put, List.setIfInBounds_toArray, List.set_cons_zero, List.set_cons_succ]
          refine takeH (i := 1) (v := ?_) 98 rfl rfl (by kernel_rfl) (by kernel_rfl) (by kernel_rfl) (fun _ _ _ h => h) (by rfl) ?hy1d hS ?rest1d
          case hy1d => (intro W hW; clear hW; go_simp; first | done | with_reducible rfl)
          try simp only [Act.put, List.setIfInBounds_toArray, List.set_cons_zero, List.set_cons_succ]
          refine takeH (i := 2) (v := ?_) 99 rfl rfl (by kernel_rfl) (by kernel_rfl) (by kernel_rfl) (fun _ _ _ h => h) (by rfl) ?hy2d hS ?rest2d
          case hy2d => (intro W hW; have f0 := HLT.out; clear hW; go_simp; first | done | with_reducible rfl)
          try simp only [Act.put, List.setIfInBounds_toArray, List.set_cons_zero, List.set_cons_succ]
          refine takeH (i := 3) (v := ?_) 100 rfl rfl (by kernel_rfl) (by kernel_rfl) (by kernel_rfl) (fun _ _ _ h => h) (by rfl) ?hy3d hS ?rest3d
          case hy3d => (intro W hW; have f0 := HC1.out W hW; clear hW; go_simp; first | done | with_reducible rfl)
          try simp only [Act.put, List.setIfInBounds_toArray, List.set_cons_zero, List.set_cons_succ]
          refine takeH (i := 4) (v := ?_) 101 rfl rfl (by kernel_rfl) (by kernel_rfl) (by kernel_rfl) (fun _ _ _ h => h) (by rfl) ?hy4d hS ?rest4d
          case hy4d => (intro W hW; clear hW; go_simp; first | done | with_reducible rfl)
          try simp only [Act.put, List.setIfInBounds_toArray, List.set_cons_zero, List.set_cons_succ]
          refine takeH (i := 5) (v := ?_) 102 rfl rfl (by kernel_rfl) (by kernel_rfl) (by kernel_rfl) (fun _ _ _ h => h) (by rfl) ?hy5d hS ?rest5d
          case hy5d => (intro W hW; clear hW; go_simp; first | done | with_reducible rfl)
          try simp only [Act.put, List.setIfInBounds_toArray, List.set_cons_zero, List.set_cons_succ]
          refine takeH (i := 6) (v := ?_) 103 rfl rfl (by kernel_rfl) (by kernel_rfl) (by kernel_rfl) (fun _ _ _ h => h) (by rfl) ?hy6d hS ?rest6d
          case hy6d => (intro W hW; have f0 := HLT.out; clear hW; go_simp; first | done | with_reducible rfl)
          try simp only [Act.put, List.setIfInBounds_toArray, List.set_cons_zero, List.set_cons_succ]
          refine takeH (i := 7) (v := ?_) 104 rfl rfl (by kernel_rfl) (by kernel_rfl) (by kernel_rfl) (fun _ _ _ h => h) (by rfl) ?hy7d hS ?rest7d
          case hy7d => (intro W hW; have f0 := HC2.out W hW; clear hW; go_simp; first | done | with_reducible rfl)
          try simp only [Act.put, List.setIfInBounds_toArray, List.set_cons_zero, List.set_cons_succ]
          refine loneH (i := 8) 105 rfl rfl (by kernel_rfl) (by rfl) (fun K hK => ?_)
          go_simp
          generalize hSV : World.drew wr = V at *
          (with_reducible refine (putRef_any z m _ HZ.out).mono ?_)
          rintro e w1 ⟨A1, n1, rfl, hrd, b1⟩
          have HX1 := hid (B512.below hS.2 b1 hS.2.lt)
          have HU1 := hid (hS.1.trans (But.of_below b1))
          clear hS
          refine hK.out _ _ ⟨HU1.out, HX1.out⟩ (fun hS => ?_)
          clear hK K
          try simp only [Act.put, List.setIfInBounds_toArray, List.set_cons_zero, List.set_cons_succ]
          refine takeH (i := 9) (v := ?_) 96 rfl rfl (by kernel_rfl) (by kernel_rfl) (by kernel_rfl) (fun _ _ _ h => h) (by rfl) ?hy9d hS ?rest9d
          case hy9d => (intro W hW; clear hW; go_simp; first | done | with_reducible rfl)
          try simp only [Act.put, List.setIfInBounds_toArray, List.set_cons_zero, List.set_cons_succ]
          refine takeH (i := 10) (v := ?_) 106 rfl rfl (by kernel_rfl) (by kernel_rfl) (by kernel_rfl) (fun _ _ _ h => h) (by rfl) ?hy10d hS ?rest10d
          case hy10d => (intro W hW; clear hW; go_simp; first | done | with_reducible rfl)
          try simp only [Act.put, List.setIfInBounds_toArray, List.set_cons_zero, List.set_cons_succ]
          refine takeH (i := 11) (v := ?_) 107 rfl rfl (by kernel_rfl) (by kernel_rfl) (by kernel_rfl) (fun _ _ _ h => h) (by rfl) ?hy11d hS ?rest11d
          case hy11d => (intro W hW; clear hW; go_simp; first | done | with_reducible rfl)
          try simp only [Act.put, List.setIfInBounds_toArray, List.set_cons_zero, List.set_cons_succ]
          refine takeH (i := 12) (v := ?_) 11 rfl rfl (by kernel_rfl) (by kernel_rfl) (by kernel_rfl) (fun _ _ _ h => h) (by rfl) ?hy12d hS ?rest12d
          case hy12d => (intro W hW; clear hW; go_simp; first | done | with_reducible rfl)
          try simp only [Act.put, List.setIfInBounds_toArray, List.set_cons_zero, List.set_cons_succ]
          refine takeH (i := 13) (v := ?_) 12 rfl rfl (by kernel_rfl) (by kernel_rfl) (by kernel_rfl) (fun _ _ _ h => h) (by rfl) ?hy13d hS ?rest13d
          case hy13d => (intro W hW; clear hW; go_simp; first | done | with_reducible rfl)
          try simp only [Act.put, List.setIfInBounds_toArray, List.set_cons_zero, List.set_cons_succ]
          refine wpAnyH_done (by kernel_rfl) ?_ _
          try simp only [Act.put, List.setIfInBounds_toArray, List.set_cons_zero, List.set_cons_succ]
          obtain ⟨c1, c2, c3⟩ := HC3.out w1 HU1.out
          cases hp : M.putFits z m with
          | false =>
            clear hrd
            go_wp2
            go_ret2
            exact ⟨.inl rfl, HX1.out, (But.of_below HUD.out).trans HU1.out⟩
          | true =>
            have hn1 : n1 = m := by have := hrd.len; rw [putR_len hp] at this; exact this.symm
            subst hn1
            have HR := hid (RdW.of_rd hrd)
            clear hrd hp hz
            have HCL := hid (lay_any g a A1 n1 n1 w1 HX1.out HR.out ham)
            go_wp2_with fail
            all_goals first
              | (go_ret2
                 exact ⟨.inl rfl, HX1.out, (But.of_below HUD.out).trans HU1.out⟩)
              | ((with_reducible refine HCL.out.mono ?_)
                 rintro e w2 ⟨rfl, hx2, hu2⟩
                 have HX2 := hid hx2
                 have HU2 := hid (HU1.out.trans hu2)
                 clear hx2 hu2 c1 c2 c3 HX1 HU1 HCL HR
                 go_wp2_with fail
                 go_roundw
                 case rel => exact ⟨k + 1, rfl, (by go_num), HLT.out, HX2, HU2⟩
                 case measure => have := HLT.out; simp [RowKit.intOf]; omega)
        · obtain rfl : k = nq := by omega
          go_wp2
          go_ret2
          exact ⟨.inr rfl, HXr.out, (But.of_below HUD.out).trans HU.out⟩
end Go.Proofs.YtkpnhggpcpjddaaGreatDoor

/-! The document's Put of a number: in a block of its own. -/
namespace Go.Proofs.YtkpnhggpcpjddaaGreatDoor
open Go.RowKit Go.Lib
attribute [local go_sem ↓] slice_from

/-- As PutPost; the bytes lie in a block that is new. -/
def PutOwn (w : World) (ok : Bool) (zs : List Int) (e : Ending) (w' : World) : Prop :=
  ∃ A N, e = .returned (.tuple #[.slice A N N, .bool ok]) ∧ Rd w' w'.heap.size A N zs ∧ Below w.heap.size w w' ∧ (∀ b off, A = some ⟨b, off, none⟩ → w.heap.size ≤ b)
theorem PutOwn.none_ {w w' : World} (h : Below w.heap.size w w') : PutOwn w false [] (.returned (.tuple #[.slice none 0 0, .bool false])) w' :=
  ⟨none, 0, rfl, Rd.none_, h, fun _ _ h => nomatch h⟩
theorem PutOwn.past {w w1 w2 : World} {ok : Bool} {zs : List Int} {e : Ending} (h1 : Below w.heap.size w w1) (h : PutOwn w1 ok zs e w2) : PutOwn w ok zs e w2 := by
  obtain ⟨A, N, he, hr, hb, hf⟩ := h
  exact ⟨A, N, he, hr, h1.trans (hb.mono h1.size), fun b off e => Nat.le_trans h1.size (hf b off e)⟩

set_option maxHeartbeats 800000 in
theorem putOctalRef_goO (n : Int) (N : Nat) (w : World) (h1 : 2 ≤ N) (h2 : N ≤ 32) (h3 : 0 ≤ n) (h4 : n ≤ 4611686018427387904) :
    Calls Tryz.prog 38 #[.int .i64 n, .int .i64 N] w (PutOwn w (M.octFits n N) (M.octR n N)) := by
  have e1 : decide (n < 0) = false := by simpa using h3
  have e2 : decide (4611686018427387904 < n) = false := by simpa using h4
  have e3 : decide ((N : Int) < 2) = false := by rw [decide_eq_false_iff_not]; omega
  have e4 : decide (32 < (N : Int)) = false := by rw [decide_eq_false_iff_not]; omega
  have hmk := run_make_row' (P := Tryz.prog) 22 5 (.int .u8 0) 1 Tryz.underlying22 u8_info rfl .i64 .i64 N (by omega) (by omega)
  go_enter Tryz.func38, Tryz.ntmps38
  go_wp2
  clear hmk e1 e2 e3 e4
  go_loopw [0, 7] (fun v i wr => ∃ k : Nat, k ≤ N - 1 ∧ i = .int .i64 ((N : Int) - 2 - k) ∧ v = .int .i64 (n / 8 ^ k) ∧ RowB wr w.heap.size N (M.octC n N k) ∧ Below w.heap.size w wr) (fun _ i _ => (RowKit.intOf i + 1).toNat)
  case atStart => exact ⟨0, Nat.zero_le _, by go_num, by simp, (RowB.made w N).to fun i _ => (M.octC_zero n N i).symm, (Below.refl _ _).alloc (Nat.le_refl _) _⟩
  case round =>
    obtain ⟨k, hk, rfl, rfl, hrow, hbel⟩ := hrel
    have hv0 := M.shr8_nonneg h3 k
    have hv1 := M.shr8_le h3 k
    by_cases hlt : k < N - 1
    · have hc := hrow.cell (i := N - 2 - k) (by omega)
      have hf := hrow.frozen (N - 2 - k)
      have HS := hid (M.shr8_succ n k)
      generalize hval : n / 8 ^ k = v at *
      have HV := hid hval
      clear hval
      have hge : (0 : Int) ≤ (N : Int) - 2 - k := by omega
      have hto : ((N : Int) - 2 - k).toNat = N - 2 - k := by omega
      go_wp2
      have he : (48 + v % 8) % 256 = 48 + v % 8 := by omega
      go_roundw
      case rel =>
        refine ⟨k + 1, by omega, by go_num, by rw [HS.out], (hrow.set _ _).to fun j _ => ?_, hbel.setCell (Nat.le_refl _) _⟩
        rw [← HV.out]
        exact M.octC_succ n N k j hlt
      case measure => simp [RowKit.intOf]; omega
    · obtain rfl : k = N - 1 := by omega
      have hrow' : RowB wr w.heap.size N (M.octG n N) := hrow.to fun j _ => M.octC_end n N j
      clear hrow hlt hk
      have hfits : M.octFits n N = decide (n / 8 ^ (N - 1) = 0) := by
        unfold M.octFits M.most
        rw [show decide ((2 : Int) ≤ N) = true by simp; omega, show decide ((N : Int) ≤ 32) = true by simp; omega, show decide (0 ≤ n) = true by simpa using h3,
          show decide (n ≤ 4611686018427387904) = true by simpa using h4, Int.toNat_natCast]
        rfl
      have hneg : (N : Int) - 2 - ((N - 1 : Nat) : Int) < 0 := by omega
      by_cases hz : n / 8 ^ (N - 1) = 0
      · have hf : M.octFits n N = true := by rw [hfits, hz]; rfl
        have hR : M.octR n N = M.oct n N := by unfold M.octR; rw [hf, Int.toNat_natCast]; rfl
        have HF := hid hf
        have HR := hid hR
        clear hf hR hfits
        rw [hz]
        clear hz hv0 hv1
        go_wp2
        go_ret2
        rw [HF.out, HR.out]
        exact ⟨_, N, rfl, hrow'.rd (M.octG_bd n N), hbel, fun b off h => by injection h with h; injection h with h; exact Nat.le_of_eq h⟩
      · have hf : M.octFits n N = false := by rw [hfits]; simpa using hz
        have hR : M.octR n N = [] := by unfold M.octR; rw [hf]; rfl
        have HF := hid hf
        have HR := hid hR
        clear hf hR hfits
        generalize n / 8 ^ (N - 1) = v at *
        have hz' : 0 < v := by omega
        go_wp2
        go_ret2
        rw [HF.out, HR.out]
        exact PutOwn.none_ hbel

set_option maxHeartbeats 400000 in
theorem putOctalRef_own (n wide : Int) (w : World) :
    Calls Tryz.prog 38 #[.int .i64 n, .int .i64 wide] w (PutOwn w (M.octFits n wide) (M.octR n wide)) := by
  by_cases h : 2 ≤ wide ∧ wide ≤ 32 ∧ 0 ≤ n ∧ n ≤ 4611686018427387904
  · obtain ⟨h1, h2, h3, h4⟩ := h
    obtain ⟨N, rfl⟩ := Int.eq_ofNat_of_zero_le (by omega : 0 ≤ wide)
    exact putOctalRef_goO n N w (by omega) (by omega) h3 h4
  · rw [octR_no (octFits_no h), octFits_no h]
    by_cases h1 : wide < 2
    · have e1 : decide (wide < 2) = true := by simpa using h1
      clear h h1
      go_enter Tryz.func38, Tryz.ntmps38
      go_wp2
      go_ret2
      exact PutOwn.none_ (Below.refl _ _)
    · have e1 : decide (wide < 2) = false := by simpa using h1
      by_cases h2 : 32 < wide
      · have e2 : decide (32 < wide) = true := by simpa using h2
        clear h h1 h2
        go_enter Tryz.func38, Tryz.ntmps38
        go_wp2
        go_ret2
        exact PutOwn.none_ (Below.refl _ _)
      · have e2 : decide (32 < wide) = false := by simpa using h2
        by_cases h3 : n < 0
        · have e3 : decide (n < 0) = true := by simpa using h3
          clear h h1 h2 h3
          go_enter Tryz.func38, Tryz.ntmps38
          go_wp2
          go_ret2
          exact PutOwn.none_ (Below.refl _ _)
        · have e3 : decide (n < 0) = false := by simpa using h3
          have e4 : decide (4611686018427387904 < n) = true := by rw [decide_eq_true_eq]; omega
          clear h h1 h2 h3
          go_enter Tryz.func38, Tryz.ntmps38
          go_wp2
          go_ret2
          exact PutOwn.none_ (Below.refl _ _)

set_option maxHeartbeats 400000 in
theorem putBinaryRef_goO (n : Int) (N : Nat) (w : World) (h1 : 2 ≤ N) (h2 : N ≤ 32) (hn : -9223372036854775808 ≤ n ∧ n ≤ 9223372036854775807) :
    Calls Tryz.prog 82 #[.int .i64 n, .int .i64 N] w (PutOwn w (M.binFits n N) (M.binR n N)) := by
  have e3 : decide ((N : Int) < 2) = false := by rw [decide_eq_false_iff_not]; omega
  have e4 : decide (32 < (N : Int)) = false := by rw [decide_eq_false_iff_not]; omega
  have hmk := run_make_row' (P := Tryz.prog) 22 5 (.int .u8 0) 1 Tryz.underlying22 u8_info rfl .i64 .i64 N (by omega) (by omega)
  go_enter Tryz.func82, Tryz.ntmps82
  go_wp2
  clear hmk e3 e4
  go_loopw [7, 8] (fun v i wr => ∃ k : Nat, k ≤ N ∧ i = .int .i64 ((N : Int) - 1 - k) ∧ v = .int .i64 (n / 256 ^ k) ∧ RowB wr w.heap.size N (M.binC n N k) ∧ Below w.heap.size w wr) (fun _ i _ => (RowKit.intOf i + 1).toNat)
  case atStart => exact ⟨0, Nat.zero_le _, by go_num, by simp, (RowB.made w N).to fun i _ => (M.binC_zero n N i).symm, (Below.refl _ _).alloc (Nat.le_refl _) _⟩
  case round =>
    obtain ⟨k, hk, rfl, rfl, hrow, hbel⟩ := hrel
    obtain ⟨hv0, hv1⟩ := M.shr256_bd hn k
    by_cases hlt : k < N
    · have hc := hrow.cell (i := N - 1 - k) (by omega)
      have hf := hrow.frozen (N - 1 - k)
      have HS := hid (M.shr256_succ n k)
      generalize hval : n / 256 ^ k = v at *
      have HV := hid hval
      clear hval
      have hge : (0 : Int) ≤ (N : Int) - 1 - k := by omega
      have hto : ((N : Int) - 1 - k).toNat = N - 1 - k := by omega
      have HT := hid (tdiv_whole v)
      have hm0 : 0 ≤ v % 256 := by omega
      have hm1 : v % 256 ≤ 255 := by omega
      have hs0 : -9223372036854775808 ≤ v - v % 256 := by omega
      have hs1 : v - v % 256 ≤ 9223372036854775807 := by omega
      have hw1 : wrap64 (v % 256) = v % 256 := IntWalk.wrap64_in _ ⟨by omega, by omega⟩
      have hw2 : wrap64 (v - v % 256) = v - v % 256 := IntWalk.wrap64_in _ ⟨by omega, by omega⟩
      have hw3 : wrap64 (v / 256) = v / 256 := IntWalk.wrap64_in _ ⟨by omega, by omega⟩
      have HW1 := hid hw1
      have HW2 := hid hw2
      have HW3 := hid hw3
      clear hw1 hw2 hw3
      by_cases hneg : v.tmod 256 < 0
      case' pos =>
        have HM := hid (tmod_neg v hneg)
        go_wp2
        rw [HM.out, HW1.out, HW2.out, HT.out, HW3.out]
      case' neg =>
        have HM := hid (tmod_pos v hneg)
        go_wp2
        rw [HM.out, HW2.out, HT.out, HW3.out]
      all_goals
        have he : v % 256 % 256 = v % 256 := by omega
        rw [he]
        go_roundw
        case rel =>
          refine ⟨k + 1, by omega, by go_num, by rw [HS.out], (hrow.set _ _).to fun j _ => ?_, hbel.setCell (Nat.le_refl _) _⟩
          rw [← HV.out]
          exact M.binC_succ n N k j hlt
        case measure => simp [RowKit.intOf]; omega
    · obtain rfl : k = N := by omega
      clear hlt hk
      have hc := hrow.cell (i := 0) (by omega)
      have hf := hrow.frozen 0
      rw [M.binC_first n k (by omega)] at hc
      have hx0 : 0 ≤ n / 256 ^ (k - 1) % 256 := by omega
      have hx1 : n / 256 ^ (k - 1) % 256 ≤ 255 := by omega
      have HE := hid (M.binC_end n k)
      have HFE := hid (binFits_eq n k h1 h2)
      have HRE : Hid (M.binR n k = if M.binFits n k then M.bin n k else []) := hid (by unfold M.binR; rw [Int.toNat_natCast])
      generalize n / 256 ^ (k - 1) % 256 = x at *
      generalize n / 256 ^ k = v at *
      have hk0 : (0 : Int) < k := by omega
      have hneg : (k : Int) - 1 - k < 0 := by omega
      go_wp2_with fail
      have hx2 : (x % 128 + 128) % 256 = x % 128 + 128 := by omega
      try rw [hx2]
      have hrow2 : RowB (wr.setCell ⟨w.heap.size, 0, none⟩ (.int .u8 (x % 128 + 128))) w.heap.size k (M.binG n k) := (hrow.set 0 _).to fun j hj => HE.out j hj
      have hbel2 : Below w.heap.size w (wr.setCell ⟨w.heap.size, 0, none⟩ (.int .u8 (x % 128 + 128))) := hbel.setCell (Nat.le_refl _) _
      generalize wr.setCell ⟨w.heap.size, 0, none⟩ (.int .u8 (x % 128 + 128)) = w2 at *
      have HB := binaryRef_any _ k k _ w2 _ (hrow2.rd (M.binG_bd n k)) (Nat.le_refl _) (by unfold maxLen; omega)
      rw [show M.listOf (M.binG n k) k = M.bin n k from rfl] at HB
      refine HB.mono ?_
      rintro e w' ⟨rfl, rfl⟩
      clear HB hrow hbel hc hf HE hx0 hx1 hx2
      cases hok : M.binOk (M.bin n k) with
      | false =>
        have hf : M.binFits n k = false := by rw [HFE.out, hok]; rfl
        have hr : M.binR n k = [] := by rw [HRE.out, hf]; rfl
        have HF := hid hf
        have HR := hid hr
        clear hok hf hr
        go_wp2
        go_ret2
        rw [HF.out, HR.out]
        exact PutOwn.none_ hbel2
      | true =>
        by_cases heq : M.binN (M.bin n k) = n
        · have hf : M.binFits n k = true := by rw [HFE.out, hok, heq]; simp
          have hr : M.binR n k = M.bin n k := by rw [HRE.out, hf]; rfl
          have HF := hid hf
          have HR := hid hr
          clear hok hf hr
          rw [heq]
          clear heq
          have hne : (n != n) = false := by simp
          go_wp2
          go_ret2
          rw [HF.out, HR.out]
          exact ⟨_, k, rfl, hrow2.rd (M.binG_bd n k), hbel2, fun b off h => by injection h with h; injection h with h; exact Nat.le_of_eq h⟩
        · have hf : M.binFits n k = false := by rw [HFE.out, hok]; simpa using heq
          have hr : M.binR n k = [] := by rw [HRE.out, hf]; rfl
          have HF := hid hf
          have HR := hid hr
          clear hok hf hr
          have hne : (M.binN (M.bin n k) != n) = true := by simpa using heq
          generalize M.binN (M.bin n k) = y at *
          go_wp2
          go_ret2
          rw [HF.out, HR.out]
          exact PutOwn.none_ hbel2

theorem putBinaryRef_own (n wide : Int) (w : World) (hn : -9223372036854775808 ≤ n ∧ n ≤ 9223372036854775807) :
    Calls Tryz.prog 82 #[.int .i64 n, .int .i64 wide] w (PutOwn w (M.binFits n wide) (M.binR n wide)) := by
  by_cases h : 2 ≤ wide ∧ wide ≤ 32
  · obtain ⟨h1, h2⟩ := h
    obtain ⟨N, rfl⟩ := Int.eq_ofNat_of_zero_le (by omega : 0 ≤ wide)
    exact putBinaryRef_goO n N w (by omega) (by omega) hn
  · rw [binR_no (binFits_no h), binFits_no h]
    by_cases h1 : wide < 2
    · have e1 : decide (wide < 2) = true := by simpa using h1
      clear h h1
      go_enter Tryz.func82, Tryz.ntmps82
      go_wp2
      go_ret2
      exact PutOwn.none_ (Below.refl _ _)
    · have e1 : decide (wide < 2) = false := by simpa using h1
      have e2 : decide (32 < wide) = true := by rw [decide_eq_true_eq]; omega
      clear h h1
      go_enter Tryz.func82, Tryz.ntmps82
      go_wp2
      go_ret2
      exact PutOwn.none_ (Below.refl _ _)

set_option maxHeartbeats 400000 in
theorem putRef_own (n wide : Int) (w : World) (hn : -9223372036854775808 ≤ n ∧ n ≤ 9223372036854775807) :
    Calls Tryz.prog 66 #[.int .i64 n, .int .i64 wide] w (PutOwn w (M.putFits n wide) (M.putR n wide)) := by
  have HO := hid (putOctalRef_own n wide w)
  have HB := hid (fun W => putBinaryRef_own n wide W hn)
  cases hf : M.octFits n wide with
  | true =>
    have hF : M.putFits n wide = true := by unfold M.putFits; rw [hf]; rfl
    have hR : M.putR n wide = M.octR n wide := by simp [M.putR, M.octR, hf]
    rw [hF, hR]
    rw [hf] at HO
    clear hf hF hR
    go_enter Tryz.func66, Tryz.ntmps66
    go_wp2_with fail
    (with_reducible refine HO.out.mono ?_)
    rintro e w' ⟨A, N, rfl, hr, hb, hf⟩
    go_wp2
    go_ret2
    exact ⟨A, N, rfl, hr, hb, hf⟩
  | false =>
    have hF : M.putFits n wide = M.binFits n wide := by unfold M.putFits; rw [hf]; rfl
    have hR : M.putR n wide = M.binR n wide := by unfold M.putR; rw [hf]; rfl
    rw [hF, hR]
    rw [hf] at HO
    clear hf hF hR
    go_enter Tryz.func66, Tryz.ntmps66
    go_wp2_with fail
    (with_reducible refine HO.out.mono ?_)
    rintro e w' ⟨A, N, rfl, hr, hb, hf⟩
    go_wp2_with fail
    (with_reducible refine (HB.out _).mono ?_)
    rintro e w2 ⟨A2, N2, rfl, hr2, hb2, hf2⟩
    go_wp2
    go_ret2
    exact PutOwn.past hb ⟨A2, N2, rfl, hr2, hb2, hf2⟩
end Go.Proofs.YtkpnhggpcpjddaaGreatDoor

/-! The document's numbers, byte by byte. -/
namespace Go.Proofs.YtkpnhggpcpjddaaGreatDoor
open Go.RowKit Go.Lib

theorem nqR_succ {h : M.Hdr} {k : Nat} {p q : Int} (hp : h.parts[k]? = some (p, q)) : M.nqR h (k + 1) = M.nqR h k ++ [(p, 386 + 24 * k, 12), (q, 398 + 24 * k, 12)] := by
  have hl : (h.parts.take k).length = k := by
    have := (List.getElem?_eq_some_iff.1 hp).1
    rw [List.length_take]; omega
  unfold M.nqR
  rw [List.take_add_one, hp, Option.toList_some, M.pq_snoc, hl, Nat.zero_add, ← List.cons_append, List.append_assoc]

set_option maxRecDepth 100000 in
set_option maxHeartbeats 4000000 in
theorem refNumbersX_any (g : Nat) (zs0 : List Int) (h : M.Hdr) (A : Option Addr) (c : Nat) (w : World) (hb : BX w g zs0) (hi : HIn w h (.slice A h.parts.length c)) (h4 : h.parts.length ≤ 4) :
    Calls Tryz.prog 32 #[.slice (some ⟨g, 0, none⟩) 512 512, .agg (hcells h (.slice A h.parts.length c))] w (LaidX g (M.dn zs0 (M.nq h)) w) := by
  have HX := hid hb
  have HI := hid hi
  have H4 := hid h4
  clear hb hi h4
  have HQ7 := hid (show M.nq7 h = M.nq5 h ++ (if decide (0 < h.way) = true then [(h.major, 329, 8), (h.minor, 337, 8)] else []) from rfl)
  have HQ := hid (show M.nq h = if (h.kind == 83) = true then M.nqR h h.parts.length else M.nq7 h from rfl)
  generalize hn : h.parts.length = n at *
  have HN := hid hn
  clear hn
  have B1 := hid (HB.new w h (.slice A n c))
  have k1 := HB.cell B1.out (i := 1) (v := .int .i64 h.mode) rfl
  have k2 := HB.cell B1.out (i := 2) (v := .int .i64 h.uid) rfl
  have k3 := HB.cell B1.out (i := 3) (v := .int .i64 h.gid) rfl
  have k4 := HB.cell B1.out (i := 4) (v := .int .i64 h.size) rfl
  have k5 := HB.cell B1.out (i := 5) (v := .int .i64 h.mtime) rfl
  have HF := hid (four_new w (.cells (hcells h (.slice A n c)) 33) (.cells #[.int .i64 h.mode, .int .i64 h.uid, .int .i64 h.gid, .int .i64 h.size, .int .i64 h.mtime] 3)
    (.cells #[.int .i64 100, .int .i64 108, .int .i64 116, .int .i64 124, .int .i64 136] 3) (.cells #[.int .i64 8, .int .i64 8, .int .i64 8, .int .i64 12, .int .i64 12] 3))
  clear B1
  go_enter Tryz.func32, Tryz.ntmps32
  go_upto_region 4 with fail
  clear k1 k2 k3 k4 k5
  generalize World.alloc (World.alloc (World.alloc (World.alloc w _) _) _) _ = W at *
  have S0 : Hid (NS w W h (.slice A n c) (.slice (some ⟨w.heap.size + 1, 0, none⟩) 5 5) (.slice (some ⟨w.heap.size + 1 + 1, 0, none⟩) 5 5) (.slice (some ⟨w.heap.size + 1 + 1 + 1, 0, none⟩) 5 5) 5 (M.nq5 h)) := hid (by
    obtain ⟨r1, r2, r3, r4, rb, _⟩ := HF.out
    obtain ⟨i1, i2, i3, i4, i5, _⟩ := HI.out.ints
    refine ⟨OwnI.lit _ _ _ rfl r2 (Nat.le_refl _) (show (5 : Nat) ≤ 1000000 by decide), OwnI.lit _ _ _ rfl r3 (by omega) (show (5 : Nat) ≤ 1000000 by decide), OwnI.lit _ _ _ rfl r4 (by omega) (show (5 : Nat) ≤ 1000000 by decide), .inr ?_, .inr ?_, .inr ?_, ?_, Nat.le_refl _, Nat.succ_pos _, r1, rb⟩
    · intro e; have := Option.some.inj e; dsimp only at this; omega
    · intro e; have := Option.some.inj e; dsimp only at this; omega
    · intro e; have := Option.some.inj e; dsimp only at this; omega
    · intro x hx
      unfold M.nq5 at hx
      simp only [List.mem_cons, List.not_mem_nil, or_false] at hx
      rcases hx with rfl | rfl | rfl | rfl | rfl
      · exact ⟨i1, Nat.le_of_ble_eq_true rfl, Nat.le_of_ble_eq_true rfl⟩
      · exact ⟨i2, Nat.le_of_ble_eq_true rfl, Nat.le_of_ble_eq_true rfl⟩
      · exact ⟨i3, Nat.le_of_ble_eq_true rfl, Nat.le_of_ble_eq_true rfl⟩
      · exact ⟨i4, Nat.le_of_ble_eq_true rfl, Nat.le_of_ble_eq_true rfl⟩
      · exact ⟨i5, Nat.le_of_ble_eq_true rfl, Nat.le_of_ble_eq_true rfl⟩)
  clear HF
  have k8 := HB.cell S0.out.box (i := 8) (v := .int .i64 h.way) rfl
  have k11 := HB.cell S0.out.box (i := 11) (v := .int .i64 h.major) rfl
  have k12 := HB.cell S0.out.box (i := 12) (v := .int .i64 h.minor) rfl
  go_upto_if 28 with fail
  generalize decide (0 < h.way) = bw at HQ7 ⊢
  go_cut [6, 7, 8] from 29 to 41 (fun x y z wx => NS w wx h (.slice A n c) x y z 7 (M.nq7 h))
  case first =>
    cases bw
    · go_wp2_with fail
      go_meet
      case rel =>
        rw [HQ7.out, if_neg Bool.false_ne_true, List.append_nil]
        exact S0.out.mono (by decide)
    · go_wp2_with (first
        | (refine wpList_appI rfl (.tmp 29) (.tmp 34) rfl (w.heap.size + 1) _ _ [h.major, h.minor] _ rfl 2 rfl (by simp [Act.eval]) S0.out.l S0.out.base (by simp [Act.eval]) (S0.out.len (m := 2) _ (by decide)) ?_; intro v1 w1 o1 g1 c1)
        | (refine wpList_appI rfl (.tmp 36) (.tmp 37) rfl (w.heap.size + 1) _ _ [329, 337] _ rfl 2 rfl (by simp [Act.eval]) (S0.out.a1 g1.out) (S0.out.b1 g1.out) (by simp [Act.eval]) (S0.out.len (m := 2) _ (by decide)) ?_; intro v2 w2 o2 g2 c2)
        | (refine wpList_appI rfl (.tmp 39) (.tmp 40) rfl (w.heap.size + 1) _ _ [8, 8] _ rfl 2 rfl (by simp [Act.eval]) (S0.out.d2 g1.out g2.out) (S0.out.b2 g1.out g2.out) (by simp [Act.eval]) (S0.out.len (m := 2) _ (by decide)) ?_; intro v3 w3 o3 g3 c3))
      go_meet
      case rel =>
        rw [HQ7.out, if_pos (by trivial)]
        exact S0.out.more [(h.major, 329, 8), (h.minor, 337, 8)] rfl rfl rfl o1.out g1.out c1.out o2.out g2.out c2.out o3.out g3.out c3.out (by
        obtain ⟨_, _, _, _, _, i6, i7, _⟩ := HI.out.ints
        intro x hx
        simp only [List.mem_cons, List.not_mem_nil, or_false] at hx
        rcases hx with rfl | rfl
        · exact ⟨i6, Nat.le_of_ble_eq_true rfl, Nat.le_of_ble_eq_true rfl⟩
        · exact ⟨i7, Nat.le_of_ble_eq_true rfl, Nat.le_of_ble_eq_true rfl⟩)
  case rest =>
    clear k8 k11 k12 S0
    have S1 := hid hcut
    clear hcut
    have k6 := HB.cell S1.out.box (i := 6) (v := .int .u8 h.kind) rfl
    have k16 := HB.cell S1.out.box (i := 16) (v := .int .i64 h.real) rfl
    go_upto_if 44 with fail
    generalize (h.kind == 83) = bk at HQ ⊢
    go_cut [6, 7, 8, 9] from 45 to 89 (fun x y z _ wx => NS w wx h (.slice A n c) x y z 16 (M.nq h))
    case first =>
      cases bk
      · go_wp2_with fail
        go_meet
        case rel =>
          rw [HQ.out, if_neg Bool.false_ne_true]
          exact S1.out.mono (by decide)
      · go_upto_region 12 with (first
          | (refine wpList_appI rfl (.tmp 45) (.tmp 48) rfl (w.heap.size + 1) _ _ [h.real] _ rfl 1 rfl (by simp [Act.eval]) S1.out.l S1.out.base (by simp [Act.eval]) (S1.out.len (m := 1) _ (by decide)) ?_; intro v1 w1 o1 g1 c1)
          | (refine wpList_appI rfl (.tmp 50) (.tmp 51) rfl (w.heap.size + 1) _ _ [483] _ rfl 1 rfl (by simp [Act.eval]) (S1.out.a1 g1.out) (S1.out.b1 g1.out) (by simp [Act.eval]) (S1.out.len (m := 1) _ (by decide)) ?_; intro v2 w2 o2 g2 c2)
          | (refine wpList_appI rfl (.tmp 53) (.tmp 54) rfl (w.heap.size + 1) _ _ [12] _ rfl 1 rfl (by simp [Act.eval]) (S1.out.d2 g1.out g2.out) (S1.out.b2 g1.out g2.out) (by simp [Act.eval]) (S1.out.len (m := 1) _ (by decide)) ?_; intro v3 w3 o3 g3 c3))
        have S2 := hid (S1.out.more [(h.real, 483, 12)] rfl rfl rfl o1.out g1.out c1.out o2.out g2.out c2.out o3.out g3.out c3.out (by
          obtain ⟨_, _, _, _, _, _, _, i8⟩ := HI.out.ints
          intro x hx
          simp only [List.mem_cons, List.not_mem_nil, or_false] at hx
          subst hx
          exact ⟨i8, Nat.le_of_ble_eq_true rfl, Nat.le_of_ble_eq_true rfl⟩))
        clear o1 g1 c1 o2 g2 c2 o3 g3 c3 S1 k6 k16
        go_wp2_with fail
        go_loopw [6, 7, 8, 9] (fun x y z i wr => ∃ k : Nat, i = .int .i64 k ∧ k ≤ n ∧ NS w wr h (.slice A n c) x y z (8 + 2 * k) (M.nqR h k)) (fun _ _ _ i _ => n - (RowKit.intOf i).toNat)
        case atStart => exact ⟨0, rfl, Nat.zero_le _, S2.out⟩
        case round =>
          clear S2
          obtain ⟨k, rfl, hk, s⟩ := hrel
          have S3 := hid s
          clear s
          have k14 := HB.cell S3.out.box (i := 14) (v := .slice A n c) rfl
          have hk4 : k ≤ 4 := Nat.le_trans hk H4.out
          by_cases hkn : k < n
          · obtain ⟨A', c', he, _, hcells⟩ := PartsB.below HI.out.parts S3.out.below
            injection he with he1 he2 he3
            clear he2
            subst he1 he3
            obtain ⟨ba, oa, rfl, _, hca⟩ := hcells (by rw [HN.out]; omega)
            obtain ⟨⟨p, p2⟩, hpk⟩ : ∃ p, h.parts[k]? = some p := ⟨_, List.getElem?_eq_getElem (by rw [HN.out]; exact hkn)⟩
            have HPN := hid (HI.out.nums _ (List.mem_of_getElem? hpk))
            have HRS := hid (nqR_succ hpk)
            clear hcells hca
            go_wp2_with fail
            have S4 := hid S3.out.drew
            clear S3 k14
            obtain ⟨A', c', he, _, hcells⟩ := PartsB.below HI.out.parts S4.out.below
            injection he with he1 he2 he3
            clear he2
            subst he1 he3
            obtain ⟨ba', oa', he, hba, hca⟩ := hcells (by rw [HN.out]; omega)
            injection he with he
            injection he with he1 he2
            subst he1 he2
            obtain ⟨a0, a1⟩ := hca k _ hpk
            dsimp only at a0 a1
            rw [show 2 * k = k * 2 by omega] at a0 a1
            have C14 := hid (fun V (hV : Below (w.heap.size + 1) wr.drew V) => (hV.cell (p := ⟨w.heap.size, 14, none⟩) (Nat.lt_succ_self _)).trans (HB.cell S4.out.box (i := 14) (v := .slice (some ⟨ba, oa, none⟩) n c) rfl))
            have CA0 := hid (fun V (hV : Below (w.heap.size + 1) wr.drew V) => (hV.cell (p := ⟨ba, oa + k * 2, none⟩) (Nat.lt_succ_of_lt hba)).trans a0)
            have CA1 := hid (fun V (hV : Below (w.heap.size + 1) wr.drew V) => (hV.cell (p := ⟨ba, oa + k * 2 + 1, none⟩) (Nat.lt_succ_of_lt hba)).trans a1)
            have hS0 : Below (w.heap.size + 1) wr.drew wr.drew := Below.refl _ _
            clear hcells hca hpk a0 a1 hba
            refine wp_region_held_drew (S := fun U => Below (w.heap.size + 1) wr.drew U) (by kernel_rfl) hS0 (fun hS => ?_)
            clear hS0
            generalize hSV : wr.drew = V at *
            clear hSV
            refine takeH (i := 0) (v := ?_) 63 rfl rfl (by kernel_rfl) (by kernel_rfl) (by kernel_rfl) (fun _ _ _ h => h) (by rfl) ?hy0 hS ?rest0
            case hy0 => (intro W hW; clear hW; go_simp; first | done | with_reducible rfl)
            try simp only [Act.put, List.setIfInBounds_toArray, List.set_cons_zero, List.set_cons_succ]
            refine takeH (i := 1) (v := ?_) 64 rfl rfl (by kernel_rfl) (by kernel_rfl) (by kernel_rfl) (fun _ _ _ h => h) (by rfl) ?hy1 hS ?rest1
            case hy1 => (intro W hW; clear hW; go_simp; first | done | with_reducible rfl)
            try simp only [Act.put, List.setIfInBounds_toArray, List.set_cons_zero, List.set_cons_succ]
            refine takeH (i := 2) (v := ?_) 65 rfl rfl (by kernel_rfl) (by kernel_rfl) (by kernel_rfl) (fun _ _ _ h => h) (by rfl) ?hy2 hS ?rest2
            case hy2 => (intro W hW; have f0 := C14.out W hW; clear hW; go_simp; first | done | with_reducible rfl)
            try simp only [Act.put, List.setIfInBounds_toArray, List.set_cons_zero, List.set_cons_succ]
            refine takeH (i := 3) (v := ?_) 66 rfl rfl (by kernel_rfl) (by kernel_rfl) (by kernel_rfl) (fun _ _ _ h => h) (by rfl) ?hy3 hS ?rest3
            case hy3 => (intro W hW; clear hW; go_simp; first | done | with_reducible rfl)
            try simp only [Act.put, List.setIfInBounds_toArray, List.set_cons_zero, List.set_cons_succ]
            refine takeH (i := 4) (v := ?_) 67 rfl rfl (by kernel_rfl) (by kernel_rfl) (by kernel_rfl) (fun _ _ _ h => h) (by rfl) ?hy4 hS ?rest4
            case hy4 => (intro W hW; clear hW; go_simp; first | done | with_reducible rfl)
            try simp only [Act.put, List.setIfInBounds_toArray, List.set_cons_zero, List.set_cons_succ]
            refine takeH (i := 5) (v := ?_) 68 rfl rfl (by kernel_rfl) (by kernel_rfl) (by kernel_rfl) (fun _ _ _ h => h) (by rfl) ?hy5 hS ?rest5
            case hy5 => (intro W hW; clear hW; go_simp; first | done | with_reducible rfl)
            try simp only [Act.put, List.setIfInBounds_toArray, List.set_cons_zero, List.set_cons_succ]
            refine takeH (i := 6) (v := ?_) 69 rfl rfl (by kernel_rfl) (by kernel_rfl) (by kernel_rfl) (fun _ _ _ h => h) (by rfl) ?hy6 hS ?rest6
            case hy6 => (intro W hW; have f0 := CA0.out W hW; clear hW; go_simp; first | done | with_reducible rfl)
            try simp only [Act.put, List.setIfInBounds_toArray, List.set_cons_zero, List.set_cons_succ]
            refine takeH (i := 7) (v := ?_) 70 rfl rfl (by kernel_rfl) (by kernel_rfl) (by kernel_rfl) (fun _ _ _ h => h) (by rfl) ?hy7 hS ?rest7
            case hy7 => (intro W hW; clear hW; go_simp; first | done | with_reducible rfl)
            try simp only [Act.put, List.setIfInBounds_toArray, List.set_cons_zero, List.set_cons_succ]
            refine takeH (i := 8) (v := ?_) 71 rfl rfl (by kernel_rfl) (by kernel_rfl) (by kernel_rfl) (fun _ _ _ h => h) (by rfl) ?hy8 hS ?rest8
            case hy8 => (intro W hW; have f0 := C14.out W hW; clear hW; go_simp; first | done | with_reducible rfl)
            try simp only [Act.put, List.setIfInBounds_toArray, List.set_cons_zero, List.set_cons_succ]
            refine takeH (i := 9) (v := ?_) 72 rfl rfl (by kernel_rfl) (by kernel_rfl) (by kernel_rfl) (fun _ _ _ h => h) (by rfl) ?hy9 hS ?rest9
            case hy9 => (intro W hW; clear hW; go_simp; first | done | with_reducible rfl)
            try simp only [Act.put, List.setIfInBounds_toArray, List.set_cons_zero, List.set_cons_succ]
            refine takeH (i := 10) (v := ?_) 73 rfl rfl (by kernel_rfl) (by kernel_rfl) (by kernel_rfl) (fun _ _ _ h => h) (by rfl) ?hy10 hS ?rest10
            case hy10 => (intro W hW; clear hW; go_simp; first | done | with_reducible rfl)
            try simp only [Act.put, List.setIfInBounds_toArray, List.set_cons_zero, List.set_cons_succ]
            refine takeH (i := 11) (v := ?_) 74 rfl rfl (by kernel_rfl) (by kernel_rfl) (by kernel_rfl) (fun _ _ _ h => h) (by rfl) ?hy11 hS ?rest11
            case hy11 => (intro W hW; clear hW; go_simp; first | done | with_reducible rfl)
            try simp only [Act.put, List.setIfInBounds_toArray, List.set_cons_zero, List.set_cons_succ]
            refine takeH (i := 12) (v := ?_) 75 rfl rfl (by kernel_rfl) (by kernel_rfl) (by kernel_rfl) (fun _ _ _ h => h) (by rfl) ?hy12 hS ?rest12
            case hy12 => (intro W hW; have f0 := CA1.out W hW; clear hW; go_simp; first | done | with_reducible rfl)
            try simp only [Act.put, List.setIfInBounds_toArray, List.set_cons_zero, List.set_cons_succ]
            refine loneH (i := 13) 76 rfl rfl (by kernel_rfl) (by rfl) (fun K hK => ?_)
            go_simp
            refine hK.out _ _ (hS.alloc S4.out.base _) (fun hS => ?_)
            clear hK K
            try simp only [Act.put, List.setIfInBounds_toArray, List.set_cons_zero, List.set_cons_succ]
            refine loneH (i := 14) 77 rfl rfl (by kernel_rfl) (by rfl) (fun K hK => ?_)
            refine wp_appI (.tmp 63) (.tmp 76) rfl (w.heap.size + 1) _ _ [p, p2] _ rfl 2 rfl (by simp [Act.eval]) S4.out.l S4.out.base (by simp [Act.eval]) (S4.out.len (m := 2) _ (by omega)) ?_
            intro v1 w1 o1 g1 c1
            refine hK.out _ _ (hS.trans (grown_low g1.out (S4.out.l.alloc _) (Nat.le_refl _) (by simp; exact Nat.le_of_succ_le S4.out.base))) (fun hS => ?_)
            clear hK K
            try simp only [Act.put, List.setIfInBounds_toArray, List.set_cons_zero, List.set_cons_succ]
            refine takeH (i := 15) (v := ?_) 6 rfl rfl (by kernel_rfl) (by kernel_rfl) (by kernel_rfl) (fun _ _ _ h => h) (by rfl) ?hy15 hS ?rest15
            case hy15 => (intro W hW; clear hW; go_simp; first | done | with_reducible rfl)
            try simp only [Act.put, List.setIfInBounds_toArray, List.set_cons_zero, List.set_cons_succ]
            refine wpAnyH_done (by kernel_rfl) ?_ _
            try simp only [Act.put, List.setIfInBounds_toArray, List.set_cons_zero, List.set_cons_succ]
            go_wp2_with (first
              | (refine wpList_appI rfl (.tmp 78) (.tmp 85) rfl (w.heap.size + 1) _ _ [386 + 24 * (k : Int), 398 + 24 * (k : Int)] _ rfl 2 rfl (by simp [Act.eval]) (S4.out.a1 g1.out) (S4.out.b1 g1.out) (by simp [Act.eval]) (S4.out.len (m := 2) _ (by omega)) ?_; intro v2 w2 o2 g2 c2)
              | (refine wpList_appI rfl (.tmp 87) (.tmp 88) rfl (w.heap.size + 1) _ _ [12, 12] _ rfl 2 rfl (by simp [Act.eval]) (S4.out.d2 g1.out g2.out) (S4.out.b2 g1.out g2.out) (by simp [Act.eval]) (S4.out.len (m := 2) _ (by omega)) ?_; intro v3 w3 o3 g3 c3))
            go_roundw
            case rel =>
             refine ⟨k + 1, (by go_num), hkn, ?_⟩
             rw [HRS.out]
             exact (S4.out.more [(p, 386 + 24 * k, 12), (p2, 398 + 24 * k, 12)] rfl (by simp [fT]) rfl o1.out g1.out c1.out o2.out g2.out c2.out o3.out g3.out c3.out (by
              intro x hx
              simp only [List.mem_cons, List.not_mem_nil, or_false] at hx
              have hk3 : k ≤ 3 := by have := H4.out; omega
              rcases hx with rfl | rfl
              · exact ⟨HPN.out.1, show 386 + 24 * k + 12 ≤ 512 by omega, Nat.le_refl _⟩
              · exact ⟨HPN.out.2, show 398 + 24 * k + 12 ≤ 512 by omega, Nat.le_refl _⟩)).mono (show 8 + 2 * k + 2 ≤ 8 + 2 * (k + 1) by omega)
            case measure => simp [RowKit.intOf]; omega
          · go_wp2_with fail
            go_meet
            case rel =>
              rw [HQ.out, if_pos (by trivial)]
              obtain rfl : k = n := by omega
              exact S3.out.mono (by have := H4.out; omega)
    case rest =>
      clear k6 k16 S1
      have s2 := hcut
      clear hcut
      have HNq := hid (rfl : M.nq h = M.nq h)
      generalize hq2 : M.nq h = q2 at s2
      have HQ2 := hid hq2
      clear hq2
      obtain ⟨gl, cl, ga, ca, gd, cd, rfl, rfl, rfl, HC⟩ := s2.forms g HX.out.lt
      have S2 := hid s2
      have HXD := hid (BX.below HX.out s2.below HX.out.lt)
      have HFit := hid s2.fit
      have h16 := s2.few
      have HUD := hid s2.below
      clear s2 S2
      generalize hnq : q2.length = nq at *
      have HNQ := hid hnq
      clear hnq
      go_wp2_with fail
      go_loopw [0, 10] (fun b i wr => ∃ k : Nat, b = .slice (some ⟨g, 0, none⟩) 512 512 ∧ i = .int .i64 k ∧ k ≤ nq ∧ (∃ zk, Hid (BX wr g zk) ∧ Hid (M.dn zs0 (M.nq h) = M.dn zk ((M.nq h).drop k))) ∧ Hid (But g wc wr)) (fun _ i _ => nq - (RowKit.intOf i).toNat)
      case atStart => exact ⟨0, rfl, rfl, Nat.zero_le _, ⟨zs0, HXD, hid rfl⟩, hid (But.refl _ _)⟩
      case round =>
        clear HXD
        obtain ⟨k, rfl, rfl, hk, ⟨zk, HXr, HD⟩, HU⟩ := hrel
        by_cases hlt : k < nq
        · obtain ⟨⟨z, a, m⟩, hq⟩ : ∃ x, q2[k]? = some x := ⟨_, List.getElem?_eq_getElem (by rw [HNQ.out]; exact hlt)⟩
          obtain ⟨hz, ham, hm⟩ := HFit.out _ (List.mem_of_getElem? hq)
          dsimp only at hz ham hm
          have E5 := hid (show decide (k < nq) = true by rw [decide_eq_true_eq]; omega)
          have HLT := hid hlt
          go_wp2_with fail
          try simp only [E5.out]
          clear E5 hlt
          have HXd := hid HXr.out.drew
          have HUd := hid HU.out.drew
          clear HXr HU
          have HC1 := hid (fun V (hV : But g wc V ∧ BX V g zk) => (HC.out V hV.1 k _ hq).1)
          have HC2 := hid (fun V (hV : But g wc V ∧ BX V g zk) => (HC.out V hV.1 k _ hq).2.2)
          have HC3 := hid (fun V (hV : But g wc V) => HC.out V hV k _ hq)
          have HDk := hid (show M.dn zs0 (M.nq h) = M.dn zk ((z, a, m) :: (M.nq h).drop (k + 1)) by
            rw [← HQ2.out] at hq
            obtain ⟨hq1, hq2⟩ := List.getElem?_eq_some_iff.1 hq
            rw [HD.out, List.drop_eq_getElem_cons hq1, hq2])
          dsimp only at HC1 HC2 HC3
          have HZ := hid hz
          clear hq
          refine wp_region_held_drew (S := fun V => But g wc V ∧ BX V g zk) (by kernel_rfl) ⟨HUd.out, HXd.out⟩ (fun hS => ?_)
          refine takeH (i := 0) (v := ?_) 97 rfl rfl (by kernel_rfl) (by kernel_rfl) (by kernel_rfl) (fun _ _ _ h => h) (by rfl) ?hy0d hS ?rest0d
          case hy0d => (intro W hW; clear hW; go_simp; first | done | with_reducible rfl)
          try simp only [Act.put, List.setIfInBounds_toArray, List.set_cons_zero, List.set_cons_succ]
          refine takeH (i := 1) (v := ?_) 98 rfl rfl (by kernel_rfl) (by kernel_rfl) (by kernel_rfl) (fun _ _ _ h => h) (by rfl) ?hy1d hS ?rest1d
          case hy1d => (intro W hW; clear hW; go_simp; first | done | with_reducible rfl)
          try simp only [Act.put, List.setIfInBounds_toArray, List.set_cons_zero, List.set_cons_succ]
          refine takeH (i := 2) (v := ?_) 99 rfl rfl (by kernel_rfl) (by kernel_rfl) (by kernel_rfl) (fun _ _ _ h => h) (by rfl) ?hy2d hS ?rest2d
          case hy2d => (intro W hW; have f0 := HLT.out; clear hW; go_simp; first | done | with_reducible rfl)
          try simp only [Act.put, List.setIfInBounds_toArray, List.set_cons_zero, List.set_cons_succ]
          refine takeH (i := 3) (v := ?_) 100 rfl rfl (by kernel_rfl) (by kernel_rfl) (by kernel_rfl) (fun _ _ _ h => h) (by rfl) ?hy3d hS ?rest3d
          case hy3d => (intro W hW; have f0 := HC1.out W hW; clear hW; go_simp; first | done | with_reducible rfl)
          try simp only [Act.put, List.setIfInBounds_toArray, List.set_cons_zero, List.set_cons_succ]
          refine takeH (i := 4) (v := ?_) 101 rfl rfl (by kernel_rfl) (by kernel_rfl) (by kernel_rfl) (fun _ _ _ h => h) (by rfl) ?hy4d hS ?rest4d
          case hy4d => (intro W hW; clear hW; go_simp; first | done | with_reducible rfl)
          try simp only [Act.put, List.setIfInBounds_toArray, List.set_cons_zero, List.set_cons_succ]
          refine takeH (i := 5) (v := ?_) 102 rfl rfl (by kernel_rfl) (by kernel_rfl) (by kernel_rfl) (fun _ _ _ h => h) (by rfl) ?hy5d hS ?rest5d
          case hy5d => (intro W hW; clear hW; go_simp; first | done | with_reducible rfl)
          try simp only [Act.put, List.setIfInBounds_toArray, List.set_cons_zero, List.set_cons_succ]
          refine takeH (i := 6) (v := ?_) 103 rfl rfl (by kernel_rfl) (by kernel_rfl) (by kernel_rfl) (fun _ _ _ h => h) (by rfl) ?hy6d hS ?rest6d
          case hy6d => (intro W hW; have f0 := HLT.out; clear hW; go_simp; first | done | with_reducible rfl)
          try simp only [Act.put, List.setIfInBounds_toArray, List.set_cons_zero, List.set_cons_succ]
          refine takeH (i := 7) (v := ?_) 104 rfl rfl (by kernel_rfl) (by kernel_rfl) (by kernel_rfl) (fun _ _ _ h => h) (by rfl) ?hy7d hS ?rest7d
          case hy7d => (intro W hW; have f0 := HC2.out W hW; clear hW; go_simp; first | done | with_reducible rfl)
          try simp only [Act.put, List.setIfInBounds_toArray, List.set_cons_zero, List.set_cons_succ]
          refine loneH (i := 8) 105 rfl rfl (by kernel_rfl) (by rfl) (fun K hK => ?_)
          go_simp
          generalize hSV : World.drew wr = V at *
          (with_reducible refine (putRef_own z m _ HZ.out).mono ?_)
          rintro e w1 ⟨A1, n1, rfl, hrd, b1, hown⟩
          have HNE := hid (fun b off (e : A1 = some ⟨b, off, none⟩) => (Nat.ne_of_gt (Nat.lt_of_lt_of_le hS.2.lt (hown b off e)) : b ≠ g))
          clear hown
          have HX1 := hid (BX.below hS.2 b1 hS.2.lt)
          have HU1 := hid (hS.1.trans (But.of_below b1))
          clear hS
          refine hK.out _ _ ⟨HU1.out, HX1.out⟩ (fun hS => ?_)
          clear hK K
          try simp only [Act.put, List.setIfInBounds_toArray, List.set_cons_zero, List.set_cons_succ]
          refine takeH (i := 9) (v := ?_) 96 rfl rfl (by kernel_rfl) (by kernel_rfl) (by kernel_rfl) (fun _ _ _ h => h) (by rfl) ?hy9d hS ?rest9d
          case hy9d => (intro W hW; clear hW; go_simp; first | done | with_reducible rfl)
          try simp only [Act.put, List.setIfInBounds_toArray, List.set_cons_zero, List.set_cons_succ]
          refine takeH (i := 10) (v := ?_) 106 rfl rfl (by kernel_rfl) (by kernel_rfl) (by kernel_rfl) (fun _ _ _ h => h) (by rfl) ?hy10d hS ?rest10d
          case hy10d => (intro W hW; clear hW; go_simp; first | done | with_reducible rfl)
          try simp only [Act.put, List.setIfInBounds_toArray, List.set_cons_zero, List.set_cons_succ]
          refine takeH (i := 11) (v := ?_) 107 rfl rfl (by kernel_rfl) (by kernel_rfl) (by kernel_rfl) (fun _ _ _ h => h) (by rfl) ?hy11d hS ?rest11d
          case hy11d => (intro W hW; clear hW; go_simp; first | done | with_reducible rfl)
          try simp only [Act.put, List.setIfInBounds_toArray, List.set_cons_zero, List.set_cons_succ]
          refine takeH (i := 12) (v := ?_) 11 rfl rfl (by kernel_rfl) (by kernel_rfl) (by kernel_rfl) (fun _ _ _ h => h) (by rfl) ?hy12d hS ?rest12d
          case hy12d => (intro W hW; clear hW; go_simp; first | done | with_reducible rfl)
          try simp only [Act.put, List.setIfInBounds_toArray, List.set_cons_zero, List.set_cons_succ]
          refine takeH (i := 13) (v := ?_) 12 rfl rfl (by kernel_rfl) (by kernel_rfl) (by kernel_rfl) (fun _ _ _ h => h) (by rfl) ?hy13d hS ?rest13d
          case hy13d => (intro W hW; clear hW; go_simp; first | done | with_reducible rfl)
          try simp only [Act.put, List.setIfInBounds_toArray, List.set_cons_zero, List.set_cons_succ]
          refine wpAnyH_done (by kernel_rfl) ?_ _
          try simp only [Act.put, List.setIfInBounds_toArray, List.set_cons_zero, List.set_cons_succ]
          obtain ⟨c1, c2, c3⟩ := HC3.out w1 HU1.out
          have HNo := hid (fun (hd : M.dOk (z, a, m) = false) => (by
            refine ⟨?_, (But.of_below HUD.out).trans HU1.out⟩
            rw [HDk.out]
            show (match (if M.dOk (z, a, m) = true then _ else none : Option (List Int)) with | none => _ | some zs => _)
            rw [hd, if_neg (by decide)] : LaidX g (M.dn zs0 (M.nq h)) w (.returned (.tuple #[.slice none 0 0, .bool false])) w1))
          cases hp : M.putFits z m with
          | false =>
            have HN1 := hid (HNo.out (by unfold M.dOk; rw [hp]; rfl))
            clear hrd HNo
            go_wp2
            go_ret2
            exact HN1.out
          | true =>
            have hn1 : n1 = m := by have := hrd.len; rw [putR_len hp] at this; exact this.symm
            subst hn1
            have HR := hid hrd
            have HP := hid hp
            clear hrd hp hz
            have HCL := hid (layX_any g a A1 n1 n1 zk (M.putR z n1) w1 HX1.out HR.out HNE.out ham)
            rcases (by omega : (¬ z < 0) ∨ (z < 0 ∧ a = 136) ∨ (z < 0 ∧ a ≠ 136)) with hz0 | ⟨hz0, ha⟩ | ⟨hz0, ha⟩
            case inr.inr =>
              have HN1 := hid (HNo.out (by unfold M.dOk; rw [HP.out, decide_eq_false (by omega), Bool.false_or, Bool.true_and, beq_eq_false_iff_ne]; exact ha))
              have ha1 : ((a : Int) == 136) = false := by rw [beq_eq_false_iff_ne]; omega
              have ha2 : ((a : Int) != 136) = true := by rw [bne_iff_ne]; omega
              clear ha HNo
              go_wp2
              go_ret2
              exact HN1.out
            all_goals
              have HT := hid (show M.dn zs0 (M.nq h) = M.dn (splice zk a (M.putR z n1)) ((M.nq h).drop (k + 1)) by
                rw [HDk.out]
                show (if M.dOk (z, a, n1) = true then _ else none) = _
                rw [if_pos (by unfold M.dOk; rw [HP.out]; simp; omega)])
            case' inl => skip
            case' inr.inl =>
              have ha1 : ((a : Int) == 136) = true := by rw [beq_iff_eq]; omega
              have ha2 : ((a : Int) != 136) = false := by rw [bne_eq_false_iff_eq]; omega
              clear ha
            all_goals
              clear HNo
              go_wp2_with fail
              (with_reducible refine HCL.out.mono ?_)
              rintro e w2 ⟨rfl, hx2, hu2⟩
              have HX2 := hid hx2
              have HU2 := hid (HU1.out.trans hu2)
              clear hx2 hu2 c1 c2 c3 HX1 HU1 HCL HR
              go_wp2_with fail
              go_roundw
              case rel => exact ⟨k + 1, rfl, (by go_num), HLT.out, ⟨_, HX2, HT⟩, HU2⟩
              case measure => have := HLT.out; simp [RowKit.intOf]; omega
        · obtain rfl : k = nq := by omega
          go_wp2
          go_ret2
          refine ⟨?_, (But.of_below HUD.out).trans HU.out⟩
          rw [HD.out, List.drop_of_length_le (by rw [HQ2.out, HNQ.out]; exact Nat.le_refl _)]
          exact ⟨rfl, HXr.out⟩
end Go.Proofs.YtkpnhggpcpjddaaGreatDoor
