/-
  The contract of Read.
-/
import Derived.Test.YteneknmbddnkaaaMedRead
import Derived.Deep.RegionWith
import Derived.Deep.CutRange
import Derived.Deep.RegionLawGrows
namespace Go.Proofs.Yteneknmbddnkaaa
open Go.RowKit Go.Lib

theorem Rd.piece {w : World} {B n b off : Nat} {zs : List Int} (h : Rd w B (some ⟨b, off, none⟩) n zs) (p q : Nat) (hpq : p + q ≤ n) : Rd w B (some ⟨b, off + p, none⟩) q (M.pbytes zs p q) := by
  unfold M.pbytes
  refine ⟨by rw [List.length_take, List.length_drop, h.len]; omega, fun z hz => h.bd z (List.mem_of_mem_drop (List.mem_of_mem_take hz)), fun hn => ?_⟩
  obtain ⟨b', off', e, hb, hc⟩ := h.2.2 (by omega)
  cases e
  refine ⟨b, off + p, rfl, hb, fun j z hj => ?_⟩
  rw [List.getElem?_take] at hj
  split at hj
  · rw [List.getElem?_drop] at hj
    rw [Nat.add_assoc]
    exact hc _ z hj
  · cases hj

section
variable {w : World} {g : Nat} {zs bad ss : List Int} {p t : Nat}
theorem Med.c3 (h : Med w g zs bad ss p t) : w.cell? ⟨g, 3, none⟩ = some (.int .i64 p) := by
  obtain ⟨⟨A, c, A1, c1, A2, c2, hx, _⟩, _⟩ := h
  exact hx.cell rfl
theorem Med.f3 (h : Med w g zs bad ss p t) : w.frozen? ⟨g, 3, none⟩ = false := by
  obtain ⟨⟨A, c, A1, c1, A2, c2, hx, _⟩, _⟩ := h
  exact hx.frozen 3
theorem Med.drew (h : Med w g zs bad ss p t) : Med w.drew g zs bad ss p t := h.kept fun _ _ => rfl
/-- Read on: the next place. -/
theorem Med.on (h : Med w g zs bad ss p t) {q : Nat} (hq : q ≤ zs.length) : Med (w.setCell ⟨g, 3, none⟩ (.int .i64 q)) g zs bad ss q t := by
  obtain ⟨⟨A, c, A1, c1, A2, c2, hx, hr, hc, hm, hr1, hr2⟩, hp, ht, hs⟩ := h
  have hg := grownBy_setCell w g 3 (.int .i64 q)
  have hf : ∀ k, k < g → (w.setCell ⟨g, 3, none⟩ (.int .i64 q)).heap[k]? = w.heap[k]? := fun k hk => hg.block k (by have := hx.lt; omega) (fun e => by injection e with e; omega)
  exact ⟨⟨A, c, A1, c1, A2, c2, hx.set 3 _, hr.far hf, hc, hm, hr1.far hf, hr2.far hf⟩, hq, ht, hs⟩
end

set_option maxRecDepth 100000 in
set_option maxHeartbeats 1000000 in
theorem read_none (g : Nat) (zs bad ss : List Int) (t : Nat) (w : World) (h : Med w g zs bad ss zs.length t) :
    Calls Try.prog 14 #[.pointer (some ⟨g, 0, none⟩)] w fun e w' => e = .returned (.tuple #[.slice none 0 0, .bool false]) ∧ Below w.heap.size w w' := by
  have HL := hid (left_any g zs bad ss zs.length t w h)
  rw [Nat.sub_self] at HL
  clear h
  go_enter Try.func14, Try.ntmps14
  go_wp2_with fail
  (with_reducible refine HL.out.mono ?_)
  rintro e w1 ⟨rfl, b1⟩
  go_wp2
  go_ret2
  exact ⟨rfl, b1⟩

/-- What a Read gives. -/
def ReadPost (w : World) (g : Nat) (zs bad ss : List Int) (p t : Nat) (e : Ending) (w' : World) : Prop :=
  ∃ v, e = .returned (.tuple #[v, .bool true]) ∧ OwnY w' w.heap.size v (M.pbytes zs p (M.pc ss t (zs.length - p))) ∧ Med w' g zs bad ss (p + M.pc ss t (zs.length - p)) ((t + 1) % ss.length) ∧ w.grownBy w' (some g)

set_option maxRecDepth 100000 in
set_option maxHeartbeats 4000000 in
theorem read_some (g : Nat) (zs bad ss : List Int) (p t : Nat) (w : World) (h : Med w g zs bad ss p t) (hp : p < zs.length) :
    Calls Try.prog 14 #[.pointer (some ⟨g, 0, none⟩)] w (ReadPost w g zs bad ss p t) := by
  have HL := hid (fun W t (h : Med W g zs bad ss p t) => left_any g zs bad ss p t W h)
  have HS := hid (fun W (h : Med W g zs bad ss p t) => size_any g zs bad ss p t W h)
  have hz := h.small.1
  have hd : (((zs.length - p : Nat) : Int) == 0) = false := by simp; omega
  have HP : Hid (min ((M.clip (ss.getD t 0) : Nat) : Int) ((zs.length - p : Nat) : Int) = (M.pc ss t (zs.length - p) : Nat)) := hid (by unfold M.pc; omega)
  have hpc := M.pc_le ss t (zs.length - p)
  have hc4 := (M.clip_pos (ss.getD t 0)).2
  have e1 : IntKind.i64.wrap ((p : Int) + (M.pc ss t (zs.length - p) : Nat)) = ((p + M.pc ss t (zs.length - p) : Nat) : Int) := by rw [IntWalk.i64_in _ (by omega)]; omega
  have hq0 := M.pc_pos ss t (left := zs.length - p) (by omega)
  have H := hid h
  have hbytes : u8s zs := by
    obtain ⟨⟨A, c, A1, c1, A2, c2, hx, hr, _⟩, _⟩ := h
    exact hr.bd
  have HU := hid hbytes
  clear h hbytes
  unfold ReadPost
  generalize (t + 1) % ss.length = t' at *
  generalize M.pc ss t (zs.length - p) = q at *
  generalize M.clip (ss.getD t 0) = v at *
  have HLL : Hid (zs.length - p ≤ zs.length) := hid (by omega)
  generalize hleft : zs.length - p = lf at *
  go_enter Try.func14, Try.ntmps14
  go_wp2_with fail
  (with_reducible refine (HL.out _ _ H.out).mono ?_)
  rintro e w1 ⟨rfl, b1⟩
  have h1 := H.out.later b1
  have c3 := h1.c3
  have H1 := hid h1
  go_wp2_with fail
  have G1 := hid (grown_of_below b1 (some g))
  clear b1 h1
  go_cut [] from 16 to 27 (fun wc => Med wc g zs bad ss (p + q) t' ∧ w.grownBy wc (some g))
  case first =>
    go_region_with (first
      | (go_at_call 32; (with_reducible refine (HS.out _ H1.out.drew).mono ?_); rintro e w2 ⟨rfl, h2, g2⟩; have c3b := h2.c3; have f3b := h2.f3; have H2 := hid h2; have G2 := hid g2; clear h2 g2)
      | (go_at_call 31; (with_reducible refine (HL.out _ _ H2.out).mono ?_); rintro e w3 ⟨rfl, b3⟩; have h3 := H2.out.later b3; have c3c := h3.c3; have f3c := h3.f3; have H3 := hid h3; have B3 := hid b3; clear h3 b3))
    all_goals
      rw [HP.out, e1]
      go_wp2
      go_meet
      case rel =>
        exact ⟨H3.out.on (by omega), (((grown_drew G1.out).trans G2.out).trans (grown_of_below B3.out (some g))).trans (grownBy_setCell w3 g 3 _)⟩
  case rest =>
    obtain ⟨hM, hG⟩ := hcut
    have HM := hid hM
    have HG := hid hG
    obtain ⟨⟨A, c, A1, c1, A2, c2, hx, hr, hnc, hcm, _, _⟩, hpq, _, _⟩ := hM
    obtain ⟨b, off, rfl, hbg, hcells⟩ := hr.2.2 (by omega)
    have d0 := hx.cell (i := 0) rfl
    have d3 := hx.cell (i := 3) rfl
    have hgl := hx.lt
    have HC := hid (hr.piece p q hpq)
    have hrq : p + q - p = q := by omega
    have hpr : p ≤ p + q := by omega
    have hrc : p + q ≤ c := by omega
    have hcp : ¬ c = p := by omega
    generalize hR : p + q = r at *
    have HR := hid hR
    have HCL := hid (cloneB_any (some ⟨b, off + p, none⟩) q (c - p) (M.pbytes zs p q) wc.drew g HC.out (Nat.le_of_lt hgl) (by omega))
    clear hR
    clear hG hx hr hcells H1 G1 HS HL c3 HP e1 hd hleft hc4 hpc
    go_wp2_with fail
    refine wp_region_held_drew (S := fun W => W.cell? ⟨g, 0, none⟩ = some (.slice (some ⟨b, off, none⟩) zs.length c) ∧ W.cell? ⟨g, 3, none⟩ = some (.int .i64 r)) (by kernel_rfl) ⟨d0, d3⟩ (fun hS => ?_)
    refine takeH (i := 0) (v := ?_) 28 rfl rfl (by kernel_rfl) (by kernel_rfl) (by kernel_rfl) (fun _ _ _ h => h) (by rfl) ?hy0 hS ?rest0
    case hy0 => (intro W hW; have hW1 := hW.1; have hW2 := hW.2; clear hW; go_simp; first | done | with_reducible rfl)
    try simp only [Act.put, List.setIfInBounds_toArray, List.set_cons_zero, List.set_cons_succ]
    refine takeH (i := 1) (v := ?_) 29 rfl rfl (by kernel_rfl) (by kernel_rfl) (by kernel_rfl) (fun _ _ _ h => h) (by rfl) ?hy1 hS ?rest1
    case hy1 => (intro W hW; have hW1 := hW.1; have hW2 := hW.2; clear hW; go_simp; first | done | with_reducible rfl)
    try simp only [Act.put, List.setIfInBounds_toArray, List.set_cons_zero, List.set_cons_succ]
    refine takeH (i := 2) (v := ?_) 30 rfl rfl (by kernel_rfl) (by kernel_rfl) (by kernel_rfl) (fun _ _ _ h => h) (by rfl) ?hy2 hS ?rest2
    case hy2 => (intro W hW; have hW1 := hW.1; have hW2 := hW.2; clear hW; go_simp; first | done | with_reducible rfl)
    try simp only [Act.put, List.setIfInBounds_toArray, List.set_cons_zero, List.set_cons_succ]
    refine takeH (i := 3) (v := ?_) 31 rfl rfl (by kernel_rfl) (by kernel_rfl) (by kernel_rfl) (fun _ _ _ h => h) (by rfl) ?hy3 hS ?rest3
    case hy3 => (intro W hW; have hW1 := hW.1; have hW2 := hW.2; clear hW; go_simp; first | done | with_reducible rfl)
    try simp only [Act.put, List.setIfInBounds_toArray, List.set_cons_zero, List.set_cons_succ]
    refine takeH (i := 4) (v := ?_) 32 rfl rfl (by kernel_rfl) (by kernel_rfl) (by kernel_rfl) (fun _ _ _ h => h) (by rfl) ?hy4 hS ?rest4
    case hy4 => (intro W hW; have hW1 := hW.1; have hW2 := hW.2; clear hW; go_simp; first | done | with_reducible rfl)
    try simp only [Act.put, List.setIfInBounds_toArray, List.set_cons_zero, List.set_cons_succ]
    refine takeH (i := 5) (v := ?_) 33 rfl rfl (by kernel_rfl) (by kernel_rfl) (by kernel_rfl) (fun _ _ _ h => h) (by rfl) ?hy5 hS ?rest5
    case hy5 => (intro W hW; have hW1 := hW.1; have hW2 := hW.2; clear hW; go_simp; first | done | with_reducible rfl)
    try simp only [Act.put, List.setIfInBounds_toArray, List.set_cons_zero, List.set_cons_succ]
    refine takeH (i := 6) (v := ?_) 34 rfl rfl (by kernel_rfl) (by kernel_rfl) (by kernel_rfl) (fun _ _ _ h => h) (by rfl) ?hy6 hS ?rest6
    case hy6 => (intro W hW; have hW1 := hW.1; have hW2 := hW.2; clear hW; go_simp; first | done | with_reducible rfl)
    try simp only [Act.put, List.setIfInBounds_toArray, List.set_cons_zero, List.set_cons_succ]
    refine takeH (i := 7) (v := ?_) 35 rfl rfl (by kernel_rfl) (by kernel_rfl) (by kernel_rfl) (fun _ _ _ h => h) (by rfl) ?hy7 hS ?rest7
    case hy7 => (intro W hW; have hW1 := hW.1; have hW2 := hW.2; clear hW; go_simp; first | done | with_reducible rfl)
    try simp only [Act.put, List.setIfInBounds_toArray, List.set_cons_zero, List.set_cons_succ]
    refine takeH (i := 8) (v := ?_) 36 rfl rfl (by kernel_rfl) (by kernel_rfl) (by kernel_rfl) (fun _ _ _ h => h) (by rfl) ?hy8 hS ?rest8
    case hy8 => (intro W hW; have hW1 := hW.1; have hW2 := hW.2; clear hW; go_simp; first | done | with_reducible rfl)
    try simp only [Act.put, List.setIfInBounds_toArray, List.set_cons_zero, List.set_cons_succ]
    refine takeH (i := 9) (v := ?_) 37 rfl rfl (by kernel_rfl) (by kernel_rfl) (by kernel_rfl) (fun _ _ _ h => h) (by rfl) ?hy9 hS ?rest9
    case hy9 => (intro W hW; have hW1 := hW.1; have hW2 := hW.2; clear hW; go_simp; first | done | with_reducible rfl)
    try simp only [Act.put, List.setIfInBounds_toArray, List.set_cons_zero, List.set_cons_succ]
    refine takeH (i := 10) (v := ?_) 38 rfl rfl (by kernel_rfl) (by kernel_rfl) (by kernel_rfl) (fun _ _ _ h => h) (by rfl) ?hy10 hS ?rest10
    case hy10 => (intro W hW; have hW1 := hW.1; have hW2 := hW.2; clear hW; go_simp; first | done | with_reducible rfl)
    try simp only [Act.put, List.setIfInBounds_toArray, List.set_cons_zero, List.set_cons_succ]
    refine loneH (i := 11) 39 rfl rfl (by kernel_rfl) (by rfl) (fun K hK => ?_)
    go_simp
    (with_reducible refine HCL.out.mono ?_)
    rintro e w4 ⟨v4, rfl, hv4, b4⟩
    have hS4 := And.intro ((b4.cell (p := ⟨g, 0, none⟩) hgl).trans hS.1) ((b4.cell (p := ⟨g, 3, none⟩) hgl).trans hS.2)
    have HV4 := hid hv4
    have HB4 := hid b4
    clear hv4 b4 hS
    refine hK.out _ _ hS4 (fun hS => ?_)
    clear hK K
    try simp only [Act.put, List.setIfInBounds_toArray, List.set_cons_zero, List.set_cons_succ]
    refine takeH (i := 12) (v := ?_) 2 rfl rfl (by kernel_rfl) (by kernel_rfl) (by kernel_rfl) (fun _ _ _ h => h) (by rfl) ?hy12 hS ?rest12
    case hy12 => (intro W hW; have hW1 := hW.1; have hW2 := hW.2; clear hW; go_simp; first | done | with_reducible rfl)
    try simp only [Act.put, List.setIfInBounds_toArray, List.set_cons_zero, List.set_cons_succ]
    refine takeH (i := 13) (v := ?_) 3 rfl rfl (by kernel_rfl) (by kernel_rfl) (by kernel_rfl) (fun _ _ _ h => h) (by rfl) ?hy13 hS ?rest13
    case hy13 => (intro W hW; have hW1 := hW.1; have hW2 := hW.2; clear hW; go_simp; first | done | with_reducible rfl)
    try simp only [Act.put, List.setIfInBounds_toArray, List.set_cons_zero, List.set_cons_succ]
    refine wpAnyH_done (by kernel_rfl) ?_ _
    go_wp2
    go_ret2
    refine ⟨v4, rfl, ?_, ?_, HG.out.trans (grown_of_below (show Below wc.heap.size wc w4 from ⟨HB4.out.os, HB4.out.tape, HB4.out.output, HB4.out.size, HB4.out.block⟩) (some g))⟩
    · exact ownsRow_lower HV4.out HG.out.size
    · rw [HR.out]
      exact HM.out.later ⟨HB4.out.os, HB4.out.tape, HB4.out.output, HB4.out.size, HB4.out.block⟩
end Go.Proofs.Yteneknmbddnkaaa
