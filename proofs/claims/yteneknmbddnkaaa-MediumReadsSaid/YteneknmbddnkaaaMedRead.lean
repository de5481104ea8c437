/-
  A medium in memory; the contracts of left and size.
-/
import Derived.Test.YteneknmbddnkaaaMedMake
import Derived.Test.YteneknmbddnkaaaSumStep
import Derived.Deep.QuietTactic
import Derived.BigQuiet
import Derived.StillTailTactics
namespace Go.Proofs.Yteneknmbddnkaaa
open Go.RowKit Go.Lib

/-- Block g is a medium: its image, its sizes, the next place, the next size. -/
structure Med (w : World) (g : Nat) (zs bad ss : List Int) (p t : Nat) : Prop where
  at_ : ∃ A c A1 c1 A2 c2, Blk w g 57 [.slice A zs.length c, .slice A1 bad.length c1, .slice A2 ss.length c2, .int .i64 p, .int .i64 t] ∧
    Rd w g A zs.length zs ∧ zs.length ≤ c ∧ c ≤ maxLen ∧ RdI w g A1 bad.length bad ∧ RdI w g A2 ss.length ss
  place : p ≤ zs.length
  turn : t < ss.length
  small : zs.length ≤ 1000000 ∧ bad.length ≤ 1000000 ∧ ss.length ≤ 1000000

theorem Rd.far {w w' : World} {B n : Nat} {A : Option Addr} {zs : List Int} (h : Rd w B A n zs) (hb : ∀ k, k < B → w'.heap[k]? = w.heap[k]?) : Rd w' B A n zs := h.keep fun p hp => World.cell?_of_block (hb p.block hp)
theorem RdI.far {w w' : World} {B n : Nat} {A : Option Addr} {zs : List Int} (h : RdI w B A n zs) (hb : ∀ k, k < B → w'.heap[k]? = w.heap[k]?) : RdI w' B A n zs := h.keep fun p hp => World.cell?_of_block (hb p.block hp)

set_option maxRecDepth 100000 in
set_option maxHeartbeats 400000 in
theorem left_any (g : Nat) (zs bad ss : List Int) (p t : Nat) (w : World) (h : Med w g zs bad ss p t) :
    Calls Try.prog 31 #[.pointer (some ⟨g, 0, none⟩)] w fun e w' => e = .returned (.int .i64 ((zs.length - p : Nat) : Int)) ∧ Below w.heap.size w w' := by
  obtain ⟨⟨A, c, A1, c1, A2, c2, hb, _, _, _, _, _⟩, hp, _, hs, _, _⟩ := h
  have c0 := hb.cell (i := 0) rfl
  have c3 := hb.cell (i := 3) rfl
  have HX : Hid ((zs.length : Int) - (p : Int) = ((zs.length - p : Nat) : Int)) := hid (by omega)
  generalize zs.length - p = q at *
  clear hb
  go_enter Try.func31, Try.ntmps31
  go_wp2_with fail
  go_quiet (fail)
  go_wp2
  go_ret
  exact ⟨ret_int HX.out, below_drewN' (Below.refl _ _) _⟩

theorem mod_nat (t n : Nat) : ((t : Int) + 1).tmod n = (((t + 1) % n : Nat) : Int) := by
  rw [Int.tmod_eq_emod_of_nonneg (a := (t : Int) + 1) (by omega), Int.natCast_emod]
  rfl
theorem Med.kept {w w' : World} {g : Nat} {zs bad ss : List Int} {p t : Nat} (h : Med w g zs bad ss p t) (hb : ∀ k, k ≤ g → w'.heap[k]? = w.heap[k]?) : Med w' g zs bad ss p t := by
  obtain ⟨⟨A, c, A1, c1, A2, c2, hx, hr, hc, hm, hr1, hr2⟩, hp, ht, hs⟩ := h
  exact ⟨⟨A, c, A1, c1, A2, c2, hx.of_block (hb g (Nat.le_refl _)), hr.far fun k hk => hb k (by omega), hc, hm, hr1.far fun k hk => hb k (by omega), hr2.far fun k hk => hb k (by omega)⟩, hp, ht, hs⟩
theorem Med.lt {w : World} {g : Nat} {zs bad ss : List Int} {p t : Nat} (h : Med w g zs bad ss p t) : g < w.heap.size := by
  obtain ⟨⟨A, c, A1, c1, A2, c2, hx, _⟩, _⟩ := h
  exact hx.lt
theorem Med.later {w w' : World} {g : Nat} {zs bad ss : List Int} {p t : Nat} (h : Med w g zs bad ss p t) (hb : Below w.heap.size w w') : Med w' g zs bad ss p t := h.kept fun k hk => hb.block k (by have := h.lt; omega)
theorem Blk.drewN {w : World} {g : Nat} {t : TypeId} {vs : List Value} (h : Blk w g t vs) (k : Nat) : Blk (w.drewN k) g t vs := h
theorem grown_drew {w w' : World} {row : Option Nat} (h : w.grownBy w' row) : w.grownBy w'.drew row := ⟨h.os, h.tape, h.output, h.size, h.block⟩
theorem grown_drewN {w w' : World} {row : Option Nat} (h : w.grownBy w' row) (k : Nat) : w.grownBy (w'.drewN k) row := ⟨h.os, h.tape, h.output, h.size, h.block⟩

set_option maxRecDepth 100000 in
set_option maxHeartbeats 1000000 in
theorem size_any (g : Nat) (zs bad ss : List Int) (p t : Nat) (w : World) (h : Med w g zs bad ss p t) :
    Calls Try.prog 32 #[.pointer (some ⟨g, 0, none⟩)] w fun e w' => e = .returned (.int .i64 (M.clip (ss.getD t 0) : Nat)) ∧ Med w' g zs bad ss p ((t + 1) % ss.length) ∧ w.grownBy w' (some g) := by
  obtain ⟨⟨A, c, A1, c1, A2, c2, hb, hr, hc, hm, hr1, hr2⟩, hp, ht, hs⟩ := h
  have c2' := hb.cell (i := 2) rfl
  have c4 := hb.cell (i := 4) rfl
  have f4 := hb.frozen 4
  obtain ⟨b, off, z, rfl, hbb, hz0, hz1, hzt, hcz⟩ := hr2.at_ ht
  have hd : ss.getD t 0 = z := by rw [List.getD_eq_getElem?_getD, hzt]; rfl
  have HX : Hid (min (max z 1) 4096 = ((M.clip (ss.getD t 0) : Nat) : Int)) := hid (by rw [hd]; exact M.clip_int z)
  have e1 : IntKind.i64.wrap ((t : Int) + 1) = (t : Int) + 1 := IntWalk.i64_in _ (by omega)
  have e2 : ((t : Int) + 1).tmod (ss.length : Int) = (((t + 1) % ss.length : Nat) : Int) := mod_nat t ss.length
  have hm0 : (t + 1) % ss.length < ss.length := Nat.mod_lt _ (by omega)
  have hne : ss.length ≠ 0 := by omega
  generalize (t + 1) % ss.length = q at *
  generalize M.clip (ss.getD t 0) = v at *
  have HB := hid hb
  have HR := hid (⟨hr, hc, hm, hr1, hr2⟩ : Rd w g A zs.length zs ∧ zs.length ≤ c ∧ c ≤ maxLen ∧ RdI w g A1 bad.length bad ∧ RdI w g (some ⟨b, off, none⟩) ss.length ss)
  clear hb hr hr1 hr2 hd hzt hc hm
  go_enter Try.func32, Try.ntmps32
  go_wp2_with fail
  go_quiet (fail)
  go_wp2_with fail
  have HB1 := hid (HB.out.drewN nq)
  have HG1 := hid (grown_drewN (World.grownBy.refl w (some g)) nq)
  generalize w.drewN nq = v1 at *
  clear c2' c4 hcz
  refine wp_region_still_tail 14 (by kernel_rfl) (by kernel_rfl) ?_
  simp only [List.take_succ_cons, List.take_zero, List.drop_succ_cons, List.drop_zero]
  have HB2 : Hid (Blk v1.drew g _ _) := hid HB1.out.drew
  have HG2 := hid (grown_drew HG1.out)
  unfold World.drew at HB2 HG2
  generalize ({ v1 with drawn := v1.drawn + 1 } : World) = V at *
  have c2V := HB2.out.cell (i := 2) rfl
  have c4V := HB2.out.cell (i := 4) rfl
  have f4V := HB2.out.frozen 4
  repeat still_step
  try refine wpStill_nil ?_
  go_wp2
  go_ret
  have h4 := HB2.out.set 4 (.int .i64 q)
  have hg4 := HG2.out.trans (grownBy_setCell V g 4 (.int .i64 q))
  obtain ⟨r1, r2, r3, r4, r5⟩ := HR.out
  have hfar : ∀ k, k < g → (V.setCell ⟨g, 4, none⟩ (.int .i64 q)).heap[k]? = w.heap[k]? := fun k hk => hg4.block k (by have := HB.out.lt; omega) (fun e => by injection e with e; omega)
  exact ⟨ret_int HX.out, ⟨⟨_, _, _, _, _, _, h4, r1.far hfar, r2, r3, r4.far hfar, r5.far hfar⟩, hp, hm0, hs⟩, hg4⟩
end Go.Proofs.Yteneknmbddnkaaa
