/-
  Expand: the walk.
-/
import Derived.Test.YtjpflljmeaihgaaDoorSpMake
namespace Go.Proofs.YtjpflljmeaihgaaDoor
open Go.RowKit Go.Lib
attribute [local go_sem ↓] spSlice_from spSlice_to

/-- What Expand answers. -/
def ExpandTo (l : List M.Pt) (d : List Int) (real : Int) (w : World) (e : Ending) (w' : World) : Prop :=
  ∃ v, e = .returned (.tuple #[v, .int .u16 (M.expandE l d.length real)]) ∧ OwnY w' w.heap.size v (M.expandB l d real) ∧ Below w.heap.size w w'
theorem ExpandTo.no {l : List M.Pt} {d : List Int} {real n : Int} {w w' : World} (h : M.expandE l d.length real = n) (hn : n ≠ 0) (hb : Below w.heap.size w w') : ExpandTo l d real w (.returned (.tuple #[.slice none 0 0, .int .u16 n])) w' :=
  ⟨_, by rw [h], by rw [M.expandB_no (by rw [h]; exact hn)]; exact OwnY.nil _ _, hb⟩

set_option maxRecDepth 100000 in
set_option maxHeartbeats 2000000 in
theorem expand_any (A : Option Addr) (n c : Nat) (l : List M.Pt) (real : Int) (Ad : Option Addr) (m cd : Nat) (d : List Int) (w : World) (hr : RdP w w.heap.size A n l) (hi : M.i64s l) (hn : n ≤ 1000000)
    (hd : Rd w w.heap.size Ad m d) (hm : m ≤ 1000000) (hmc : m ≤ cd) :
    Calls Tryd.prog 13 #[.slice A n c, .int .i64 real, .slice Ad m cd] w (ExpandTo l d real w) := by
  have HL := hid hr.len
  have HD := hid hd.len
  have HR := hid (fun (W : World) (hW : Below w.heap.size w W) => hr.below hW)
  have HRd := hid (fun (W : World) (hW : Below w.heap.size w W) => hd.below hW)
  have HC := hid (check_any A n c l m real w hr hi hn)
  clear hr hi hd
  go_enter Tryd.func13, Tryd.ntmps13
  go_wp2_with fail
  (with_reducible refine HC.out.mono ?_)
  rintro e w1 ⟨rfl, hb1⟩
  have HB1 := hid hb1
  clear hb1 HC
  by_cases hc : M.check l m real = 0
  case' neg =>
    have HE := hid (show M.expandE l d.length real = M.check l m real by rw [HD.out]; exact M.expandE_bad hc)
    have HN := hid hc
    have d1 : (M.check l m real != 0) = true := by simpa using hc
    clear hc
    generalize M.check l m real = ce at *
    go_wp2
    go_ret2
    exact ExpandTo.no HE.out HN.out HB1.out
  case' pos =>
    have d1 : (M.check l m real != 0) = false := by simpa using hc
    by_cases hlong : 1048576 < real
    case' pos =>
      have HE := hid (show M.expandE l d.length real = 3 by rw [HD.out]; exact M.expandE_long hc hlong)
      have d2 : decide (1048576 < real) = true := by rw [decide_eq_true_eq]; exact hlong
      clear hc hlong
      go_wp2
      go_ret2
      exact ExpandTo.no HE.out (by decide) HB1.out
    case' neg =>
      have HE := hid (show M.expandE l d.length real = 0 by rw [HD.out]; exact M.expandE_ok hc hlong)
      have d2 : decide (1048576 < real) = false := by rw [decide_eq_false_iff_not]; exact hlong
      obtain ⟨hl1, hr0, _, ef, hw⟩ := M.check_ok hc
      obtain ⟨R, rfl⟩ : ∃ R : Nat, real = R := ⟨real.toNat, by omega⟩
      have hR : R ≤ 1048576 := by omega
      have HW := hid (show M.walk R 0 0 l = some (ef, (d.length : Int)) by rw [HD.out]; exact hw)
      have hmk := run_makeB R (by omega) w1
      clear hc hlong hw hr0
      go_wp2_with fail
      clear hmk d1 d2
      have hnew : Blk (w1.alloc (.cells (bcells (M.zeros R)).toArray 5)) w1.heap.size 5 (bcells (M.zeros R)) := Blk.new w1 _ _
      have HG0 := hid (show Below w.heap.size w (w1.alloc (.cells (bcells (M.zeros R)).toArray 5)) from HB1.out.alloc HB1.out.size _)
      have HNEW := hid hnew
      clear hnew
      have HS1 := hid HB1.out.size
      generalize w1.alloc _ = w2 at *
      go_loopw [2, 26] (fun dv iv wr => ∃ (k e s : Nat) (E d2 : List Int) (A2 : Option Addr) (n2 c2 : Nat), iv = .int .i64 k ∧ k ≤ n ∧ dv = .slice A2 n2 c2 ∧ n2 ≤ c2 ∧ Hid (M.Laid R l d k e s E d2) ∧ Hid (Rd wr w.heap.size A2 n2 d2) ∧ Hid (Blk wr w1.heap.size 5 (bcells (E ++ M.zeros (R - e)))) ∧ Hid (Below w.heap.size w wr)) (fun _ iv _ => n - (RowKit.intOf iv).toNat)
      case atStart => exact ⟨0, 0, 0, [], d, Ad, m, cd, rfl, Nat.zero_le _, rfl, hmc, hid (M.Laid.start R l d), hid (HRd.out _ HG0.out), hid (by rw [List.nil_append, Nat.sub_zero]; exact HNEW.out), HG0⟩
      case round =>
        obtain ⟨k, e, s, E, d2, A2, n2, c2, rfl, hk, rfl, hnc, HLD, HR2, HBK, HB⟩ := hrel
        by_cases hlt : k < n
        · obtain ⟨b, off, p, rfl, hb, hp, hc1, hc2⟩ := (HR.out _ HB.out).at_ hlt
          obtain ⟨a, q, rfl, hea, haq, hqd, HL2, hsp⟩ := HLD.out.more HW.out hp
          dsimp only at hc1 hc2
          have HL3 := hid HL2
          have hn2 := HR2.out.len
          have hqn : q ≤ n2 := by omega
          have HSP := hid hsp
          have hx : (d2.take q).length = q := by rw [List.length_take]; omega
          have HX := hid hx
          have HLE := hid (show E.length = e ∧ e ≤ R from ⟨HLD.out.len, HLD.out.le⟩)
          have hbx := BoxP.new wr (a : Int) (q : Int)
          clear hp HL2 hsp hx HLD
          have hbs := HB.out.size
          have HBW := hid (HB.out.alloc hbs (.cells #[.int .i64 a, .int .i64 q] 29))
          have HBK2 := hid (HBK.out.alloc (.cells #[.int .i64 a, .int .i64 q] 29))
          have HN := hid (show (d2.take q).length = Nat.min q (R - a) by rw [HX.out]; exact (Nat.min_eq_left (by omega)).symm)
          have HFIT := hid (show a + (d2.take q).length ≤ (E ++ M.zeros (R - e)).length by rw [HX.out, List.length_append, M.zeros_len, HLE.out.1]; have := HLE.out.2; omega)
          have HPOS := hid (show 0 < (d2.take q).length → cutA (some ⟨w1.heap.size, 0, none⟩) R a = some ⟨w1.heap.size, a, none⟩ ∧ ∃ ad, A2 = some ad ∧ ∀ j v, (bcells (d2.take q))[j]? = some v → (wr.alloc (.cells #[.int .i64 a, .int .i64 q] 29)).cell? (ad.add j) = some v by
            intro h
            rw [HX.out] at h
            obtain ⟨ad, e1, _, e3⟩ := (((HR2.out.front hqn).alloc hbs (.cells #[.int .i64 a, .int .i64 q] 29)).reads).2 h
            exact ⟨cutA_zero (by omega), ad, e1, e3⟩)
          have HR3 := hid ((HR2.out.alloc hbs (.cells #[.int .i64 a, .int .i64 q] 29)).cut hqn hnc)
          have hne : wr.heap.size ≠ w1.heap.size := by have := HBK.out.lt; omega
          have HNE := hid hne
          have i1 : (a : Int) ≤ (R : Int) := by omega
          have i2 : (q : Int) ≤ (c2 : Int) := by omega
          have i3 : (q : Int) ≤ (n2 : Int) := by omega
          clear HB HBK HR2 hn2
          by_cases hk0 : k = 0
          case' pos =>
            subst hk0
            simp only [Nat.zero_mul, Nat.add_zero] at hc1 hc2
          case' neg => have hk1 : 0 < k := by omega
          all_goals
            have c0 := hbx.cell0
            have c1 := hbx.cell1
            go_wp2_with fail
            go_region_law (refine step_copy_but rfl (.tmp 33) (.tmp 37) rfl (cutA (some ⟨w1.heap.size, 0, none⟩) R a) A2 (R - a) (R - a) q c2 (by simp [Act.eval, Act.put]) (by simp [Act.eval, Act.put]) w1.heap.size a (E ++ M.zeros (R - e)) (d2.take q) HBK2.out HN.out HPOS.out HFIT.out ?_; intro w4 hg4 hs4 hk4)
          all_goals
            have hbx4 : BoxP w4 wr.heap.size (a : Int) (q : Int) := (hk4.out _ HNE.out).trans hbx
            have hc4 := hbx4.cell1
            have HR4 := hid (HR3.out.keep fun p hp => World.cell?_of_block (hk4.out p.block (by have := HS1.out; omega)))
            have HB4 := hid ((below_drew' HBW.out).trans (⟨hs4.out.1, hs4.out.2.1, hs4.out.2.2.1, Nat.le_of_eq hs4.out.2.2.2.symm, fun k hk => hk4.out k (by have := HS1.out; omega)⟩ : Below w.heap.size _ w4))
            have HG4 : Hid (Blk w4 w1.heap.size 5 (bcells ((E ++ M.zeros (a - e) ++ d2.take q) ++ M.zeros (R - (a + q))))) := hid (by rw [← HSP.out]; exact hg4.out)
            clear hg4 hs4 hk4 hbx4 c0 c1 hc1 hc2 hbx HR3 HBW HBK2 HPOS HFIT HN
            go_wp2
            go_roundw
            case rel => exact ⟨_, a + q, s + q, _, _, _, _, _, (show Value.int .i64 _ = Value.int .i64 ((_ + 1 : Nat) : Int) by go_num), by omega, rfl, by omega, HL3, HR4, HG4, HB4⟩
            case measure => simp [RowKit.intOf]; omega
        · obtain rfl : k = n := by omega
          have HF := hid (show M.file R l d = E ++ M.zeros (R - e) from M.Laid.done (by rw [HL.out]; exact HLD.out))
          have HLen := hid (show (E ++ M.zeros (R - e)).length = R by rw [List.length_append, M.zeros_len, HLD.out.len]; have := HLD.out.le; omega)
          clear HLD
          go_wp2
          go_ret2
          refine ⟨_, by rw [HE.out]; rfl, ?_, HB.out⟩
          rw [M.expandB_ok HE.out, Int.toNat_natCast, HF.out]
          exact OwnY.of_blk HBK.out HS1.out HLen.out (by omega)
end Go.Proofs.YtjpflljmeaihgaaDoor
