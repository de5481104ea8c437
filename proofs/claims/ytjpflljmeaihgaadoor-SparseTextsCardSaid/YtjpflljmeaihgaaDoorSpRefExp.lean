/-
  Expand: the document's answer.
-/
import Derived.Test.YtjpflljmeaihgaaDoorSpExpandW
import Derived.Test.YtjpflljmeaihgaaDoorSpRefCheck
import Derived.Deep.LoopGhost
namespace Go.Proofs.YtjpflljmeaihgaaDoor
open Go.RowKit Go.Lib

/-- An address, a place on, in one form. -/
theorem add_plain (b off n : Nat) : Addr.add ⟨b, off, none⟩ n = ⟨b, off + n, none⟩ := by
  unfold Addr.add
  split
  · rename_i h; subst h; rfl
  · rfl
attribute [local go_sem ↓] add_plain
namespace M
theorem lay_set {E d2 : List Int} {e a R j : Nat} {z : Int} (hE : E.length = e) (h1 : e ≤ a) (h2 : a + j < R) (hz : d2[j]? = some z) :
    (E ++ zeros (a - e) ++ d2.take j ++ zeros (R - (a + j))).set (a + j) z = E ++ zeros (a - e) ++ d2.take (j + 1) ++ zeros (R - (a + (j + 1))) := by
  obtain ⟨hj, rfl⟩ := List.getElem?_eq_some_iff.1 hz
  have hl : (E ++ zeros (a - e) ++ d2.take j).length = a + j := by
    rw [List.length_append, List.length_append, zeros_len, List.length_take]; omega
  rw [List.set_append_right _ _ (by omega), hl, Nat.sub_self, List.take_succ_eq_append_getElem hj]
  unfold zeros
  obtain ⟨r, hr⟩ : ∃ r, R - (a + j) = r + 1 := ⟨R - (a + j) - 1, by omega⟩
  rw [hr, show R - (a + (j + 1)) = r by omega, List.replicate_succ, List.set_cons_zero]
  simp only [List.append_assoc, List.cons_append, List.nil_append]
theorem lay_start (E : List Int) {e a R : Nat} (h1 : e ≤ a) (h2 : a ≤ R) (d2 : List Int) : E ++ zeros (R - e) = E ++ zeros (a - e) ++ d2.take 0 ++ zeros (R - (a + 0)) := by
  unfold zeros
  rw [List.take_zero, List.append_nil, List.append_assoc, List.replicate_append_replicate]
  congr 2
  omega
end M
/-- What the document's Expand answers. -/
def RefExpandTo (l : List M.Pt) (d : List Int) (real : Int) (w : World) (e : Ending) (w' : World) : Prop :=
  ∃ v, e = .returned (.tuple #[v, .int .i64 (M.expandE l d.length real)]) ∧ OwnY w' w.heap.size v (M.expandB l d real) ∧ Below w.heap.size w w'
theorem RefExpandTo.no {l : List M.Pt} {d : List Int} {real n : Int} {w w' : World} (h : M.expandE l d.length real = n) (hn : n ≠ 0) (hb : Below w.heap.size w w') : RefExpandTo l d real w (.returned (.tuple #[.slice none 0 0, .int .i64 n])) w' :=
  ⟨_, by rw [h], by rw [M.expandB_no (by rw [h]; exact hn)]; exact OwnY.nil _ _, hb⟩

set_option maxRecDepth 100000 in
set_option maxHeartbeats 4000000 in
theorem refExpand_any (A : Option Addr) (n c : Nat) (l : List M.Pt) (real : Int) (Ad : Option Addr) (m cd : Nat) (d : List Int) (w : World) (hr : RdP w w.heap.size A n l) (hi : M.i64s l) (hn : n ≤ 1000000)
    (hd : Rd w w.heap.size Ad m d) (hm : m ≤ 1000000) (hmc : m ≤ cd) :
    Calls Tryd.prog 20 #[.slice A n c, .int .i64 real, .slice Ad m cd] w (RefExpandTo l d real w) := by
  have HL := hid hr.len
  have HD := hid hd.len
  have HR := hid (fun (W : World) (hW : Below w.heap.size w W) => hr.below hW)
  have HRd := hid (fun (W : World) (hW : Below w.heap.size w W) => hd.below hW)
  have HC := hid (refCheck_any A n c l m real w hr hi hn)
  clear hr hi hd
  go_enter Tryd.func20, Tryd.ntmps20
  go_wp2_with fail
  (with_reducible refine HC.out.mono ?_)
  rintro e w1 ⟨rfl, hb1⟩
  have HB1 := hid hb1
  clear hb1 HC
  by_cases hc : M.check l m real = 0
  case' neg =>
    have HE := hid (show M.expandE l d.length real = M.check l m real by rw [HD.out]; exact M.expandE_bad hc)
    have HN := hid hc
    have d1 : (M.check l m real != 0) = true := by simpa using hc
    clear hc
    generalize M.check l m real = ce at *
    go_wp2
    go_ret2
    exact RefExpandTo.no HE.out HN.out HB1.out
  case' pos =>
    have d1 : (M.check l m real != 0) = false := by simpa using hc
    by_cases hlong : 1048576 < real
    case' pos =>
      have HE := hid (show M.expandE l d.length real = 3 by rw [HD.out]; exact M.expandE_long hc hlong)
      have d2 : decide (1048576 < real) = true := by rw [decide_eq_true_eq]; exact hlong
      clear hc hlong
      go_wp2
      go_ret2
      exact RefExpandTo.no HE.out (by decide) HB1.out
    case' neg =>
      have HE := hid (show M.expandE l d.length real = 0 by rw [HD.out]; exact M.expandE_ok hc hlong)
      have d2 : decide (1048576 < real) = false := by rw [decide_eq_false_iff_not]; exact hlong
      obtain ⟨hl1, hr0, _, ef, hw⟩ := M.check_ok hc
      obtain ⟨R, rfl⟩ : ∃ R : Nat, real = R := ⟨real.toNat, by omega⟩
      have hR : R ≤ 1048576 := by omega
      have HW := hid (show M.walk R 0 0 l = some (ef, (d.length : Int)) by rw [HD.out]; exact hw)
      have hmk := run_makeB R (by omega) w1
      clear hc hlong hw hr0
      go_wp2_with fail
      clear hmk d1 d2
      have hnew : Blk (w1.alloc (.cells (bcells (M.zeros R)).toArray 5)) w1.heap.size 5 (bcells (M.zeros R)) := Blk.new w1 _ _
      have HG0 := hid (show Below w.heap.size w (w1.alloc (.cells (bcells (M.zeros R)).toArray 5)) from HB1.out.alloc HB1.out.size _)
      have HNEW := hid hnew
      clear hnew
      have HS1 := hid HB1.out.size
      generalize w1.alloc _ = w2 at *
      go_loopw [10, 11] (fun atv iv wr => ∃ (k e s : Nat) (E d2 : List Int), iv = .int .i64 k ∧ k ≤ n ∧ atv = .int .i64 s ∧ Hid (M.Laid R l d k e s E d2) ∧ Hid (d2 = d.drop s) ∧ Hid (Blk wr w1.heap.size 5 (bcells (E ++ M.zeros (R - e)))) ∧ Hid (Below w.heap.size w wr)) (fun _ iv _ => n - (RowKit.intOf iv).toNat)
      case atStart => exact ⟨0, 0, 0, [], d, rfl, Nat.zero_le _, rfl, hid (M.Laid.start R l d), hid rfl, hid (by rw [List.nil_append, Nat.sub_zero]; exact HNEW.out), HG0⟩
      case round =>
        obtain ⟨k, e, s, E, d2, rfl, hk, rfl, HLD, HDR, HBK, HB⟩ := hrel
        have hsm : s ≤ m := by have := HLD.out.left; have := HD.out; omega
        by_cases hlt : k < n
        · obtain ⟨b, off, p, rfl, hb, hp, hc1, hc2⟩ := (HR.out _ HB.out).at_ hlt
          obtain ⟨a, q, rfl, hea, haq, hqd, HL2, hsp⟩ := HLD.out.more HW.out hp
          dsimp only at hc1 hc2
          have HL3 := hid HL2
          have HLE := hid (⟨HLD.out.len, HLD.out.le, HLD.out.left⟩ : _ ∧ _ ∧ _)
          have d1 : decide (k < n) = true := by rw [decide_eq_true_eq]; exact hlt
          have HBK0 : Hid (Blk wr w1.heap.size 5 (bcells (E ++ M.zeros (a - e) ++ d2.take 0 ++ M.zeros (R - (a + 0))))) := hid (by rw [← M.lay_start E hea (by omega) d2]; exact HBK.out)
          obtain ⟨k1, hk1⟩ : ∃ k1, k1 = k + 1 := ⟨_, rfl⟩
          have HPT := hid (fun (W : World) (hW : Below w.heap.size w W) => (show W.cell? ⟨b, off + k * 2, none⟩ = some (.int .i64 a) ∧ W.cell? ⟨b, off + k * 2 + 1, none⟩ = some (.int .i64 q) by
            obtain ⟨b', off', p', eA, _, hp', x1, x2⟩ := (HR.out W hW).at_ hlt
            injection eA with eA
            injection eA with q1 q2
            subst q1 q2
            rw [hp] at hp'
            injection hp' with hp'
            subst hp'
            exact ⟨x1, x2⟩))
          clear hp HL2 hsp HLD HBK hc1 hc2
          go_wp2_with fail
          go_loopw [10, 12] (fun atv jv wy => ∃ (j x : Nat), jv = .int .i64 j ∧ j ≤ q ∧ atv = .int .i64 x ∧ x = s + j ∧ Hid (Blk wy w1.heap.size 5 (bcells (E ++ M.zeros (a - e) ++ d2.take j ++ M.zeros (R - (a + j))))) ∧ Hid (Below w.heap.size w wy)) (fun _ jv _ => q - (RowKit.intOf jv).toNat)
          case atStart => exact ⟨0, s, rfl, Nat.zero_le _, rfl, rfl, HBK0, HB⟩
          case round =>
            obtain ⟨j, x, rfl, hj, rfl, hxj, HBJ, HBY⟩ := hrel
            obtain ⟨x1, x2⟩ := HPT.out _ HBY.out
            by_cases hjq : j < q
            · have hxm : x < m := by have := HLE.out.2.2; have := HD.out; omega
              obtain ⟨bd, offd, z, rfl, hbd, hz0, hz1, hz, hcz⟩ := (HRd.out _ HBY.out).at_ hxm
              have hzd : d2[j]? = some z := by rw [HDR.out, List.getElem?_drop, ← hxj]; exact hz
              obtain ⟨y, hy⟩ : ∃ y : Nat, y = a + j := ⟨_, rfl⟩
              have hyi : (a : Int) + (j : Int) = (y : Int) := by omega
              have hyR : y < R := by omega
              have hyw : IntKind.i64.wrap (y : Int) = (y : Int) := IntWalk.i64_in _ (by omega)
              have hcell : ∃ u, wr.cell? ⟨w1.heap.size, y, none⟩ = some u := by
                have hl : y < (bcells (E ++ M.zeros (a - e) ++ d2.take j ++ M.zeros (R - (a + j)))).length := by
                  rw [bcells_len, List.length_append, List.length_append, List.length_append, M.zeros_len, M.zeros_len, List.length_take, HLE.out.1]
                  omega
                exact ⟨_, HBJ.out.cell (List.getElem?_eq_getElem hl)⟩
              obtain ⟨u, hu⟩ := hcell
              have hf := HBJ.out.frozen y
              have HBJ2 := hid (show Blk (wr.setCell ⟨w1.heap.size, y, none⟩ (.int .u8 z)) w1.heap.size 5 (bcells (E ++ M.zeros (a - e) ++ d2.take (j + 1) ++ M.zeros (R - (a + (j + 1))))) by
                have h := HBJ.out.set y (.int .u8 z)
                rw [bcells_set, hy, M.lay_set HLE.out.1 hea (by omega) hzd] at h
                rw [hy]; exact h)
              have HBY2 := hid (HBY.out.setCell (p := ⟨w1.heap.size, y, none⟩) HS1.out (.int .u8 z))
              have d2' : decide (j < q) = true := by rw [decide_eq_true_eq]; exact hjq
              obtain ⟨j1, hj1⟩ : ∃ j1, j1 = j + 1 := ⟨_, rfl⟩
              obtain ⟨xx, hxx⟩ : ∃ xx, xx = x + 1 := ⟨_, rfl⟩
              rw [← hj1] at HBJ2
              have HXJ := hid (show xx = s + j1 by omega)
              clear hz hzd hxj hy HBJ HBY hb
              go_wp2_with fail
              go_region_law (fail)
              all_goals
                go_wp2
                go_roundw
                case rel => exact ⟨j1, xx, (by subst hj1; first | rfl | go_num), by omega, (by subst hxx; first | rfl | go_num), HXJ.out, HBJ2, hid (below_drew' HBY2.out)⟩
                case measure => simp [RowKit.intOf] <;> omega
            · obtain rfl : j = q := by omega
              have d2' : decide (j < j) = false := by simp
              have HBN := hid (show Blk wr w1.heap.size 5 (bcells ((E ++ M.zeros (a - e) ++ d2.take j) ++ M.zeros (R - (a + j)))) from HBJ.out)
              have HD3 := hid (show d2.drop j = d.drop x by rw [HDR.out, List.drop_drop, hxj])
              have HL4 := hid (show M.Laid R l d k1 (a + j) x (E ++ M.zeros (a - e) ++ d2.take j) (d2.drop j) by rw [hk1, hxj]; exact HL3.out)
              clear hjq
              go_wp2
              go_roundw
              case rel => exact ⟨k1, a + j, x, _, _, (by subst hk1; first | rfl | go_num), by omega, rfl, HL4, HD3, HBN, HBY⟩
              case measure => simp [RowKit.intOf] <;> omega
        · obtain rfl : k = n := by omega
          have d1 : decide (k < k) = false := by simp
          have HF := hid (show M.file R l d = E ++ M.zeros (R - e) from M.Laid.done (by rw [HL.out]; exact HLD.out))
          have HLen := hid (show (E ++ M.zeros (R - e)).length = R by rw [List.length_append, M.zeros_len, HLD.out.len]; have := HLD.out.le; omega)
          clear HLD hlt
          go_wp2
          go_ret2
          refine ⟨_, by rw [HE.out]; rfl, ?_, HB.out⟩
          rw [M.expandB_ok HE.out, Int.toNat_natCast, HF.out]
          exact OwnY.of_blk HBK.out HS1.out HLen.out (by omega)
end Go.Proofs.YtjpflljmeaihgaaDoor
