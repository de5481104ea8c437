/-
  Pack: the program's answer.
-/
import Derived.Test.YtjpflljmeaihgaaDoorSpRows
namespace Go.Proofs.YtjpflljmeaihgaaDoor
open Go.RowKit Go.Lib
attribute [local go_sem ↓] spSlice_from spSlice_to spSlice_mid

namespace M
theorem rowsAt_len (b : List Int) (f a : Nat) : (rowsAt b f a).length ≤ b.length - a + 1 := by
  induction f, a using rowsAt.induct (b := b) with
  | case1 f a h hb ih =>
    rw [rowsAt_blank h hb, List.length_append]
    have := rowEnd_len f a
    omega
  | case2 f a h hb ih =>
    rw [rowsAt_some h (by simpa using hb)]
    omega
  | case3 f a h =>
    rw [rowsAt_end h]
    have := rowEnd_len f b.length
    omega
theorem rows_len (b : List Int) : (rows b).length ≤ b.length + 1 := by have := rowsAt_len b 0 0; unfold rows; omega
theorem rowEnd_in {f t n : Nat} (ht : t ≤ n) {p : Pt} (hp : p ∈ rowEnd f t) : ∃ a q : Nat, p = ((a : Int), (q : Int)) ∧ a + q ≤ n ∧ 0 < q := by
  unfold rowEnd at hp
  split at hp
  · cases hp
  · obtain rfl := List.mem_singleton.1 hp
    exact ⟨f, t - f, rfl, by omega, by omega⟩
theorem rowsAt_in (b : List Int) (f a : Nat) : ∀ p ∈ rowsAt b f a, ∃ a q : Nat, p = ((a : Int), (q : Int)) ∧ a + q ≤ b.length ∧ 0 < q := by
  induction f, a using rowsAt.induct (b := b) with
  | case1 f a h hb ih =>
    intro p hp
    rw [rowsAt_blank h hb, List.mem_append] at hp
    rcases hp with hp | hp
    · exact rowEnd_in (by omega) hp
    · exact ih p hp
  | case2 f a h hb ih =>
    intro p hp
    rw [rowsAt_some h (by simpa using hb)] at hp
    exact ih p hp
  | case3 f a h =>
    intro p hp
    rw [rowsAt_end h] at hp
    exact rowEnd_in (Nat.le_refl _) hp
theorem had_take {b : List Int} {l : List Pt} {k a q : Nat} (hp : l[k]? = some ((a : Int), (q : Int))) : had b (l.take (k + 1)) = had b (l.take k) ++ (b.drop a).take q := by
  obtain ⟨hk, he⟩ := List.getElem?_eq_some_iff.1 hp
  unfold had
  rw [List.take_succ_eq_append_getElem hk, List.flatMap_append, he]
  simp
end M

/-- What Pack answers. -/
def PackTo (zs : List Int) (w : World) (e : Ending) (w' : World) : Prop :=
  ∃ v u, e = .returned (.tuple #[v, u]) ∧ OwnP w' w.heap.size v (M.rows zs) ∧ OwnY w' w.heap.size u (M.had zs (M.rows zs)) ∧ Below w.heap.size w w'

set_option maxRecDepth 100000 in
set_option maxHeartbeats 2000000 in
theorem pack_any (A : Option Addr) (n c : Nat) (zs : List Int) (w : World) (hr : Rd w w.heap.size A n zs) (hn : n ≤ 20000) (hc : n ≤ c) :
    Calls Tryd.prog 9 #[.slice A n c] w (PackTo zs w) := by
  have HL := hid hr.len
  have HR := hid (fun (W : World) (hW : Below w.heap.size w W) => hr.below hW)
  have HC := hid (rows_any A n c zs w hr (by omega) hc)
  clear hr
  go_enter Tryd.func9, Tryd.ntmps9
  go_wp2_with fail
  (with_reducible refine HC.out.mono ?_)
  rintro e w1 ⟨v, rfl, ho1, hb1⟩
  have HO := hid ho1
  have HB1 := hid hb1
  obtain ⟨A1, c1, rfl, hr1, _⟩ := ho1.rd
  have HRP := hid hr1
  have HLN := hid (show (M.rows zs).length ≤ n + 1 by have := M.rows_len zs; rw [HL.out] at this; exact this)
  have HIN := hid (M.rowsAt_in zs 0 0)
  clear ho1 hb1 hr1 HC
  generalize hrl : (M.rows zs).length = rl at *
  have HRL := hid hrl
  have hrl2 := HLN.out
  clear hrl
  go_wp2_with fail
  go_loopw [5, 12] (fun uv iv wr => ∃ (k : Nat), iv = .int .i64 k ∧ k ≤ rl ∧ Hid (OwnY wr w1.heap.size uv (M.had zs ((M.rows zs).take k))) ∧ Hid ((M.had zs ((M.rows zs).take k)).length ≤ k * 20000) ∧ Hid (Below w1.heap.size w1 wr)) (fun _ iv _ => rl - (RowKit.intOf iv).toNat)
  case atStart => exact ⟨0, rfl, Nat.zero_le _, hid (by rw [List.take_zero]; exact OwnY.nil _ _), hid (by rw [List.take_zero]; simp [M.had]), hid (Below.refl _ _)⟩
  case round =>
    obtain ⟨k, rfl, hk, HU, HUL, HB⟩ := hrel
    obtain ⟨A2, c2, rfl, _, _⟩ := own_room HU.out
    have hbs := HB.out.size
    by_cases hlt : k < rl
    · obtain ⟨b, off, p, rfl, hb, hp, hc1, hc2⟩ := (HRP.out.below HB.out).at_ hlt
      obtain ⟨a, q, rfl, haq, _⟩ := HIN.out p (List.mem_of_getElem? hp)
      rw [HL.out] at haq
      dsimp only at hc1 hc2
      have HHT := hid (M.had_take (b := zs) hp)
      have hbw : Below w.heap.size w wr := HB1.out.trans (HB.out.mono HB1.out.size)
      have HRx := hid (((HR.out wr hbw).cut (k := a) (by omega) hc).front (k := q) (by omega))
      have HBX := hid (HB.out.alloc hbs (.cells #[.int .i64 a, .int .i64 q] 29))
      have hbx := BoxP.new wr (a : Int) (q : Int)
      have HUA : Hid (OwnY (wr.alloc (.cells #[.int .i64 a, .int .i64 q] 29)) w1.heap.size (.slice A2 (M.had zs ((M.rows zs).take k)).length c2) (M.had zs ((M.rows zs).take k))) := hid (World.ownsRow.alloc HU.out _)
      have HRy := hid (HRx.out.alloc (Nat.le_trans HB1.out.size hbs) (.cells #[.int .i64 a, .int .i64 q] 29))
      have i0 : (0 : Int) ≤ (a : Int) := by omega
      have i1 : (a : Int) ≤ (a : Int) + (q : Int) := by omega
      have i2 : (a : Int) + (q : Int) ≤ (c : Int) := by omega
      have i3 : ((a : Int) + (q : Int)).toNat = a + q := by omega
      have i4 : a + q - a = q := by omega
      have HQ := hid (show (M.had zs ((M.rows zs).take (k + 1))).length ≤ (k + 1) * 20000 by
        rw [HHT.out, List.length_append, List.length_take]
        have := HUL.out
        omega)
      have hul : (M.had zs ((M.rows zs).take k)).length ≤ 900000000 := by have := HUL.out; omega
      have hbs2 : w1.heap.size ≤ (wr.alloc (.cells #[.int .i64 a, .int .i64 q] 29)).heap.size := HBX.out.size
      clear hp HU HRx HUL hbw HB
      generalize M.had zs ((M.rows zs).take k) = acc at *
      obtain ⟨k1, hk1⟩ : ∃ k1, k1 = k + 1 := ⟨_, rfl⟩
      rw [← hk1] at HHT HQ
      have c0 := hbx.cell0
      have c3 := hbx.cell1
      by_cases hk0 : k = 0
      case' pos =>
        subst hk0
        simp only [Nat.zero_mul, Nat.add_zero] at hc1 hc2
      case' neg => have hkp : 0 < k := by omega
      all_goals
        go_wp2_with (refine wpList_app_bytes rfl (.tmp 16) (.tmp 25) rfl w1.heap.size (.slice A2 acc.length c2) acc (by simp [Act.eval]) HUA.out w.heap.size (cutA A c a) q (c - a) ((zs.drop a).take q) (by simp [Act.eval, *]) HRy.out (by omega) hbs2 ?_; intro v' w9 ho9 hg9 _)
        have HB9 := hid (below_grown HBX.out hg9 hbs2 (fun g hg => World.ownsRow.lt HUA.out g hg |>.1))
        go_roundw
        case rel => exact ⟨k1, (by subst hk1; first | rfl | go_num), by omega, hid (by rw [HHT.out]; exact ho9), HQ, HB9⟩
        case measure => simp [RowKit.intOf]; omega
    · obtain rfl : k = rl := by omega
      have HU2 := HU.out
      have e1 : (M.rows zs).take k = M.rows zs := List.take_of_length_le (Nat.le_of_eq HRL.out)
      rw [e1] at HU2
      have HU3 := hid HU2
      have d1 : decide (k < k) = false := by simp
      clear HU2 hlt e1
      have el : (M.had zs (List.take k (M.rows zs))) = M.had zs (M.rows zs) := by rw [List.take_of_length_le (Nat.le_of_eq HRL.out)]
      go_wp2
      go_ret2
      exact ⟨_, _, rfl, HO.out.later HB.out, by rw [el]; exact HU3.out.lower HB1.out.size, HB1.out.trans (HB.out.mono HB1.out.size)⟩
end Go.Proofs.YtjpflljmeaihgaaDoor
