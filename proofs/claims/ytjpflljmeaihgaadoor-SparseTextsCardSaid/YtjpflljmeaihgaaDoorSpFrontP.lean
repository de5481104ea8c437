/-
  Front: the program's answer; the document's Same of two that are one.
-/
import Derived.Test.YtjpflljmeaihgaaDoorSpCheck
import Derived.Deep.QuietTactic
import Derived.BigQuiet
namespace Go.Proofs.YtjpflljmeaihgaaDoor
open Go.RowKit Go.Lib

namespace M
theorem front_low {l : List Pt} {n : Int} (h : n ≤ 0) : front l n = [] := by
  cases l with
  | nil => rfl
  | cons p l => unfold front; rw [if_neg (by omega)]
theorem front_step {l acc : List Pt} {n m : Int} {k : Nat} {p : Pt} {q : Int} (h : front l n = acc ++ front (l.drop k) m) (hp : l[k]? = some p) (hm : 0 < m) (hq : min p.2 m = q) : front l n = (acc ++ [(p.1, q)]) ++ front (l.drop (k + 1)) (m - q) := by
  obtain ⟨hk, rfl⟩ := List.getElem?_eq_some_iff.1 hp
  rw [h, List.drop_eq_getElem_cons hk, front, if_pos hm, hq, List.append_assoc]
  rfl
end M
/-- What Front answers. -/
def FrontTo (l : List M.Pt) (n : Int) (w : World) (e : Ending) (w' : World) : Prop :=
  ∃ v, e = .returned v ∧ OwnP w' w.heap.size v (M.front l n) ∧ Below w.heap.size w w'

set_option maxRecDepth 100000 in
set_option maxHeartbeats 2000000 in
theorem front_any (A : Option Addr) (n c : Nat) (l : List M.Pt) (x : Int) (w : World) (hr : RdP w w.heap.size A n l) (hn : n ≤ 1000000) (hl : ∀ p ∈ l, 0 ≤ p.2 ∧ p.2 ≤ 1000000000) (hx : -1000000000 ≤ x ∧ x ≤ 1000000000) :
    Calls Tryd.prog 25 #[.slice A n c, .int .i64 x] w (FrontTo l x w) := by
  have HL := hid hr.len
  have HR := hid (fun (W : World) (hW : Below w.heap.size w W) => hr.below hW)
  have HP := hid hl
  clear hr hl
  go_enter Tryd.func25, Tryd.ntmps25
  go_wp2
  go_loopw [1, 5, 10] (fun nv lv iv wr => ∃ (k : Nat) (acc : List M.Pt) (m : Int), iv = .int .i64 k ∧ k ≤ n ∧ nv = .int .i64 m ∧ -1000000000 ≤ m ∧ m ≤ 1000000000 ∧ Hid (acc.length = k) ∧ Hid (M.front l x = acc ++ M.front (l.drop k) m) ∧ Hid (OwnP wr w.heap.size lv acc) ∧ Hid (Below w.heap.size w wr)) (fun _ _ iv _ => n - (RowKit.intOf iv).toNat)
  case atStart => exact ⟨0, [], x, rfl, Nat.zero_le _, rfl, hx.1, hx.2, hid rfl, hid rfl, hid (OwnP.nil _ _), hid (Below.refl _ _)⟩
  case round =>
    obtain ⟨k, acc, m, rfl, hk, rfl, hm0, hm1, HAL, HF, HO, HB⟩ := hrel
    obtain ⟨A1, c1, rfl, _, _⟩ := HO.out.rd
    have hbs := HB.out.size
    have hal : acc.length ≤ 1000000 := by rw [HAL.out]; omega
    by_cases hlt : k < n
    · obtain ⟨b, off, ⟨p, q⟩, rfl, hb, hp, hc1, hc2⟩ := (HR.out wr HB.out).at_ hlt
      obtain ⟨q0, q1⟩ := HP.out _ (List.mem_of_getElem? hp)
      dsimp only at hc1 hc2 q0 q1
      have d1 : decide (k < n) = true := by rw [decide_eq_true_eq]; exact hlt
      by_cases hm : m ≤ 0
      · have HE := hid (show M.front l x = acc by rw [HF.out, M.front_low hm, List.append_nil])
        have HB2 := hid (HB.out.alloc hbs (.cells #[.int .i64 p, .int .i64 q] 29))
        have HO2 := hid (HO.out.alloc (.cells #[.int .i64 p, .int .i64 q] 29))
        have d2 : decide (m ≤ 0) = true := by rw [decide_eq_true_eq]; exact hm
        clear hm hp
        by_cases hk0 : k = 0
        case' pos =>
          subst hk0
          simp only [Nat.zero_mul, Nat.add_zero] at hc1 hc2
        case' neg => have hkp : 0 < k := by omega
        all_goals
          go_wp2
          go_ret
          exact ⟨_, rfl, by rw [HE.out]; exact HO2.out, HB2.out⟩
      · have d2 : decide (m ≤ 0) = false := by rw [decide_eq_false_iff_not]; exact hm
        obtain ⟨k1, hk1⟩ : ∃ k1, k1 = k + 1 := ⟨_, rfl⟩
        obtain ⟨r, hr⟩ : ∃ r, min q m = r := ⟨_, rfl⟩
        have HST := hid (show M.front l x = (acc ++ [(p, r)]) ++ M.front (l.drop k1) (m - r) by rw [hk1]; exact M.front_step HF.out hp (by omega) hr)
        have hr0 : 0 ≤ r ∧ r ≤ m := by omega
        obtain ⟨r0, r1⟩ := hr0
        have HB2 := hid (HB.out.alloc hbs (.cells #[.int .i64 p, .int .i64 r] 29))
        have HO2 := hid (HO.out.alloc (.cells #[.int .i64 p, .int .i64 r] 29))
        have hbx := BoxP.new wr p r
        have b0 := hbx.cell0
        have b1 := hbx.cell1
        clear hp hm hbx
        by_cases hmq : m < q
        case' pos =>
          obtain rfl : r = m := by omega
        case' neg =>
          obtain rfl : r = q := by omega
        all_goals
          by_cases hk0 : k = 0
          case' pos =>
            subst hk0
            simp only [Nat.zero_mul, Nat.add_zero] at hc1 hc2
          case' neg => have hkp : 0 < k := by omega
          all_goals
            clear hr
            go_upto_region 7 with fail
            generalize World.alloc wr _ = W2 at *
            have hbs2 := HB2.out.size
            clear hc1 hc2 hmq d1 d2
            go_wp2_with (refine wpList_appP rfl (.tmp 25) (.tmp 27) rfl w.heap.size _ acc _ _ (by simp [Act.eval]) HO2.out hbs2 (by simp [Act.eval]) hal ?_; intro v' w9 ho9 hb9 _)
            go_roundw
            case rel => exact ⟨k1, _, _, (by subst hk1; first | rfl | go_num), by omega, (by first | rfl | go_num), by omega, by omega, hid (by rw [List.length_append, HAL.out, hk1]; rfl), HST, ho9, hid (HB2.out.trans hb9.out)⟩
            case measure => simp [RowKit.intOf] <;> omega
    · obtain rfl : k = n := by omega
      have HE := hid (show M.front l x = acc by rw [HF.out, List.drop_of_length_le (Nat.le_of_eq HL.out)]; exact List.append_nil acc)
      have d1 : decide (k < k) = false := by simp
      clear hlt
      go_wp2
      go_ret
      exact ⟨_, rfl, by rw [HE.out]; exact HO.out, HB.out⟩

set_option maxRecDepth 100000 in
set_option maxHeartbeats 2000000 in
theorem same_yes (A A' : Option Addr) (n c c' : Nat) (l : List M.Pt) (w : World) (h1 : RdP w w.heap.size A n l) (h2 : RdP w w.heap.size A' n l) (hn : n ≤ 1000000) :
    Calls Tryd.prog 17 #[.slice A n c, .slice A' n c'] w fun e w' => e = .returned (.bool true) ∧ Below w.heap.size w w' := by
  have H1 := hid (fun (W : World) (hW : Below w.heap.size w W) => h1.below hW)
  have H2 := hid (fun (W : World) (hW : Below w.heap.size w W) => h2.below hW)
  clear h1 h2
  go_enter Tryd.func17, Tryd.ntmps17
  go_wp2
  go_loopw [5] (fun iv wr => ∃ (k : Nat), iv = .int .i64 k ∧ k ≤ n ∧ Hid (Below w.heap.size w wr)) (fun iv _ => n - (RowKit.intOf iv).toNat)
  case atStart => exact ⟨0, rfl, Nat.zero_le _, hid (Below.refl _ _)⟩
  case round =>
    obtain ⟨k, rfl, hk, HB⟩ := hrel
    by_cases hlt : k < n
    · obtain ⟨b, off, ⟨p, q⟩, rfl, hb, hp, hc1, hc2⟩ := (H1.out wr HB.out).at_ hlt
      obtain ⟨b', off', p', rfl, hb', hp', hc1', hc2'⟩ := (H2.out wr HB.out).at_ hlt
      rw [hp] at hp'
      injection hp' with hp'
      subst hp'
      dsimp only at hc1 hc2 hc1' hc2'
      have d1 : decide (k < n) = true := by rw [decide_eq_true_eq]; exact hlt
      obtain ⟨k1, hk1⟩ : ∃ k1, k1 = k + 1 := ⟨_, rfl⟩
      clear hp
      by_cases hk0 : k = 0
      case' pos =>
        subst hk0
        simp only [Nat.zero_mul, Nat.add_zero] at hc1 hc2 hc1' hc2'
      case' neg => have hkp : 0 < k := by omega
      all_goals
        go_wp2_with fail
        go_quiet (fail)
        go_wp2
        go_roundw
        case rel => exact ⟨k1, (by subst hk1; first | rfl | go_num), by omega, hid (below_drewN' HB.out _)⟩
        case measure => simp [RowKit.intOf] <;> omega
    · obtain rfl : k = n := by omega
      have d1 : decide (k < k) = false := by simp
      clear hlt
      go_wp2
      go_ret
      exact ⟨rfl, HB.out⟩
end Go.Proofs.YtjpflljmeaihgaaDoor
