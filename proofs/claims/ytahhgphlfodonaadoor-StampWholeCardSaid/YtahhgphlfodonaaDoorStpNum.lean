/-
  Numbers of digits: the program's answer.
-/
import Derived.Test.YtahhgphlfodonaaDoorStpBox
import Derived.Laws.RangeString
import Derived.Laws.RangeAny
import Derived.LoopTactic
import Derived.Tactics
namespace Go.Proofs.YtahhgphlfodonaaDoor
open Go.RowKit

theorem all_not {p : UInt8 → Bool} {l : List UInt8} {k : Nat} (hk : k < l.length) (h : p l[k] = false) : l.all p = false := by
  rw [List.all_eq_false]
  exact ⟨l[k], List.getElem_mem hk, by rw [h]; decide⟩
theorem all_take_succ {p : UInt8 → Bool} {l : List UInt8} {k : Nat} (hk : k < l.length) (h : (l.take k).all p = true) (h2 : p l[k] = true) : (l.take (k + 1)).all p = true := by
  rw [List.take_succ_eq_append_getElem hk, List.all_append, h, Bool.true_and, List.all_cons, h2, List.all_nil]; rfl
theorem decode_low (s : ByteArray) (pos : Nat) (h : pos < s.size) (hb : (s[pos]'h).toNat < 128) : Utf8.decode s pos = ((s[pos]'h).toNat, 1) := by
  unfold Utf8.decode
  simp only [get_at s pos h, if_pos hb]
theorem at_tl (s : ByteArray) (k : Nat) (h : k < s.size) : (tl s)[k]'h = s[k]'h := rfl
theorem num_take_succ {l : List UInt8} {k : Nat} (hk : k < l.length) : M.num (l.take (k + 1)) 0 = 10 * M.num (l.take k) 0 + ((l[k]).toNat - 48) := by
  rw [List.take_succ_eq_append_getElem hk, M.num_snoc]

/-- A number, or none. -/
def numV : Option Nat → Value
  | none => .tuple #[.int .i64 0, .bool false]
  | some n => .tuple #[.int .i64 n, .bool true]
def NumIs (o : Option Nat) (w : World) (e : Ending) (w' : World) : Prop := e = .returned (numV o) ∧ Below w.heap.size w w'
theorem ret_num {a b : Option Nat} (h : a = b) : Ending.returned (numV a) = .returned (numV b) := by rw [h]
theorem iter_below (w : World) (s : ByteArray) (pos : Nat) : Below w.heap.size w (w.iter s pos) := (Below.refl _ w).alloc (Nat.le_refl _) _
theorem num_bound {l : List UInt8} {k : Nat} (h : (l.take k).all M.isDig = true) (hk : k < l.length) (hl : l.length ≤ 18) : M.num (l.take k) 0 ≤ 99999999999999999 := by
  have h1 := M.num_lt (l.take k) 0 h
  have h2 : 10 ^ (l.take k).length ≤ 10 ^ 17 := Nat.pow_le_pow_right (by omega) (by rw [List.length_take]; omega)
  omega

set_option maxRecDepth 100000 in
set_option maxHeartbeats 1000000 in
theorem number_any (s : ByteArray) (most : Nat) (hm : most ≤ 18) (w : World) :
    Calls Tryd.prog 22 #[.string s, .int .i64 most] w (NumIs (M.number (tl s) most) w) := by
  by_cases h0 : tl s = []
  · obtain rfl : s = ⟨#[]⟩ := tl_inj (by rw [h0]; rfl)
    have hn := M.number_none (l := tl ⟨#[]⟩) (most := most) (.inl h0)
    have HN := Lib.hid hn
    clear hn h0
    go_enter Tryd.func22, Tryd.ntmps22
    go_wp2
    go_ret2
    exact ⟨ret_num HN.out.symm, Below.refl _ _⟩
  have hne : s.toList.isEmpty = false := by rw [tl_eq]; simpa using h0
  by_cases hlong : most < s.size
  · have hn := M.number_none (l := tl s) (most := most) (.inr (.inl hlong))
    have HN := Lib.hid hn
    have hd : decide (most < s.size) = true := by rw [decide_eq_true_eq]; omega
    clear hn h0
    go_enter Tryd.func22, Tryd.ntmps22
    go_wp2
    go_ret2
    exact ⟨ret_num HN.out.symm, Below.refl _ _⟩
  have hle : s.size ≤ most := by omega
  have h18 : s.size ≤ 18 := by omega
  have hd : decide (most < s.size) = false := by rw [decide_eq_false_iff_not]; omega
  have HNE := Lib.hid h0
  have HLE := Lib.hid hle
  clear hlong hle h0
  go_enter Tryd.func22, Tryd.ntmps22
  go_wp2
  clear hd hne
  go_loopw [6] (fun v w' => ∃ pos n : Nat, v = .int .i64 n ∧ w' = w.iter s pos ∧ pos ≤ s.size ∧ ((tl s).take pos).all M.isDig = true ∧ Hid (M.num ((tl s).take pos) 0 = n)) (fun _ w' => s.size - w'.iterPos w.heap.size)
  case atStart => exact ⟨0, 0, rfl, rfl, Nat.zero_le _, rfl, Lib.hid rfl⟩
  case round =>
    obtain ⟨pos, n, rfl, rfl, hle, hu, hN⟩ := hrel
    by_cases hp : pos < s.size
    · have hnx := fun ty => run_next_any (P := Tryd.prog) w s pos ty hp
      by_cases hb : (s[pos]'hp).toNat < 128
      · simp only [decode_low s pos hp hb] at hnx
        by_cases hk : M.isDig ((tl s)[pos]'hp) = true
        · have hs := all_take_succ hp hu hk
          have hbd := num_bound hu hp h18
          rw [hN.out] at hbd
          have hst := num_take_succ (l := tl s) hp
          rw [hN.out, at_tl] at hst
          rw [M.isDig_iff, at_tl] at hk
          obtain ⟨k1, k2⟩ := hk
          have HS := Lib.hid hs
          have HT := Lib.hid hst
          have e1 : decide (((s[pos]'hp).toNat : Int) < 48) = false := by rw [decide_eq_false_iff_not]; omega
          have e2 : decide (((s[pos]'hp).toNat : Int) > 57) = false := by rw [decide_eq_false_iff_not]; omega
          clear hs hu hst hN
          go_wp2
          refine ⟨⟨pos + 1, n * 10 + ((s[pos]'hp).toNat - 48), by go_num, rfl, by omega, HS.out, Lib.hid (by rw [HT.out]; omega)⟩, ?_⟩
          simp; omega
        · have hk' : M.isDig ((tl s)[pos]'hp) = false := by simpa using hk
          have HF := Lib.hid (M.number_none (l := tl s) (most := most) (.inr (.inr (all_not hp hk'))))
          rw [M.isDig_iff, at_tl] at hk
          clear hk' hu
          by_cases c1 : (s[pos]'hp).toNat < 48
          · have e1 : decide (((s[pos]'hp).toNat : Int) < 48) = true := by rw [decide_eq_true_eq]; omega
            clear hk
            go_wp2
            go_ret2
            exact ⟨ret_num HF.out.symm, iter_below _ _ _⟩
          · have e1 : decide (((s[pos]'hp).toNat : Int) < 48) = false := by rw [decide_eq_false_iff_not]; omega
            have e2 : decide (((s[pos]'hp).toNat : Int) > 57) = true := by rw [decide_eq_true_eq]; omega
            clear hk
            go_wp2
            go_ret2
            exact ⟨ret_num HF.out.symm, iter_below _ _ _⟩
      · have hh := (decode_high s pos hp (by omega)).1
        have hl := decode_le s pos
        have hk' : M.isDig ((tl s)[pos]'hp) = false := by
          rw [← Bool.not_eq_true, M.isDig_iff, at_tl]; omega
        have HF := Lib.hid (M.number_none (l := tl s) (most := most) (.inr (.inr (all_not hp hk'))))
        clear hk' hu
        generalize (Utf8.decode s pos).1 = c at *
        generalize (Utf8.decode s pos).2 = n2 at *
        have e1 : decide ((c : Int) < 48) = false := by rw [decide_eq_false_iff_not]; omega
        have e2 : decide ((c : Int) > 57) = true := by rw [decide_eq_true_eq]; omega
        go_wp2
        go_ret2
        exact ⟨ret_num HF.out.symm, iter_below _ _ _⟩
    · have hnx : ∀ ty, (Instr.next (.pointer (some ⟨w.heap.size, 0, none⟩)) true ty).run Tryd.prog (w.iter s pos) = _ := fun ty => run_next_end w s pos ty hp
      have hall : (tl s).all M.isDig = true := by
        rw [List.take_of_length_le (by rw [tl_len]; omega)] at hu; exact hu
      have hnum : M.num (tl s) 0 = n := by
        have := hN.out
        rwa [List.take_of_length_le (by rw [tl_len]; omega)] at this
      have HF := Lib.hid (M.number_some (most := most) HNE.out (by rw [tl_len]; exact HLE.out) hall)
      rw [hnum] at HF
      clear hall hu hnum hN
      go_wp2
      go_ret2
      exact ⟨ret_num HF.out.symm, iter_below _ _ _⟩
end Go.Proofs.YtahhgphlfodonaaDoor
