/-
  The document's Find.
-/
import Derived.Test.YtefkgkdocglgaaaDoorPaxFind
namespace Go.Proofs.YtefkgkdocglgaaaDoor
open Go.RowKit Go.Shelf

theorem find_drop {l : List R2} {k : Nat} (hk : k < l.length) (key : ByteArray) (h : M.find (rcs (l.drop (k + 1))) (tl key) = none) :
    M.find (rcs (l.drop k)) (tl key) = if tl (l[k]).1 = tl key then some (tl (l[k]).2) else none := by
  rw [List.drop_eq_getElem_cons hk, show rcs (l[k] :: l.drop (k + 1)) = rc l[k] :: rcs (l.drop (k + 1)) from rfl, M.find_cons, h]
  rfl
theorem find_of_drop {l : List R2} {k : Nat} {key : ByteArray} {v : List UInt8} (h : M.find (rcs (l.drop k)) (tl key) = some v) : M.find (rcs l) (tl key) = some v := by
  rw [← List.take_append_drop k l, rcs_app, M.find_app, h]; rfl

set_option maxRecDepth 100000 in
set_option maxHeartbeats 4000000 in
theorem refFind_any (A : Option Addr) (c : Nat) (l : List R2) (key : ByteArray) (hl : l.length ≤ 1000000) (w : World) (h : RdR w w.heap.size A l) :
    Calls Tryd.prog 34 #[.slice A l.length c, .string key] w (fun e w' => ∃ (v : ByteArray) (b : Bool), e = .returned (.tuple #[.string v, .bool b]) ∧ tl v = (M.find (rcs l) (tl key)).getD [] ∧ b = (M.find (rcs l) (tl key)).isSome ∧ Below w.heap.size w w') := by
  have HR := Lib.hid h
  clear h
  go_enter Tryd.func34, Tryd.ntmps34
  go_wp2
  go_loopw [6] (fun i wr => ∃ (k : Nat) (z : Int), i = .int .i64 z ∧ z = (k : Int) - 1 ∧ k ≤ l.length ∧ Hid (M.find (rcs (l.drop k)) (tl key) = none) ∧ Below w.heap.size w wr) (fun i _ => (intOf i + 1).toNat)
  case atStart => exact ⟨l.length, _, rfl, rfl, Nat.le_refl _, Lib.hid (by rw [List.drop_length]; rfl), Below.refl _ _⟩
  case round =>
    obtain ⟨k, z, rfl, hz, hk, hd, hb⟩ := hrel
    rcases k with _ | j
    · have hz2 : z < 0 := by omega
      have hz3 : z = -1 := by omega
      subst hz3
      clear hz hz2
      have HD := Lib.hid (show M.find (rcs l) (tl key) = none from by have := hd.out; rwa [List.drop_zero] at this)
      go_wp2
      go_ret2
      exact ⟨⟨#[]⟩, false, rfl, by rw [HD.out]; rfl, by rw [HD.out]; rfl, hb⟩
    · obtain rfl : z = (j : Int) := by omega
      have hjl : j < l.length := by omega
      obtain ⟨bb, off, rfl, hbb, hd1, hd2⟩ := (HR.out.below hb).at_ hjl
      have hfd := find_drop hjl key hd.out
      obtain ⟨⟨s, t⟩, hr⟩ : ∃ r, l[j] = r := ⟨_, rfl⟩
      rw [hr] at hd1 hd2 hfd
      dsimp only at hd1 hd2 hfd
      have HF := Lib.hid hfd
      clear hfd hr hz
      by_cases hs : s = key
      · subst hs
        have HV := Lib.hid (find_of_drop (k := j) (v := tl t) (by rw [HF.out, if_pos rfl] : M.find (rcs (l.drop j)) (tl s) = some (tl t)))
        by_cases hj0 : j = 0
        case' pos =>
          subst hj0
          simp only [Nat.zero_mul, Nat.add_zero] at hd1 hd2
        case' neg =>
          have hj1 : 0 < j := by omega
          clear hj0
        all_goals
          go_wp2
          go_ret2
          exact ⟨t, .inr ⟨rfl, by rw [HV.out]; rfl, by rw [HV.out]; rfl, hb⟩⟩
      · have hne : (s.toList == key.toList) = false := by
          rw [beq_eq_false_iff_ne, tl_eq, tl_eq]
          exact fun e => hs (tl_inj e)
        have HV := Lib.hid (show M.find (rcs (l.drop j)) (tl key) = none by rw [HF.out, if_neg (fun e => hs (tl_inj e))])
        clear hs
        by_cases hj0 : j = 0
        case' pos =>
          subst hj0
          simp only [Nat.zero_mul, Nat.add_zero] at hd1 hd2
        case' neg =>
          have hj1 : 0 < j := by omega
          clear hj0
        all_goals
          go_wp2
          go_roundw
          case rel => exact ⟨_, _, rfl, by omega, by omega, HV, hb⟩
          case measure => first | (simp [intOf]; done) | (simp [intOf]; omega)
end Go.Proofs.YtefkgkdocglgaaaDoor
