/-
  May records be extra?
-/
import Derived.Test.YtlpblnioodcbnaaGreatDoorMtTextZ
import Derived.Test.YtlpblnioodcbnaaGreatDoorKX
set_option linter.unusedVariables false
set_option linter.unusedSimpArgs false
namespace Go.Proofs.YtlpblnioodcbnaaGreatDoor
open Go.RowKit Go.Lib
open Px (R2 tl ltB)

theorem add_plain (b off n : Nat) : Addr.add ⟨b, off, none⟩ n = ⟨b, off + n, none⟩ := by
  unfold Addr.add
  split
  · rename_i h; subst h; rfl
  · rfl
attribute [local go_sem ↓] add_plain
theorem leq_last (a b : ByteArray) : (Op.bytesLess a.toList b.toList || a.toList == b.toList) = !(ltB (tl b) (tl a)) := by
  rw [bytesLess_eq, ByteArray.toList_eq, ByteArray.toList_eq]
  show (decide (tl a < tl b) || tl a == tl b) = !decide (tl b < tl a)
  rw [Bool.eq_iff_iff]
  simp only [Bool.or_eq_true, decide_eq_true_eq, beq_iff_eq, Bool.not_eq_true', decide_eq_false_iff_not]
  constructor
  · rintro (h | h)
    · exact List.not_lt.2 (List.le_of_lt h)
    · rw [h]; exact List.lt_irrefl _
  · intro h
    have := List.not_lt.1 h
    rcases List.le_iff_lt_or_eq.1 this with h | h
    · exact .inl h
    · exact .inr h
theorem drop_at {α : Type} {l : List α} {k : Nat} (h : k < l.length) : l.drop k = l[k] :: l.drop (k + 1) := List.drop_eq_getElem_cons h
theorem size_empty (s : ByteArray) : (s.toList == []) = (s.size == 0) := by
  rw [ByteArray.toList_eq]
  by_cases h : s.data.toList = []
  · have h2 : s.size = 0 := congrArg List.length h
    rw [h, h2]; rfl
  · have h2 : s.size ≠ 0 := fun e => h (List.eq_nil_of_length_eq_zero e)
    have h3 : (s.data.toList == []) = false := by simpa using h
    rw [h3]
    simpa using h2

set_option maxRecDepth 100000 in
set_option maxHeartbeats 1000000 in
theorem isExtra_any (A : Option Addr) (c : Nat) (l : List R2) (hl : l.length ≤ 1000000) (w : World) (h : Px.RdR w w.heap.size A l) :
    Calls Tryz.prog 65 #[.slice A l.length c] w fun e w' => e = .returned (.bool (M.isExtra [] l)) ∧ Below w.heap.size w w' := by
  have HR := hid h
  clear h
  go_enter Tryz.func65, Tryz.ntmps65
  go_wp2
  go_loopw [3, 8] (fun lv iv wr => ∃ (k : Nat) (s : ByteArray), lv = .string s ∧ iv = .int .i64 k ∧ k ≤ l.length ∧ Hid (M.isExtra [] l = M.isExtra (tl s) (l.drop k)) ∧ Hid (Below w.heap.size w wr)) (fun _ iv _ => l.length - (intOf iv).toNat)
  case atStart => exact ⟨0, ⟨#[]⟩, rfl, rfl, Nat.zero_le _, hid rfl, hid (Below.refl _ _)⟩
  case round =>
    obtain ⟨k, s, rfl, rfl, hk, HE, HB⟩ := hrel
    have hbs := HB.out.size
    by_cases hlt : k < l.length
    · obtain ⟨b, off, rfl, hbb, hc1, hc2⟩ := (HR.out.below HB.out).at_ hlt
      have HE2 := hid (show M.isExtra [] l = (M.extraOk (tl s) l[k] && M.isExtra (tl l[k].1) (l.drop (k + 1))) by rw [HE.out, drop_at hlt]; rfl)
      obtain ⟨r, hr⟩ : ∃ r, l[k] = r := ⟨_, rfl⟩
      rw [hr] at hc1 hc2 HE2
      clear hr HE
      have hi2 : (k : Int) < (l.length : Int) := by omega
      obtain ⟨r1, r2⟩ := r
      dsimp only at hc1 hc2 HE2
      have HX := hid (show M.extraOk (tl s) (r1, r2) = (Px.M.right (Px.rc (r1, r2)) && (!M.isKey (tl r1) && (!(r2.toList == []) && !(Op.bytesLess r1.toList s.toList || r1.toList == s.toList)))) by
        rw [leq_last, Bool.not_not, size_empty]; rfl)
      have HRi := hid (fun W => Px.right_any' r1 r2 W)
      have HK := hid (fun W => isKnown_any r1 r2 W)
      clear hlt
      go_upto_region 5 with fail
      have hn := heap_alloc_new wr (.cells #[.string r1, .string r2] 30)
      have hbW := (Below.refl wr.heap.size wr).alloc (Nat.le_refl _) (.cells #[.string r1, .string r2] 30)
      have hsW := World.size_alloc wr (.cells #[.string r1, .string r2] 30)
      generalize World.alloc wr _ = W at *
      have HBW := hid (HB.out.trans (hbW.mono hbs))
      have HC := hid (show ∀ V, Below W.heap.size W V → V.cell? ⟨wr.heap.size, 0, none⟩ = some (.string r1) ∧ V.cell? ⟨wr.heap.size, 1, none⟩ = some (.string r2) from fun V hV => by
        have e := (hV.block wr.heap.size (by rw [hsW]; omega)).trans hn
        constructor <;> (rw [cell_of_row V wr.heap.size _ _ _ _ e]; rfl))
      obtain ⟨g0, g1⟩ := HC.out W (Below.refl _ _)
      clear hn hbW hc1 hc2
      go_wp2_with (first
        | (go_at_call 80; (with_reducible refine (HRi.out _).mono ?_); rintro e w1 ⟨rfl, hb1⟩; (have B1 := hid hb1); obtain ⟨p0, p1⟩ := HC.out w1 hb1; clear hb1)
        | (go_at_call 41; (with_reducible refine (HK.out _).mono ?_); rintro e w2 ⟨rfl, hb2⟩; (have B2 := hid (B1.out.trans (hb2.mono B1.out.size))); obtain ⟨q0, q1⟩ := HC.out w2 B2.out; clear hb2))
      · go_ret
        exact ⟨ret_bool (by rw [HE2.out, HX.out]; simp [*]), HBW.out.trans (B2.out.mono HBW.out.size)⟩
      · go_ret
        exact ⟨ret_bool (by rw [HE2.out, HX.out]; simp [*]), HBW.out.trans (B2.out.mono HBW.out.size)⟩
      · rename_i hor
        have hx : (!(r2.toList == []) && !(Op.bytesLess r1.toList s.toList || r1.toList == s.toList)) = false := by
          rcases hor with h | h | h
          · rw [List.isEmpty_iff] at h; rw [h]; rfl
          · rw [h]; simp
          · rw [h]; simp
        go_ret
        exact ⟨ret_bool (by rw [HE2.out, HX.out, hx]; simp), HBW.out.trans (B2.out.mono HBW.out.size)⟩
      · rename_i hkey hne hand
        have hx : (!(r2.toList == []) && !(Op.bytesLess r1.toList s.toList || r1.toList == s.toList)) = true := by
          rw [hand.2.1, hand.2.2]
          simpa using hne
        have HK2 := hid (show M.isExtra [] l = M.isExtra (tl r1) (l.drop (k + 1)) by
          rw [HE2.out, HX.out, hx]
          simp [*])
        go_roundw
        case rel => exact ⟨k + 1, r1, rfl, by go_num, by omega, HK2, hid (HBW.out.trans (B2.out.mono HBW.out.size))⟩
        case measure => simp [intOf]; omega
      · go_ret
        exact ⟨ret_bool (by rw [HE2.out, HX.out]; simp [*]), HBW.out.trans (B1.out.mono HBW.out.size)⟩
    · obtain rfl : k = l.length := by omega
      have HE2 := hid (show M.isExtra [] l = true by rw [HE.out, List.drop_length]; rfl)
      clear hlt HE
      go_wp2
      go_ret
      exact ⟨ret_bool (by rw [HE2.out]), HB.out⟩
end Go.Proofs.YtlpblnioodcbnaaGreatDoor
