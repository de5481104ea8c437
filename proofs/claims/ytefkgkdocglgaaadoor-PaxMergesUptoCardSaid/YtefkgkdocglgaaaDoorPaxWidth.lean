/-
  How long a line is: the program's answer; decimal texts.
-/
import Derived.Test.YtefkgkdocglgaaaDoorPaxMem
import Derived.Test.YtefkgkdocglgaaaDoorShelf
import Derived.Lib.AppendIntMem
import Derived.Lib.ItoaMem
import Derived.LoopTactic
namespace Go.Proofs.YtefkgkdocglgaaaDoor
open Go.RowKit Go.Shelf

/-- The table of tens lies below block B. -/
def TB (B : Nat) (w : World) : Prop := Lib.TabBelow Tryd.prog B w "internal/strconv.uint64pow10" .u64 Lib.pow10Tab
theorem TB.on {B : Nat} {w w' : World} (h : TB B w) (hb : Below B w w') : TB B w' := Lib.TabBelow.on h hb

namespace M
theorem wid_less {L d : Nat} (h1 : 1 ≤ d) (h2 : d < wid L) : 10 ^ d ≤ L + d := by
  have h8 : d < 8 := by
    refine Nat.lt_of_lt_of_le h2 ?_
    unfold wid
    repeat' split
    all_goals omega
  have : d = 1 ∨ d = 2 ∨ d = 3 ∨ d = 4 ∨ d = 5 ∨ d = 6 ∨ d = 7 := by omega
  unfold wid at h2
  rcases this with rfl | rfl | rfl | rfl | rfl | rfl | rfl
  all_goals
    repeat' split at h2
    all_goals omega
theorem wid_more {L d : Nat} (h1 : 1 ≤ d) (h2 : d < wid L) : d < Lib.nDigits (L + d) := nDigits_ge (wid_less h1 h2)
theorem wid_pos (L : Nat) : 1 ≤ wid L ∧ wid L ≤ 8 := by
  unfold wid
  repeat' split
  all_goals omega
end M

/-- A text of decimal digits. -/
def DecIs (n : Nat) (w : World) (e : Ending) (w' : World) : Prop := ∃ s : ByteArray, e = .returned (.string s) ∧ tl s = Lib.decDigits n ∧ s.size = Lib.nDigits n ∧ Below w.heap.size w w'

theorem itoa_any (n : Nat) (hn : n ≤ 9223372036854775807) (B : Nat) (w : World) (ht : TB B w) :
    Calls Tryd.prog 39 #[.int .i64 n] w (DecIs n w) := by
  refine (Tryd.strconv_Itoa (n : Int) (by omega) (by omega) w ht.here).mono ?_
  rintro e w' ⟨rfl, k, os, rfl⟩
  refine ⟨_, rfl, ?_, ?_, Lib.below_grow _ _ (Nat.le_refl _) _ _⟩
  · rw [tl_mk, Lib.itoa_nonneg]
  · show (Lib.itoa (n : Int)).toArray.size = _
    rw [Lib.itoa_nonneg, List.size_toArray, Lib.decDigits_length]

set_option maxRecDepth 100000 in
set_option maxHeartbeats 1000000 in
theorem width_any (r : R2) (hr : r.1.size + r.2.size ≤ 10000000) (B : Nat) (w : World) (hB : B ≤ w.heap.size) (ht : TB B w) :
    Calls Tryd.prog 26 #[.agg #[.string r.1, .string r.2]] w fun e w' => e = .returned (.int .i64 (M.lineLen (rc r))) ∧ Below w.heap.size w w' := by
  obtain ⟨s, t⟩ := r
  dsimp only at hr ⊢
  obtain ⟨L, hL⟩ : ∃ L, L = s.size + t.size + 3 := ⟨_, rfl⟩
  have hbl : (M.body (rc (s, t))).length = L := by rw [M.body_length]; show s.size + t.size + 3 = L; omega
  have hll : M.lineLen (rc (s, t)) = L + M.wid L := by unfold M.lineLen; rw [hbl]
  rw [hll]
  have hw := M.wid_pos L
  have hL2 : L ≤ 10000003 := by omega
  have hspec := M.wid_spec (L := L) (by omega)
  have HS := Lib.hid hspec
  have HT := Lib.hid ht
  have hsum : (3 : Int) + (s.size : Int) + (t.size : Int) = (L : Int) := by omega
  have HSUM := Lib.hid hsum
  clear hspec hsum hL hbl hll ht
  go_enter Tryd.func26, Tryd.ntmps26
  go_wp2
  rw [HSUM.out]
  go_loopw [4] (fun d wr => ∃ dn : Nat, d = .int .i64 dn ∧ 1 ≤ dn ∧ dn ≤ M.wid L ∧ Below w.heap.size w wr) (fun d _ => M.wid L - (intOf d).toNat)
  case atStart => exact ⟨1, rfl, Nat.le_refl _, hw.1, (Below.refl _ w).alloc (Nat.le_refl _) _⟩
  case round =>
    obtain ⟨d, rfl, hd1, hd2, hb⟩ := hrel
    have hbs := hb.size
    have C := fun (B' : Nat) (w' : World) (h2 : TB B' w') => itoa_any (L + d) (by omega) B' w' h2
    have e : ((L + d : Nat) : Int) = (L : Int) + (d : Int) := by omega
    rw [e] at C
    have HC := Lib.hid (C B wr (HT.out.on (hb.mono hB)))
    clear C e
    rcases Nat.lt_or_ge d (M.wid L) with hlt | hge
    · have hm := M.wid_more hd1 hlt
      go_wp2_with (go_at_call 39; refine HC.out.mono ?_; rintro e w1 ⟨x, rfl, hx, hxs, hb1⟩; (have hxs2 : d < x.size := by rw [hxs]; exact hm); clear hx hxs)
      go_roundw
      case rel => exact ⟨d + 1, by go_num, by omega, by omega, hb.trans (hb1.mono hbs)⟩
      case measure => simp [intOf]; omega
    · obtain rfl : d = M.wid L := by omega
      have h3 := HS.out.2.2.1
      have H3 := Lib.hid h3
      clear h3
      go_wp2_with (go_at_call 39; refine HC.out.mono ?_; rintro e w1 ⟨x, rfl, hx, hxs, hb1⟩; (have hxs2 : x.size ≤ M.wid L := by rw [hxs, H3.out]; exact Nat.le_refl _); clear hx hxs)
      go_ret
      exact ⟨ret_int (by omega), hb.trans (hb1.mono hbs)⟩
end Go.Proofs.YtefkgkdocglgaaaDoor
