/-
  number: the program's answer; what strconv's Atoi and Itoa answer.
-/
import Derived.Test.YtjpflljmeaihgaaDoorSpCheck
import Derived.Test.YtjpflljmeaihgaaDoorShelf
import Derived.Lib.AtoiTie
import Derived.Lib.ItoaMem
import Derived.Lib.AppendIntMem
namespace Go.Proofs.YtjpflljmeaihgaaDoor
open Go.RowKit Go.Lib

namespace M
theorem range_long {t : List UInt8} (h : Lib.atoiAll t = .range) : 13 < t.length := by
  rcases Nat.lt_or_ge 13 t.length with h1 | h1
  · exact h1
  · rw [Lib.atoiAll_short t (by omega)] at h
    cases ha : Lib.atoi t with
    | none => rw [ha] at h; cases h
    | some v => rw [ha] at h; cases h
theorem numOf_ok {t : List UInt8} {v : Int} (h : Lib.atoiAll t = .ok v) : numOf t = if t.length ≤ 13 ∧ 0 ≤ v ∧ Lib.itoa v = t then some v else none := by
  unfold numOf; rw [h]; rfl
theorem numOf_err {t : List UInt8} (h : ∀ v, Lib.atoiAll t ≠ .ok v) : numOf t = none := by
  unfold numOf numE
  split
  · rename_i v hv; exact absurd hv (h v)
  · rfl
theorem zero_not {t : List UInt8} (h : ∀ v, Lib.atoiAll t ≠ .ok v) : Lib.itoa 0 ≠ t := by
  intro e
  subst e
  exact h 0 (atoi_dec 0 (by decide))
end M

/-- The table of tens lies below block B. -/
def TB (B : Nat) (w : World) : Prop := Lib.TabBelow Tryd.prog B w "internal/strconv.uint64pow10" .u64 Lib.pow10Tab
theorem TB.on {B : Nat} {w w' : World} (h : TB B w) (hb : Below B w w') : TB B w' := Lib.TabBelow.on h hb
/-- An error lies in block g, below block B. -/
def ErrAt (g B : Nat) (w : World) : Prop := g < B ∧ ∃ te pe, w.cell? ⟨g, 0, none⟩ = some (.iface te pe)
theorem ErrAt.on {g B : Nat} {w w' : World} (h : ErrAt g B w) (hb : Below B w w') : ErrAt g B w' := by
  obtain ⟨h1, te, pe, h2⟩ := h
  exact ⟨h1, te, pe, (hb.cell (p := ⟨g, 0, none⟩) h1).trans h2⟩
/-- What Atoi and Itoa read. -/
structure EV (B : Nat) (w : World) : Prop where
  tens : TB B w
  syn : ErrAt 3 B w
  ran : ErrAt 4 B w
theorem EV.on {B : Nat} {w w' : World} (h : EV B w) (hb : Below B w w') : EV B w' := ⟨h.tens.on hb, h.syn.on hb, h.ran.on hb⟩
theorem EV.up {B B' : Nat} {w : World} (h : EV B w) (hB : B ≤ B') : EV B' w := ⟨fun w' hb => h.tens w' (hb.mono hB), ⟨Nat.lt_of_lt_of_le h.syn.1 hB, h.syn.2⟩, ⟨Nat.lt_of_lt_of_le h.ran.1 hB, h.ran.2⟩⟩

/-- What Atoi answers. -/
def AtoiIs (t : List UInt8) (w : World) (e : Ending) (w' : World) : Prop :=
  ∃ (v : Int) (ev : Value), e = .returned (.tuple #[.int .i64 v, ev]) ∧ Below w.heap.size w w' ∧ -9223372036854775808 ≤ v ∧ v ≤ 9223372036854775807 ∧
    ((Lib.atoiAll t = .ok v ∧ ev = .nilIface) ∨ ((∀ u, Lib.atoiAll t ≠ .ok u) ∧ (∃ x y, ev = .iface x y) ∧ (v = 0 ∨ 13 < t.length)))
theorem atoi_any (s : ByteArray) (hs : s.size ≤ 1000000) (B : Nat) (w : World) (ht : EV B w) :
    Calls Tryd.prog 37 #[.string s] w (AtoiIs (tl s) w) := by
  have hbw : ∀ w', (w' = w ∨ ∃ t, w' = Lib.bytesWorld w 5 t) → Below w.heap.size w w' := by
    rintro w' (rfl | ⟨t, rfl⟩)
    · exact Below.refl _ _
    · exact Lib.bytesWorld_below _ _ _
  cases ha : Lib.atoiAll (tl s)
  · rename_i v
    refine (Tryd.strconv_Atoi_ok s (by omega) v ha w).mono ?_
    rintro e w' ⟨rfl, hw⟩
    have := Lib.atoiAll_bounds ha
    exact ⟨v, _, rfl, hbw _ hw, this.1, this.2, .inl ⟨ha, rfl⟩⟩
  · obtain ⟨_, te, pe, hc⟩ := ht.syn
    refine (Tryd.strconv_Atoi_syntax s (by omega) ha _ w hc (.inr ⟨te, pe, rfl⟩)).mono ?_
    rintro e w' ⟨N, rfl, _, _, hb⟩
    exact ⟨0, _, rfl, hb, by decide, by decide, .inr ⟨(fun u h => by rw [ha] at h; cases h), ⟨_, _, rfl⟩, .inl rfl⟩⟩
  · obtain ⟨_, te, pe, hc⟩ := ht.ran
    refine (Tryd.strconv_Atoi_range s (by omega) ha _ w hc (.inr ⟨te, pe, rfl⟩)).mono ?_
    rintro e w' ⟨N, rfl, _, _, hb⟩
    have := Lib.atoiSat_bounds (tl s)
    exact ⟨_, _, rfl, hb, this.1, this.2, .inr ⟨(fun u h => by rw [ha] at h; cases h), ⟨_, _, rfl⟩, .inr (M.range_long ha)⟩⟩
/-- What Itoa answers. -/
theorem itoa_any (n : Int) (h0 : -9223372036854775808 ≤ n) (h1 : n ≤ 9223372036854775807) (B : Nat) (w : World) (ht : EV B w) :
    Calls Tryd.prog 38 #[.int .i64 n] w fun e w' => e = .returned (.string ⟨(Lib.itoa n).toArray⟩) ∧ Below w.heap.size w w' := by
  refine (Tryd.strconv_Itoa n h0 h1 w ht.tens.here).mono ?_
  rintro e w' ⟨rfl, k, os, rfl⟩
  exact ⟨rfl, Lib.below_grow _ _ (Nat.le_refl _) _ _⟩

/-- A number, or none. -/
def numV : Option Int → Value
  | none => .tuple #[.int .i64 0, .bool false]
  | some n => .tuple #[.int .i64 n, .bool true]
theorem ret_num {a b : Option Int} (h : a = b) : Ending.returned (numV a) = .returned (numV b) := by rw [h]
theorem str_eq_yes {v : Int} {s : ByteArray} (h : Lib.itoa v = tl s) : (⟨(Lib.itoa v).toArray⟩ : ByteArray) = s := tl_inj (by rw [tl_mk]; exact h)

set_option maxRecDepth 100000 in
set_option maxHeartbeats 1000000 in
theorem number_any (s : ByteArray) (hs : s.size ≤ 1000000) (B : Nat) (w : World) (hB : B ≤ w.heap.size) (ht : EV B w) :
    Calls Tryd.prog 28 #[.string s] w fun e w' => e = .returned (numV (M.numOf (tl s))) ∧ Below w.heap.size w w' := by
  have HT := hid ht
  by_cases hlong : 13 < s.size
  · have HN := hid (M.numOf_long (t := tl s) (by rw [tl_len]; exact hlong))
    have d1 : decide ((13 : Int) < (s.size : Int)) = true := by rw [decide_eq_true_eq]; omega
    clear hlong ht
    go_enter Tryd.func28, Tryd.ntmps28
    go_wp2
    go_ret2
    exact ⟨ret_num HN.out.symm, Below.refl _ _⟩
  have HS := hid (show (tl s).length ≤ 13 by rw [tl_len]; omega)
  have d1 : decide ((13 : Int) < (s.size : Int)) = false := by rw [decide_eq_false_iff_not]; omega
  clear hlong ht
  go_enter Tryd.func28, Tryd.ntmps28
  go_wp2_with fail
  (with_reducible refine (atoi_any s hs B w HT.out).mono ?_)
  rintro e w1 ⟨v, ev, rfl, hb1, v0, v1, h⟩
  have HB1 := hid hb1
  have HT1 := hid (HT.out.on (hb1.mono hB))
  clear d1
  rcases h with ⟨ha, rfl⟩ | ⟨ha, ⟨x, y, rfl⟩, _⟩
  · have HN := hid (M.numOf_ok ha)
    clear ha hb1
    by_cases hv : v < 0
    · have HN2 := hid (show M.numOf (tl s) = none by rw [HN.out, if_neg (by omega)])
      have d2 : decide (v < 0) = true := by rw [decide_eq_true_eq]; exact hv
      go_wp2
      go_ret2
      exact ⟨ret_num HN2.out.symm, HB1.out⟩
    · have d2 : decide (v < 0) = false := by rw [decide_eq_false_iff_not]; exact hv
      have HI := hid (itoa_any v v0 v1 B w1 HT1.out)
      by_cases he : Lib.itoa v = tl s
      · have HN2 := hid (show M.numOf (tl s) = some v by rw [HN.out, if_pos ⟨HS.out, by omega, he⟩])
        have es := str_eq_yes he
        rw [es] at HI
        clear he es hv
        go_wp2_with (go_at_call 38; (with_reducible refine HI.out.mono ?_); rintro e w2 ⟨rfl, hb2⟩)
        go_ret2
        exact ⟨ret_num HN2.out.symm, HB1.out.trans (hb2.mono HB1.out.size)⟩
      · have HN2 := hid (show M.numOf (tl s) = none by rw [HN.out, if_neg (by intro h; exact he h.2.2)])
        have HE := hid he
        clear he hv
        generalize hx : (⟨(Lib.itoa v).toArray⟩ : ByteArray) = x at HI
        have d3 : (x.toList == s.toList) = false := by
          rw [beq_eq_false_iff_ne, tl_eq, tl_eq, ← hx]; exact HE.out
        go_wp2_with (go_at_call 38; (with_reducible refine HI.out.mono ?_); rintro e w2 ⟨rfl, hb2⟩)
        go_ret2
        exact ⟨ret_num HN2.out.symm, HB1.out.trans (hb2.mono HB1.out.size)⟩
  · have HN := hid (M.numOf_err ha)
    clear ha hb1
    go_wp2
    go_ret2
    exact ⟨ret_num HN.out.symm, HB1.out⟩
end Go.Proofs.YtjpflljmeaihgaaDoor
