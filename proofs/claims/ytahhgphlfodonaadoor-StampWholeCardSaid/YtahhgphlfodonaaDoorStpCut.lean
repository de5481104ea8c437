/-
  strings.Cut at a point; the sign ahead.
-/
import Derived.Test.YtahhgphlfodonaaDoorStpNum
import Derived.Test.YtahhgphlfodonaaDoorShelf
namespace Go.Proofs.YtahhgphlfodonaaDoor
open Go.RowKit Go.Shelf

/-- The first place of a point. -/
theorem indexByte_pt : ∀ (l : List UInt8), ((M.ptOf l).length < l.length ∧ Lib.indexByte l 46 = ((M.ptOf l).length : Int)) ∨ ((M.ptOf l).length = l.length ∧ Lib.indexByte l 46 = -1)
  | [] => .inr ⟨rfl, rfl⟩
  | c :: l => by
    have e : Lib.indexByte (c :: l) 46 = if c == 46 then 0 else if Lib.indexByte l 46 == -1 then -1 else Lib.indexByte l 46 + 1 := rfl
    have ih := indexByte_pt l
    unfold M.ptOf at ih ⊢
    rw [e, List.takeWhile_cons]
    clear e
    cases hc : (c == 46) with
    | true => exact .inl ⟨by simp, rfl⟩
    | false =>
      simp only [Bool.not_false, if_true, List.length_cons, Bool.false_eq_true, if_false]
      rcases ih with ⟨h1, h2⟩ | ⟨h1, h2⟩
      · left
        rw [h2]
        have h3 : (((l.takeWhile fun c => !(c == 46)).length : Int) == -1) = false := by simp
        rw [h3]
        exact ⟨by omega, by simp⟩
      · right
        rw [h2]
        exact ⟨by omega, by simp⟩

/-- What strings.Cut at a point answers. -/
def cutVal (s : ByteArray) : Value :=
  .tuple #[.string ⟨(M.ptOf (tl s)).toArray⟩, .string ⟨(M.aftPt (tl s)).toArray⟩, .bool (decide ((M.ptOf (tl s)).length < (tl s).length))]

theorem ext_front (s : ByteArray) (k : Nat) (h : k ≤ s.size) : s.extract 0 k = ⟨((tl s).take k).toArray⟩ := by
  refine tl_inj ?_
  show (s.extract 0 k).data.toList = (tl s).take k
  simp [ByteArray.data_extract, tl]
theorem ext_back (s : ByteArray) (k : Nat) : s.extract k s.size = ⟨((tl s).drop k).toArray⟩ := by
  refine tl_inj ?_
  show (s.extract k s.size).data.toList = (tl s).drop k
  simp [ByteArray.data_extract, tl]
  rw [List.take_of_length_le]
  simp
theorem ret_three {a b c d : ByteArray} {x y : Bool} (h1 : a = c) (h2 : b = d) (h3 : x = y) : Ending.returned (.tuple #[.string a, .string b, .bool x]) = .returned (.tuple #[.string c, .string d, .bool y]) := by rw [h1, h2, h3]

set_option maxRecDepth 100000 in
set_option maxHeartbeats 1000000 in
theorem liteCut_any (s : ByteArray) (hs : s.size ≤ 1000000) (w : World) : Calls Tryd.prog 30 #[.string s, .string ⟨#[46]⟩] w fun e w' => e = .returned (cutVal s) ∧ Below w.heap.size w w' := by
  rcases indexByte_pt (tl s) with ⟨h1, h2⟩ | ⟨h1, h2⟩
  · have hk : (M.ptOf (tl s)).length < s.size := h1
    have hfr := ext_front s (M.ptOf (tl s)).length (by omega)
    rw [M.ptOf_take] at hfr
    have hbk := ext_back s ((M.ptOf (tl s)).length + 1)
    have hv : cutVal s = .tuple #[.string ⟨(M.ptOf (tl s)).toArray⟩, .string ⟨(M.aftPt (tl s)).toArray⟩, .bool true] := by unfold cutVal; rw [decide_eq_true h1]
    unfold M.aftPt at hv
    have HV := Lib.hid hv
    have HF := Lib.hid hfr
    have HB := Lib.hid hbk
    have HX := Lib.hid (show Lib.indexByte s.data.toList 46 = ((M.ptOf (tl s)).length : Int) from h2)
    clear hv hfr hbk h1 h2
    generalize (M.ptOf (tl s)).length = k at *
    go_enter Tryd.func30, Tryd.ntmps30
    go_wp2_with (go_at_call 37; refine (Tryd.stringslite_Index_one _ _ _).mono ?_; rintro e w' ⟨rfl, rfl⟩; rw [HX.out])
    go_region
    go_wp2
    trace_state
    go_ret3
    exact ⟨by rw [HV.out]; exact ret_three HF.out HB.out rfl, below_drew' (Below.refl _ _)⟩
  · have hv : cutVal s = .tuple #[.string s, .string ⟨#[]⟩, .bool false] := by
      unfold cutVal M.aftPt
      rw [decide_eq_false (by omega), List.drop_of_length_le (by omega), show M.ptOf (tl s) = tl s by rw [← M.ptOf_take, h1, List.take_length]]
      rfl
    have HV := Lib.hid hv
    have HX := Lib.hid (show Lib.indexByte s.data.toList 46 = -1 from h2)
    clear hv h1 h2
    go_enter Tryd.func30, Tryd.ntmps30
    go_wp2_with (go_at_call 37; refine (Tryd.stringslite_Index_one _ _ _).mono ?_; rintro e w' ⟨rfl, rfl⟩; rw [HX.out])
    go_ret3
    exact ⟨by rw [HV.out]; rfl, Below.refl _ _⟩

set_option maxRecDepth 100000 in
theorem cut_any (s : ByteArray) (hs : s.size ≤ 1000000) (w : World) : Calls Tryd.prog 21 #[.string s, .string ⟨#[46]⟩] w fun e w' => e = .returned (cutVal s) ∧ Below w.heap.size w w' := by
  have C := liteCut_any s hs w
  have HC := Lib.hid C
  clear C
  unfold cutVal at HC ⊢
  go_enter Tryd.func21, Tryd.ntmps21
  go_wp2_with (go_at_call 30; refine HC.out.mono ?_; rintro e w1 ⟨rfl, hb⟩)
  go_ret3
  exact ⟨rfl, hb⟩

/-- What strings.CutPrefix of a sign answers. -/
theorem cutSign_any (s : ByteArray) (w : World) : Calls Tryd.prog 20 #[.string s, .string ⟨#[45]⟩] w fun e w' => e = .returned (.tuple #[.string ⟨(M.noSign (tl s)).toArray⟩, .bool (M.minus (tl s))]) ∧ w' = w := by
  have h := Tryd.strings_CutPrefix s ⟨#[45]⟩ w
  have h1 : Lib.hasPrefix s.data.toList (⟨#[45]⟩ : ByteArray).data.toList = M.minus (tl s) := by
    unfold Lib.hasPrefix M.minus tl
    cases s.data.toList with
    | nil => rfl
    | cons c l =>
      show [(45 : UInt8)].isPrefixOf (c :: l) = _
      simp [List.isPrefixOf, eq_comm, Bool.beq_eq_decide_eq]
  have h2 : Lib.trimPrefix s.data.toList (⟨#[45]⟩ : ByteArray).data.toList = M.noSign (tl s) := by
    unfold Lib.trimPrefix M.noSign
    rw [h1]
    show (if M.minus (tl s) = true then List.drop 1 (tl s) else tl s) = _
    rw [List.drop_one]
  rw [h1, h2] at h
  exact h
end Go.Proofs.YtahhgphlfodonaaDoor
