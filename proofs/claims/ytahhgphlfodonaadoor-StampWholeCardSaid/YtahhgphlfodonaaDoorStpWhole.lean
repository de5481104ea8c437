/-
  Of a whole number the seconds are it: the walk.
-/
import Derived.Test.YtahhgphlfodonaaDoorStpWholeD
import Derived.Test.YtahhgphlfodonaaDoorStpKnown
import Derived.Tactics
namespace Go.Proofs.YtahhgphlfodonaaDoor
open Go.RowKit Go.Shelf

namespace M
theorem bill_noughts {j : Nat} (h0 : 0 < j) (h : j ≤ 18) : billionths (List.replicate j 48) = some 0 := by
  have hall : (List.replicate j (48 : UInt8)).all isDig = true := by
    rw [List.all_eq_true]
    intro c hc
    rw [List.eq_of_mem_replicate hc]
    rfl
  have hx : number (List.replicate j 48) 18 ≠ none := by
    rw [number_some (by intro e; have := congrArg List.length e; simp at this; omega) (by rw [List.length_replicate]; exact h) hall]
    simp
  unfold billionths
  rw [if_neg hx]
  unfold nine
  rw [List.replicate_append_replicate, List.take_replicate]
  have := num_noughts (min 9 (j + 9)) []
  rw [List.append_nil] at this
  rw [this]
  rfl
theorem bill_nil : billionths [] = none := by decide +kernel
theorem sgn_whole (b : Bool) (n : Int) : sgn b (n, 0) = (if b = true then -n else n, 0) := by
  unfold sgn
  cases b with
  | true => rw [if_pos rfl, if_pos rfl]; rfl
  | false => rw [if_neg (by decide), if_neg (by decide)]
end M

/-- The three readings. -/
theorem whole_texts (b : Bool) (n : Nat) (hn : n ≤ 4294967295) (X : ByteArray) (hX : tl X = (if b = true then [45] else []) ++ Lib.decDigits n) :
    X.size ≤ 11 ∧ M.parse (tl X) = some (if b = true then -(n : Int) else (n : Int), 0) ∧ M.parse (tl (X ++ ⟨#[46]⟩)) = none ∧
      ∀ (Z : ByteArray) (j : Nat), tl Z = List.replicate j 48 → 0 < j → j ≤ 18 → M.parse (tl ((X ++ ⟨#[46]⟩) ++ Z)) = some (if b = true then -(n : Int) else (n : Int), 0) := by
  have hl : (Lib.decDigits n).length ≤ 10 := by rw [Lib.decDigits_length]; exact M.dec_len (by omega) (by omega)
  have h46 : tl (⟨#[46]⟩ : ByteArray) = [46] := rfl
  refine ⟨?_, ?_, ?_, ?_⟩
  · rw [← tl_len, hX, List.length_append]
    have : (if b = true then ([45] : List UInt8) else []).length ≤ 1 := by split <;> simp
    omega
  · rw [hX, M.parse_form b (M.dec_all n) (M.dec_ne n) (by omega), M.num_decDigits, M.sgn_whole]
  · rw [tl_append, hX, h46, List.append_assoc, M.parse_form_pt b (M.dec_all n) (M.dec_ne n) (by omega), M.bill_nil]
  · intro Z j hZ h0 h18
    have e : tl ((X ++ ⟨#[46]⟩) ++ Z) = (if b = true then [45] else []) ++ (Lib.decDigits n ++ 46 :: List.replicate j 48) := by
      rw [tl_append, tl_append, hX, h46, hZ]
      simp
    rw [e, M.parse_form_pt b (M.dec_all n) (M.dec_ne n) (by omega), M.bill_noughts h0 h18, M.num_decDigits]
    show some (M.sgn b ((n : Int), ((0 : Nat) : Int))) = _
    rw [show ((0 : Nat) : Int) = 0 from rfl, M.sgn_whole]
theorem rep_snoc {z : ByteArray} {i : Nat} (h : tl z = List.replicate i 48) : tl (z ++ ⟨#[48]⟩) = List.replicate (i + 1) 48 := by
  rw [tl_append, h, List.replicate_succ']
  rfl

set_option maxRecDepth 100000 in
set_option maxHeartbeats 8000000 in
theorem stampWhole_any (n : Int) (b : Bool) (k : Int) (w : World) (hn : 0 ≤ n ∧ n ≤ 4294967295) (hk : 0 ≤ k ∧ k ≤ 255) (ht : TB w.heap.size w) :
    Calls Tryd.prog 3 #[.int .u32 n, .bool b, .int .u8 k] w fun e w' => e = .returned (.bool true) ∧ Below w.heap.size w w' := by
  obtain ⟨hn1, hn2⟩ := hn
  obtain ⟨hk1, hk2⟩ := hk
  obtain ⟨n', rfl⟩ : ∃ n' : Nat, n = n' := ⟨n.toNat, by omega⟩
  obtain ⟨k', rfl⟩ : ∃ k' : Nat, k = k' := ⟨k.toNat, by omega⟩
  obtain ⟨m, hm⟩ : ∃ m : Nat, k' % 18 = m := ⟨_, rfl⟩
  have hmi : (k' : Int) % 18 = (m : Int) := by omega
  have hm17 : m ≤ 17 := by omega
  clear hm
  have C1 := fun W => digitsTo_any n' (by omega) W
  unfold TextIs at C1
  obtain ⟨D, hD⟩ : ∃ D : ByteArray, (⟨(Lib.decDigits n').toArray⟩ : ByteArray) = D := ⟨_, rfl⟩
  have hDt : tl D = Lib.decDigits n' := by rw [← hD]; rfl
  rw [hD] at C1
  have hT := Lib.hid ht
  have HK := Lib.hid (fun W h1 h2 => known_any w.heap.size W h1 h2)
  have H1 := Lib.hid C1
  clear C1 ht hD
  obtain ⟨X, hX⟩ : ∃ X : ByteArray, X = if b = true then (⟨#[45]⟩ : ByteArray) ++ D else D := ⟨_, rfl⟩
  have hXt : tl X = (if b = true then [45] else []) ++ Lib.decDigits n' := by
    rw [hX]
    cases b with
    | true => rw [if_pos rfl, if_pos rfl, tl_append, hDt]; rfl
    | false => rw [if_neg (by decide), if_neg (by decide), hDt]; rfl
  obtain ⟨hx1, hx2, hx3, hx4⟩ := whole_texts b n' (by omega) X hXt
  obtain ⟨v, hv⟩ : ∃ v : Int, (if b = true then -(n' : Int) else (n' : Int)) = v := ⟨_, rfl⟩
  rw [hv] at hx2 hx4
  have C2 := fun W => parse_any X (by omega) W
  have C3 := fun W => parse_any (X ++ ⟨#[46]⟩) (by rw [ByteArray.size_append]; show X.size + 1 ≤ 1000000; omega) W
  have C4 := fun (Z : ByteArray) (hZ : tl Z = List.replicate (m + 1) 48) W => parse_any ((X ++ ⟨#[46]⟩) ++ Z) (by
    rw [ByteArray.size_append, ByteArray.size_append]
    have : Z.size = m + 1 := by rw [← tl_len, hZ, List.length_replicate]
    show X.size + 1 + Z.size ≤ 1000000
    omega) W
  rw [hx2] at C2
  rw [hx3] at C3
  have C5 : ∀ (Z : ByteArray) (hZ : tl Z = List.replicate (m + 1) 48) W, Calls Tryd.prog 10 #[.string ((X ++ ⟨#[46]⟩) ++ Z)] W (ParseIs (some (v, 0)) W) := fun Z hZ W => by
    have := C4 Z hZ W
    rwa [hx4 Z (m + 1) hZ (by omega) (by omega)] at this
  unfold ParseIs parseV tv at C2 C3 C5
  dsimp only at C2 C3 C5
  have H2 := Lib.hid C2
  have H3 := Lib.hid C3
  have H5 := Lib.hid C5
  have hD10 : D.size ≤ 10 := by rw [← tl_len, hDt, Lib.decDigits_length]; exact M.dec_len (by omega) (by omega)
  clear C2 C3 C4 C5 hx2 hx3 hx4 hXt hDt
  cases b
  case' false =>
    rw [if_neg (by decide)] at hX hv
    subst hX
    subst hv
    go_enter Tryd.func3, Tryd.ntmps3
    go_wp2_with fail
    refine (H1.out _).mono ?_
    rintro e w1 ⟨rfl, hb1⟩
    go_wp2_with fail
    generalize (n' : Int) = v at *
  case' true =>
    rw [if_pos rfl] at hX hv
    have hXe : (⟨#[45]⟩ : ByteArray) ++ D = X := hX.symm
    clear hX
    go_enter Tryd.func3, Tryd.ntmps3
    go_wp2_with fail
    refine (H1.out _).mono ?_
    rintro e w1 ⟨rfl, hb1⟩
    go_wp2_with fail
    clear hXe
  all_goals
    go_loop [9, 10] (fun s9 s10 => ∃ (i : Nat) (z : ByteArray), s9 = .string z ∧ s10 = .int .i64 i ∧ i ≤ m + 1 ∧ Hid (z.size = i) ∧ Hid (tl z = List.replicate i 48)) (fun _ s10 => m + 1 - (intOf s10).toNat)
    case atStart => exact ⟨0, ⟨#[]⟩, rfl, rfl, Nat.zero_le _, Lib.hid rfl, Lib.hid rfl⟩
    case round =>
      obtain ⟨i, z, rfl, rfl, hi, hzs, hz⟩ := hrel
      have hz18 : z.size ≤ 18 := by rw [hzs.out]; omega
      by_cases hlt : i ≤ m
      · have e1 : decide (i ≤ m) = true := by rw [decide_eq_true_eq]; exact hlt
        go_wp2
        go_round
        case rel => exact ⟨i + 1, _, rfl, by go_num, by omega, Lib.hid (by rw [ByteArray.size_append, hzs.out]; rfl), Lib.hid (rep_snoc hz.out)⟩
        case measure => simp [intOf]; omega
      · obtain rfl : i = m + 1 := by omega
        have e1 : decide (m + 1 ≤ m) = false := by rw [decide_eq_false_iff_not]; exact hlt
        have H4 := Lib.hid (H5.out z hz.out)
        clear hlt hi hzs hz H5 H1
        go_wp2_with fail
        refine (H2.out _).mono ?_
        rintro e w2 ⟨rfl, hb2⟩
        have b2 := hb1.trans (hb2.mono hb1.size)
        have b3 := b2.alloc b2.size (.cells #[.int .i64 v, .int .i64 0] 25)
        have x3 := BoxT.new w2 (v, 0)
        dsimp only at x3
        clear b2 hb2
        go_wp2_with fail
        refine (H4.out _).mono ?_
        rintro e w3 ⟨rfl, hb3⟩
        have b4 := b3.trans (hb3.mono b3.size)
        have b5 := b4.alloc b4.size (.cells #[.int .i64 v, .int .i64 0] 25)
        have x5 := (x3.below hb3 x3.lt).alloc (.cells #[.int .i64 v, .int .i64 0] 25)
        have y5 := BoxT.new w3 (v, 0)
        dsimp only at y5
        clear b3 hb3 x3 b4
        go_wp2_with fail
        refine (H3.out _).mono ?_
        rintro e w4 ⟨rfl, hb4⟩
        have b6 := b5.trans (hb4.mono b5.size)
        have b7 := b6.alloc b6.size (.cells #[.int .i64 0, .int .i64 0] 25)
        have x7 := (x5.below hb4 x5.lt).alloc (.cells #[.int .i64 0, .int .i64 0] 25)
        have y7 := (y5.below hb4 y5.lt).alloc (.cells #[.int .i64 0, .int .i64 0] 25)
        clear b5 hb4 x5 y5 b6
        go_wp2_with fail
        refine (HK.out _ b7.size (hT.out.on b7)).mono ?_
        rintro e w5 ⟨rfl, hb5⟩
        have b8 := b7.trans (hb5.mono b7.size)
        have x8 := x7.below hb5 x7.lt
        have y8 := y7.below hb5 y7.lt
        have c0 := x8.cell0
        have c1 := x8.cell1
        have d0 := y8.cell0
        have d1 := y8.cell1
        dsimp only at c0 c1 d0 d1
        clear b7 hb5 x7 y7 x8 y8 H2 H3 H4 HK hT
        go_wp2
        go_ret
        exact ⟨rfl, b8⟩
end Go.Proofs.YtahhgphlfodonaaDoor
