/-
  The document's text of a time.
-/
import Derived.Test.YtahhgphlfodonaaDoorStpPrint
import Derived.Tactics
namespace Go.Proofs.YtahhgphlfodonaaDoor
open Go.RowKit Go.Shelf

namespace M
theorem num_base : ∀ (l : List UInt8) (a : Nat), num l a = a * 10 ^ l.length + num l 0
  | [], a => by simp [num]
  | c :: l, a => by
    show num l (10 * a + (c.toNat - 48)) = a * 10 ^ (l.length + 1) + num l (10 * 0 + (c.toNat - 48))
    rw [num_base l (10 * a + (c.toNat - 48)), num_base l (10 * 0 + (c.toNat - 48)), Nat.pow_succ]
    rw [Nat.add_mul, Nat.mul_zero, Nat.zero_add, Nat.mul_comm 10 a, Nat.mul_assoc, Nat.mul_comm 10 (10 ^ l.length)]
    omega
/-- A one ahead of nine digits. -/
theorem dec_billion {n : Nat} (h : n < 1000000000) : Lib.decDigits (1000000000 + n) = 49 :: pad9 n := by
  have hl := pad9_len h
  have hnum : num (49 :: pad9 n) 0 = 1000000000 + n := by
    show num (pad9 n) (10 * 0 + (49 - 48)) = _
    rw [num_base, hl, pad9_num]
  have hnd : Lib.nDigits (1000000000 + n) = 10 := Lib.nDigits_unique 9 _ (by omega) (by omega)
  have := dec_of_num 10 (49 :: pad9 n) (by rw [List.length_cons, hl]) (by simp) (by rw [List.all_cons, pad9_all]; rfl) (by rw [List.length_cons, hl, hnum, hnd])
  rw [hnum] at this
  exact this.symm
theorem trim_snoc0 (g : List UInt8) : trim0 (g ++ [48]) = trim0 g := by unfold trim0; simp
theorem trim_snoc {g : List UInt8} {c : UInt8} (h : c ≠ 48) : trim0 (g ++ [c]) = g ++ [c] := by
  unfold trim0
  rw [List.reverse_append, List.reverse_singleton, List.singleton_append, List.dropWhile_cons]
  have : (c == 48) = false := by simpa using h
  rw [this]
  simp
end M

def strSize : Value → Nat
  | .string r => r.size
  | _ => 0
theorem byte_ne {c d : UInt8} (h : c ≠ d) : ((c.toNat : Int) == (d.toNat : Int)) = false := by
  rw [beq_eq_false_iff_ne]
  intro e
  exact h (UInt8.toNat_inj.1 (by omega))
theorem split_last {r : ByteArray} {L : Nat} (hL : r.size = L + 1) : tl r = (tl r).take L ++ [r[L]'(by omega)] := by
  have h := List.take_append_drop L (tl r)
  have hl : L < (tl r).length := by rw [tl_len]; omega
  have e : (tl r).drop L = [r[L]'(by omega)] := by
    rw [List.drop_eq_getElem_cons hl, List.drop_of_length_le (by rw [tl_len]; omega)]
    rfl
  rw [e] at h
  exact h.symm
theorem ext_take (r : ByteArray) (L : Nat) : tl (r.extract 0 L) = (tl r).take L := by
  show (r.extract 0 L).data.toList = _
  simp [ByteArray.data_extract, tl]
theorem ext_tail (r : ByteArray) : tl (r.extract 1 r.size) = (tl r).drop 1 := by
  show (r.extract 1 r.size).data.toList = _
  simp [ByteArray.data_extract, tl]
  rw [List.take_of_length_le]
  simp

set_option maxRecDepth 100000 in
set_option maxHeartbeats 4000000 in
theorem refPrint_any (S n : Int) (B : Nat) (w : World) (hB : B ≤ w.heap.size) (ht : TB B w) : Calls Tryd.prog 15 #[.agg #[.int .i64 S, .int .i64 n]] w (TextIs (M.pr (M.norm (S, n))) w) := by
  have C1 := fun W => refNorm_to S n W
  have hok := M.norm_ok (S, n)
  generalize M.norm (S, n) = t at *
  obtain ⟨p1, p2⟩ := t
  obtain ⟨a1, a2, a3, a4, a5⟩ := M.sgn_parts hok
  obtain ⟨o1, o2, o3, o4⟩ := hok
  dsimp only at o1 o2 o3 o4
  have he : M.pr (p1, p2) = (if M.below0 (p1, p2) = true then [45] else []) ++ (Lib.decDigits (M.sgn (M.below0 (p1, p2)) (p1, p2)).1.toNat ++ M.fracText (M.sgn (M.below0 (p1, p2)) (p1, p2)).2.toNat) := rfl
  have hb0 : M.below0 (p1, p2) = decide (p1 < 0) := rfl
  have hq : M.below0 (p1, p2) = true → M.sgn (M.below0 (p1, p2)) (p1, p2) = M.opp (p1, p2) := fun h => by unfold M.sgn; rw [if_pos h]
  have hq2 : M.below0 (p1, p2) = false → M.sgn (M.below0 (p1, p2)) (p1, p2) = (p1, p2) := fun h => by unfold M.sgn; rw [if_neg (by rw [h]; decide)]
  generalize M.below0 (p1, p2) = b at *
  generalize M.sgn b (p1, p2) = q at *
  obtain ⟨A, N⟩ := q
  dsimp only at a1 a2 a3 a4 a5 he
  obtain ⟨A', rfl⟩ : ∃ A' : Nat, A = A' := ⟨A.toNat, by omega⟩
  obtain ⟨N', rfl⟩ : ∃ N' : Nat, N = N' := ⟨N.toNat, by omega⟩
  rw [Int.toNat_natCast, Int.toNat_natCast] at he
  have hd1 : Lib.nDigits A' ≤ 15 := M.dec_len (by omega) (by omega)
  have CA := fun B' W h => itoa_any A' (by omega) B' W h
  have CN := fun B' W h => itoa_any (1000000000 + N') (by omega) B' W h
  have e10 : ((1000000000 + N' : Nat) : Int) = 1000000000 + (N' : Int) := by omega
  rw [e10] at CN
  have HT := Lib.hid (ht.up hB)
  have H1 := Lib.hid C1
  have HCA := Lib.hid CA
  have HCN := Lib.hid CN
  have HE := Lib.hid he
  clear C1 CA CN he ht e10
  by_cases hN0 : p2 = 0
  case' pos =>
    have hN' : N' = 0 := by have := a5.2 hN0; omega
    subst hN0
    subst hN'
    have hfr : M.fracText 0 = [] := rfl
    rw [hfr] at HE
    clear hfr
  case' neg =>
    have hNp : 0 < N' := by
      rcases Nat.eq_zero_or_pos N' with h0 | h0
      · exact absurd (a5.1 (by omega)) hN0
      · exact h0
    have hfr : M.fracText N' = 46 :: M.trim0 (M.pad9 N') := by unfold M.fracText; rw [if_neg (by omega)]
    rw [hfr] at HE
    have k5 : ((N' : Int) == 0) = false := by simp; omega
    have k6 : decide (p2 > 0) = true := by rw [decide_eq_true_eq]; omega
    clear hfr
  all_goals
    clear a5
    cases b
    case' false =>
      have hpq := hq2 rfl
      simp only [Prod.mk.injEq] at hpq
      have k0 : decide (p1 < 0) = false := hb0.symm
    case' true =>
      have hpq := hq rfl
      have k0 : decide (p1 < 0) = true := hb0.symm
      unfold M.opp at hpq
  case pos.false =>
    obtain ⟨rfl, _⟩ := hpq
    clear hq hq2 hb0
    go_enter Tryd.func15, Tryd.ntmps15
    go_wp2_with fail
    refine (H1.out _).mono ?_
    rintro e w1 ⟨rfl, rfl⟩
    dsimp only
    go_wp2_with fail
    refine (HCA.out w.heap.size _ (HT.out.on (below3 _ _ _ _))).mono ?_
    rintro e w2 ⟨x, rfl, hx, hxs, hb2⟩
    have b2 : Below w.heap.size w w2 := (below3 _ _ _ _).trans (hb2.mono (by simp; omega))
    have hxz : x.size ≤ 15 := by rw [hxs]; exact hd1
    have HX := Lib.hid hx
    clear hb2 hx hxs
    go_wp2
    go_ret
    refine ⟨ret_text ?_, b2⟩
    rw [HE.out, tl_append, HX.out, List.append_nil]
    rfl
  case pos.true =>
    rw [if_pos rfl] at hpq
    simp only [Prod.mk.injEq] at hpq
    obtain ⟨hA, _⟩ := hpq
    have hA' : -p1 = (A' : Int) := hA.symm
    clear hq hq2 hb0 hA
    go_enter Tryd.func15, Tryd.ntmps15
    go_wp2_with fail
    refine (H1.out _).mono ?_
    rintro e w1 ⟨rfl, rfl⟩
    dsimp only
    go_wp2_with fail
    refine (HCA.out w.heap.size _ (HT.out.on (below3 _ _ _ _))).mono ?_
    rintro e w2 ⟨x, rfl, hx, hxs, hb2⟩
    have b2 : Below w.heap.size w w2 := (below3 _ _ _ _).trans (hb2.mono (by simp; omega))
    have hxz : x.size ≤ 15 := by rw [hxs]; exact hd1
    have HX := Lib.hid hx
    clear hb2 hx hxs
    go_wp2
    go_ret
    refine ⟨ret_text ?_, b2⟩
    rw [HE.out, tl_append, HX.out, List.append_nil]
    rfl
  case' neg.false =>
    obtain ⟨hpA, hpN⟩ := hpq
    subst hpA
    subst hpN
    clear hq hq2 hb0
    go_enter Tryd.func15, Tryd.ntmps15
    go_wp2_with fail
    refine (H1.out _).mono ?_
    rintro e w1 ⟨rfl, rfl⟩
    dsimp only
    go_wp2_with fail
    refine (HCA.out w.heap.size _ (HT.out.on (below3 _ _ _ _))).mono ?_
    rintro e w2 ⟨x, rfl, hx, hxs, hb2⟩
  case' neg.true =>
    rw [if_neg hN0] at hpq
    simp only [Prod.mk.injEq] at hpq
    obtain ⟨hA, hN⟩ := hpq
    have hA' : -p1 - 1 = (A' : Int) := hA.symm
    have hN' : 1000000000 - p2 = (N' : Int) := hN.symm
    clear hq hq2 hb0 hA hN
    go_enter Tryd.func15, Tryd.ntmps15
    go_wp2_with fail
    refine (H1.out _).mono ?_
    rintro e w1 ⟨rfl, rfl⟩
    dsimp only
    go_wp2_with fail
    refine (HCA.out w.heap.size _ (HT.out.on (below3 _ _ _ _))).mono ?_
    rintro e w2 ⟨x, rfl, hx, hxs, hb2⟩
  all_goals
    have b2 : Below w.heap.size w w2 := (below3 _ _ _ _).trans (hb2.mono (by simp; omega))
    have hxz : x.size ≤ 15 := by rw [hxs]; exact hd1
    have HX := Lib.hid hx
    clear hb2 hx hxs
    go_wp2_with fail
    refine (HCN.out w.heap.size _ (HT.out.on b2)).mono ?_
    rintro e w3 ⟨y, rfl, hy, hys, hb3⟩
    have b3 := b2.trans (hb3.mono b2.size)
    rw [M.dec_billion (by omega)] at hy
    have hy10 : y.size = 10 := by rw [← tl_len, hy, List.length_cons, M.pad9_len (by omega)]
    have hr0 : tl (y.extract 1 y.size) = M.pad9 N' := by rw [ext_tail, hy]; rfl
    have hrs : (y.extract 1 y.size).size = 9 := by rw [← tl_len, hr0, M.pad9_len (by omega)]
    have hy1 : (1 : Int) ≤ (y.size : Int) := by omega
    have HR0 := Lib.hid hr0
    have HRS := Lib.hid hrs
    have hne := M.trim_ne hNp
    have HNE := Lib.hid hne
    have htl := M.trim_len (n := N') (by omega)
    clear hy hys hy10 hr0 hrs hne hb3 HCA HCN H1
    go_wp2_with fail
    go_loop [6] (fun v => ∃ r : ByteArray, v = .string r ∧ Hid (M.trim0 (tl r) = M.trim0 (M.pad9 N')) ∧ r.size ≤ 9) (fun v => strSize v)
    case atStart => exact ⟨_, rfl, Lib.hid (by rw [HR0.out]), by rw [HRS.out]; exact Nat.le_refl _⟩
    case round =>
      obtain ⟨r, rfl, hT, hr9⟩ := hrel
      have hr0 : 0 < r.size := by
        rcases Nat.eq_zero_or_pos r.size with h0 | h0
        · exfalso
          have h1 := hT.out
          rw [List.eq_nil_of_length_eq_zero (show (tl r).length = 0 by rw [tl_len]; exact h0)] at h1
          exact HNE.out h1.symm
        · exact h0
      obtain ⟨L, hL⟩ : ∃ L, r.size = L + 1 := ⟨r.size - 1, by omega⟩
      have hs := split_last hL
      have hLs : L < r.size := by omega
      have l3 : (r.size : Int) - 1 = (L : Int) := by omega
      have l4 : IntKind.i64.wrap (L : Int) = L := by
        rw [IntKind.wrap_i64]
        omega
      have l5 : (L : Int) ≤ (r.size : Int) := by omega
      by_cases hc : r[L]'hLs = 48
      · have hT2 : M.trim0 (tl (r.extract 0 L)) = M.trim0 (M.pad9 N') := by
          rw [ext_take, ← hT.out]
          conv => rhs; rw [hs, hc, M.trim_snoc0]
        have HT2 := Lib.hid hT2
        have k7 : (((r[L]'hLs).toNat : Int) == 48) = true := by rw [hc]; rfl
        have hsz : (r.extract 0 L).size = L := by rw [← tl_len, ext_take, List.length_take, tl_len]; omega
        have HSZ := Lib.hid hsz
        clear hT hT2 hs hc hL hsz hr0
        go_wp2
        go_round
        case rel => exact ⟨_, rfl, HT2, by rw [HSZ.out]; omega⟩
        case measure => simp only [strSize]; rw [HSZ.out]; omega
      · have hfin : tl r = M.trim0 (M.pad9 N') := by
          rw [← hT.out]
          conv => rhs; rw [hs, M.trim_snoc hc]
          exact hs
        have HF := Lib.hid hfin
        have k7 : (((r[L]'hLs).toNat : Int) == 48) = false := byte_ne (d := 48) hc
        clear hT hfin hs hc hL hr0
        go_wp2
        go_ret
        refine ⟨ret_text ?_, b3⟩
        rw [HE.out, tl_append, tl_append, tl_append, HX.out, HF.out]
        simp [tl]
end Go.Proofs.YtahhgphlfodonaaDoor
