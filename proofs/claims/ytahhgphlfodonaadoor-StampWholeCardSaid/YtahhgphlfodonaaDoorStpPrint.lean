/-
  The program's text of a time.
-/
import Derived.Test.YtahhgphlfodonaaDoorStpBox
import Derived.Test.YtahhgphlfodonaaDoorShelf
import Derived.Lib.AppendIntMem
import Derived.Lib.ItoaMem
import Derived.LoopTactic
namespace Go.Proofs.YtahhgphlfodonaaDoor
open Go.RowKit Go.Shelf

/-- The table of tens lies below block B. -/
def TB (B : Nat) (w : World) : Prop := Lib.TabBelow Tryd.prog B w "internal/strconv.uint64pow10" .u64 Lib.pow10Tab
theorem TB.on {B : Nat} {w w' : World} (h : TB B w) (hb : Below B w w') : TB B w' := Lib.TabBelow.on h hb
theorem TB.up {B B' : Nat} {w : World} (h : TB B w) (hB : B ≤ B') : TB B' w := fun w' hb => h w' (hb.mono hB)

/-- A text of decimal digits. -/
def DecIs (n : Nat) (w : World) (e : Ending) (w' : World) : Prop := ∃ s : ByteArray, e = .returned (.string s) ∧ tl s = Lib.decDigits n ∧ s.size = Lib.nDigits n ∧ Below w.heap.size w w'
theorem itoa_any (n : Nat) (hn : n ≤ 9223372036854775807) (B : Nat) (w : World) (ht : TB B w) :
    Calls Tryd.prog 25 #[.int .i64 n] w (DecIs n w) := by
  refine (Tryd.strconv_Itoa (n : Int) (by omega) (by omega) w ht.here).mono ?_
  rintro e w' ⟨rfl, k, os, rfl⟩
  refine ⟨_, rfl, ?_, ?_, Lib.below_grow _ _ (Nat.le_refl _) _ _⟩
  · rw [tl_mk, Lib.itoa_nonneg]
  · show (Lib.itoa (n : Int)).toArray.size = _
    rw [Lib.itoa_nonneg, List.size_toArray, Lib.decDigits_length]

set_option maxRecDepth 100000 in
set_option maxHeartbeats 1000000 in
theorem opp_to (S n : Int) (h : M.Ok (S, n)) (w : World) : Calls Tryd.prog 24 #[.agg #[.int .i64 S, .int .i64 n]] w (NormTo (S, n) (M.opp (S, n)) w) := by
  obtain ⟨h1, h2, h3, h4⟩ := h
  dsimp only at h1 h2 h3 h4
  by_cases h0 : n = 0
  · subst h0
    have ho : M.opp (S, 0) = (-S, 0) := rfl
    rw [ho]
    clear ho
    go_enter Tryd.func24, Tryd.ntmps24
    go_wp2
    exact bodyPost_ret (results_time rfl rfl (box2 w _ (-S, 0))) rfl ⟨rfl, rfl⟩
  · have ho : M.opp (S, n) = (-S - 1, 1000000000 - n) := by unfold M.opp; rw [if_neg h0]
    rw [ho]
    clear ho
    go_enter Tryd.func24, Tryd.ntmps24
    go_wp2
    exact bodyPost_ret (results_time rfl rfl (box2 w _ (-S - 1, 1000000000 - n))) rfl ⟨rfl, rfl⟩

def TextIs (l : List UInt8) (w : World) (e : Ending) (w' : World) : Prop := e = .returned (.string ⟨l.toArray⟩) ∧ Below w.heap.size w w'
theorem ret_text {s : ByteArray} {l : List UInt8} (h : tl s = l) : Ending.returned (.string s) = .returned (.string ⟨l.toArray⟩) := by
  rw [tl_inj (a := s) (b := ⟨l.toArray⟩) h]
theorem trim_text (l : List UInt8) : Lib.trimRightB l 48 = M.trim0 l := rfl
theorem pad_text {x : ByteArray} {n : Nat} (hx : tl x = Lib.decDigits n) (hs : x.size = Lib.nDigits n) (h9 : Lib.nDigits n ≤ 9) :
    ((⟨#[48, 48, 48, 48, 48, 48, 48, 48, 48]⟩ : ByteArray).extract x.size 9 ++ x).data.toList = M.pad9 n := by
  show tl _ = _
  rw [tl_append, hx, hs]
  unfold M.pad9
  congr 1
  generalize Lib.nDigits n = d at *
  match d, h9 with
  | 0, _ => rfl
  | 1, _ => rfl
  | 2, _ => rfl
  | 3, _ => rfl
  | 4, _ => rfl
  | 5, _ => rfl
  | 6, _ => rfl
  | 7, _ => rfl
  | 8, _ => rfl
  | 9, _ => rfl

theorem below5 (w : World) (o o2 o3 o4 o5 : Obj) : Below w.heap.size w (((((w.alloc o).alloc o2).alloc o3).alloc o4).alloc o5) := ((below3 w o o2 o3).alloc (by simp; omega) _).alloc (by simp; omega) _

set_option maxRecDepth 100000 in
set_option maxHeartbeats 4000000 in
theorem print_any (S n : Int) (B : Nat) (w : World) (hB : B ≤ w.heap.size) (ht : TB B w) : Calls Tryd.prog 12 #[.agg #[.int .i64 S, .int .i64 n]] w (TextIs (M.pr (M.norm (S, n))) w) := by
  have C1 := fun W => norm_to S n W
  have hok := M.norm_ok (S, n)
  generalize M.norm (S, n) = t at *
  obtain ⟨p1, p2⟩ := t
  obtain ⟨a1, a2, a3, a4, a5⟩ := M.sgn_parts hok
  have CO := fun W => opp_to p1 p2 hok W
  have he : M.pr (p1, p2) = (if M.below0 (p1, p2) = true then [45] else []) ++ (Lib.decDigits (M.sgn (M.below0 (p1, p2)) (p1, p2)).1.toNat ++ M.fracText (M.sgn (M.below0 (p1, p2)) (p1, p2)).2.toNat) := rfl
  have hb0 : M.below0 (p1, p2) = decide (p1 < 0) := rfl
  have hq : M.below0 (p1, p2) = true → M.opp (p1, p2) = M.sgn (M.below0 (p1, p2)) (p1, p2) := fun h => by unfold M.sgn; rw [if_pos h]
  have hq2 : M.below0 (p1, p2) = false → (p1, p2) = M.sgn (M.below0 (p1, p2)) (p1, p2) := fun h => by unfold M.sgn; rw [if_neg (by rw [h]; decide)]
  generalize M.below0 (p1, p2) = b at *
  generalize M.sgn b (p1, p2) = q at *
  obtain ⟨A, N⟩ := q
  dsimp only at a1 a2 a3 a4 a5 he
  obtain ⟨A', rfl⟩ : ∃ A' : Nat, A = A' := ⟨A.toNat, by omega⟩
  obtain ⟨N', rfl⟩ : ∃ N' : Nat, N = N' := ⟨N.toNat, by omega⟩
  rw [Int.toNat_natCast, Int.toNat_natCast] at he
  have hd1 : Lib.nDigits A' ≤ 15 := M.dec_len (by omega) (by omega)
  have hd2 : Lib.nDigits N' ≤ 9 := M.dec_len (by omega) (by omega)
  have CA := fun B' W h => itoa_any A' (by omega) B' W h
  have CN := fun B' W h => itoa_any N' (by omega) B' W h
  have HT := Lib.hid (ht.up hB)
  have H1 := Lib.hid C1
  have HCA := Lib.hid CA
  have HCN := Lib.hid CN
  have HE := Lib.hid he
  clear C1 CA CN he ht hok
  by_cases hN0 : N' = 0
  case' pos =>
    subst hN0
    have hfr : M.fracText 0 = [] := rfl
  case' neg =>
    have hfr : M.fracText N' = 46 :: M.trim0 (M.pad9 N') := by unfold M.fracText; rw [if_neg hN0]
    have k5 : ((N' : Int) == 0) = false := by simp; omega
  all_goals
    rw [hfr] at HE
    cases b
    case' false =>
      have hpq := hq2 rfl
      simp only [Prod.mk.injEq] at hpq
      obtain ⟨rfl, rfl⟩ := hpq
      have k0 : decide ((A' : Int) < 0) = false := hb0.symm
      clear hq hq2 hb0 CO hfr
    case' true =>
      have ho := hq rfl
      rw [ho] at CO
      have HO := Lib.hid CO
      have k0 : decide (p1 < 0) = true := hb0.symm
      clear hq hq2 hb0 CO ho hfr
  case pos.false =>
    go_enter Tryd.func12, Tryd.ntmps12
    go_wp2_with fail
    refine (H1.out _).mono ?_
    rintro e w1 ⟨rfl, rfl⟩
    dsimp only
    go_wp2_with fail
    refine (HCA.out w.heap.size _ (HT.out.on (below3 _ _ _ _))).mono ?_
    rintro e w2 ⟨x, rfl, hx, hxs, hb2⟩
    have x2 := (((BoxT.new w ((A' : Int), (0 : Int))).alloc (.cells #[.int .i64 S, .int .i64 n] 25)).alloc (.cells #[.int .i64 (A' : Int), .int .i64 (0 : Int)] 25)).below hb2 (by simp; omega)
    have b2 : Below w.heap.size w w2 := (below3 _ _ _ _).trans (hb2.mono (by simp; omega))
    have hxz : x.size ≤ 15 := by rw [hxs]; exact hd1
    have HX := Lib.hid hx
    have c1 := x2.cell1
    dsimp only at c1
    clear hb2 x2 hx hxs H1 HCA
    go_wp2
    go_ret
    refine ⟨ret_text ?_, b2⟩
    rw [HE.out, tl_append, HX.out, List.append_nil]
    rfl
  case pos.true =>
    go_enter Tryd.func12, Tryd.ntmps12
    go_wp2_with fail
    refine (H1.out _).mono ?_
    rintro e w1 ⟨rfl, rfl⟩
    dsimp only
    go_wp2_with fail
    refine (HO.out _).mono ?_
    rintro e w1 ⟨rfl, rfl⟩
    dsimp only
    go_wp2_with fail
    refine (HCA.out w.heap.size _ (HT.out.on (below5 _ _ _ _ _ _))).mono ?_
    rintro e w2 ⟨x, rfl, hx, hxs, hb2⟩
    have x2 := (((((BoxT.new w ((A' : Int), (0 : Int))).alloc (.cells #[.int .i64 S, .int .i64 n] 25)).alloc (.cells #[.int .i64 p1, .int .i64 p2] 25)).alloc (.cells #[.int .i64 p1, .int .i64 p2] 25)).alloc (.cells #[.int .i64 (A' : Int), .int .i64 (0 : Int)] 25)).below hb2 (by simp; omega)
    have b2 : Below w.heap.size w w2 := (below5 _ _ _ _ _ _).trans (hb2.mono (by simp; omega))
    have hxz : x.size ≤ 15 := by rw [hxs]; exact hd1
    have HX := Lib.hid hx
    have c1 := x2.cell1
    dsimp only at c1
    clear hb2 x2 hx hxs H1 HCA HO
    go_wp2
    go_ret
    refine ⟨ret_text ?_, b2⟩
    rw [HE.out, tl_append, HX.out, List.append_nil]
    rfl
  case neg.false =>
    go_enter Tryd.func12, Tryd.ntmps12
    go_wp2_with fail
    refine (H1.out _).mono ?_
    rintro e w1 ⟨rfl, rfl⟩
    dsimp only
    go_wp2_with fail
    refine (HCA.out w.heap.size _ (HT.out.on (below3 _ _ _ _))).mono ?_
    rintro e w2 ⟨x, rfl, hx, hxs, hb2⟩
    have x2 := (((BoxT.new w ((A' : Int), (N' : Int))).alloc (.cells #[.int .i64 S, .int .i64 n] 25)).alloc (.cells #[.int .i64 (A' : Int), .int .i64 (N' : Int)] 25)).below hb2 (by simp; omega)
    have b2 : Below w.heap.size w w2 := (below3 _ _ _ _).trans (hb2.mono (by simp; omega))
    have hxz : x.size ≤ 15 := by rw [hxs]; exact hd1
    have HX := Lib.hid hx
    have c1 := x2.cell1
    dsimp only at c1
    clear hb2 x2 hx hxs H1 HCA
    go_wp2_with fail
    refine (HCN.out w.heap.size _ (HT.out.on b2)).mono ?_
    rintro e w3 ⟨y, rfl, hy, hys, hb3⟩
    have b3 := b2.trans (hb3.mono b2.size)
    have hp := pad_text hy hys hd2
    have hyz : y.size ≤ 9 := by rw [hys]; exact hd2
    have hyz2 : (y.size : Int) ≤ 9 := by omega
    have HP := Lib.hid hp
    have htl := M.trim_len (n := N') (by omega)
    clear hp hy hys hb3 c1
    go_wp2_with (go_at_call 26; refine (Tryd.strings_TrimRight_one _ 48 (by decide) _ (by simp [ByteArray.size_append]; omega)).mono ?_; rintro e w4 ⟨rfl, rfl⟩; rw [trim_text, HP.out])
    go_ret
    refine ⟨ret_text ?_, b3⟩
    rw [HE.out, tl_append, tl_append, tl_append, HX.out, tl_mk]
    simp [tl]
  case neg.true =>
    go_enter Tryd.func12, Tryd.ntmps12
    go_wp2_with fail
    refine (H1.out _).mono ?_
    rintro e w1 ⟨rfl, rfl⟩
    dsimp only
    go_wp2_with fail
    refine (HO.out _).mono ?_
    rintro e w1 ⟨rfl, rfl⟩
    dsimp only
    go_wp2_with fail
    refine (HCA.out w.heap.size _ (HT.out.on (below5 _ _ _ _ _ _))).mono ?_
    rintro e w2 ⟨x, rfl, hx, hxs, hb2⟩
    have x2 := (((((BoxT.new w ((A' : Int), (N' : Int))).alloc (.cells #[.int .i64 S, .int .i64 n] 25)).alloc (.cells #[.int .i64 p1, .int .i64 p2] 25)).alloc (.cells #[.int .i64 p1, .int .i64 p2] 25)).alloc (.cells #[.int .i64 (A' : Int), .int .i64 (N' : Int)] 25)).below hb2 (by simp; omega)
    have b2 : Below w.heap.size w w2 := (below5 _ _ _ _ _ _).trans (hb2.mono (by simp; omega))
    have hxz : x.size ≤ 15 := by rw [hxs]; exact hd1
    have HX := Lib.hid hx
    have c1 := x2.cell1
    dsimp only at c1
    clear hb2 x2 hx hxs H1 HCA HO
    go_wp2_with fail
    refine (HCN.out w.heap.size _ (HT.out.on b2)).mono ?_
    rintro e w3 ⟨y, rfl, hy, hys, hb3⟩
    have b3 := b2.trans (hb3.mono b2.size)
    have hp := pad_text hy hys hd2
    have hyz : y.size ≤ 9 := by rw [hys]; exact hd2
    have hyz2 : (y.size : Int) ≤ 9 := by omega
    have HP := Lib.hid hp
    have htl := M.trim_len (n := N') (by omega)
    clear hp hy hys hb3 c1
    go_wp2_with (go_at_call 26; refine (Tryd.strings_TrimRight_one _ 48 (by decide) _ (by simp [ByteArray.size_append]; omega)).mono ?_; rintro e w4 ⟨rfl, rfl⟩; rw [trim_text, HP.out])
    go_ret
    refine ⟨ret_text ?_, b3⟩
    rw [HE.out, tl_append, tl_append, tl_append, HX.out, tl_mk]
    simp [tl]
end Go.Proofs.YtahhgphlfodonaaDoor
