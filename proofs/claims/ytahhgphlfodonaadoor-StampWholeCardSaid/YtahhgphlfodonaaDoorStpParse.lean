/-
  The program's reading of a time.
-/
import Derived.Test.YtahhgphlfodonaaDoorStpCut
namespace Go.Proofs.YtahhgphlfodonaaDoor
open Go.RowKit Go.Shelf

theorem number_15 (s : ByteArray) (w : World) : Calls Tryd.prog 22 #[.string s, .int .i64 15] w (NumIs (M.number (tl s) 15) w) := number_any s 15 (by decide) w
theorem number_18 (s : ByteArray) (w : World) : Calls Tryd.prog 22 #[.string s, .int .i64 18] w (NumIs (M.number (tl s) 18) w) := number_any s 18 (by decide) w
theorem number_9 (s : ByteArray) (w : World) : Calls Tryd.prog 22 #[.string s, .int .i64 9] w (NumIs (M.number (tl s) 9) w) := number_any s 9 (by decide) w

theorem front9 (s : ByteArray) : tl ((s ++ (⟨#[48, 48, 48, 48, 48, 48, 48, 48, 48]⟩ : ByteArray)).extract 0 9) = (tl s ++ M.nine).take 9 := by
  show ((s ++ (⟨#[48, 48, 48, 48, 48, 48, 48, 48, 48]⟩ : ByteArray)).extract 0 9).data.toList = _
  have e : ((s ++ (⟨#[48, 48, 48, 48, 48, 48, 48, 48, 48]⟩ : ByteArray)).extract 0 9).data.toList = (tl (s ++ (⟨#[48, 48, 48, 48, 48, 48, 48, 48, 48]⟩ : ByteArray))).take 9 := by
    simp [ByteArray.data_extract, tl, List.take_append]
  rw [e, tl_append]
  rfl

set_option maxRecDepth 100000 in
set_option maxHeartbeats 1000000 in
theorem billionths_any (s : ByteArray) (hs : s.size ≤ 1000000) (w : World) : Calls Tryd.prog 23 #[.string s] w (NumIs (M.billionths (tl s)) w) := by
  have he := M.billionths_eq (tl s)
  have C1 := number_18 s w
  rcases hn : M.number (tl s) 18 with _ | n
  · rw [if_pos hn] at he
    rw [hn] at C1
    have HE := Lib.hid he
    have HC := Lib.hid C1
    clear he C1 hn
    unfold NumIs numV at HC
    go_enter Tryd.func23, Tryd.ntmps23
    go_wp2_with (go_at_call 22; refine HC.out.mono ?_; rintro e w1 ⟨rfl, hb⟩; dsimp only)
    go_ret2
    exact ⟨ret_num HE.out.symm, hb⟩
  · rw [if_neg (by rw [hn]; simp)] at he
    rw [hn] at C1
    have hC2 := fun W => number_9 ((s ++ (⟨#[48, 48, 48, 48, 48, 48, 48, 48, 48]⟩ : ByteArray)).extract 0 9) W
    rw [front9] at hC2
    rcases ho : M.number ((tl s ++ M.nine).take 9) 9 with _ | k
    all_goals
      rw [ho] at hC2 he
      have HE := Lib.hid he
      have HC := Lib.hid C1
      have HD := Lib.hid hC2
      clear he C1 hn hC2 ho
      unfold NumIs numV at HC HD
      go_enter Tryd.func23, Tryd.ntmps23
      go_wp2_with (first
        | (go_at_call 22; (with_reducible refine HC.out.mono ?_); rintro e w1 ⟨rfl, hb⟩; dsimp only)
        | (go_at_call 22; (with_reducible refine (HD.out _).mono ?_); rintro e w2 ⟨rfl, hb2⟩; dsimp only))
      go_ret2
      exact ⟨ret_num HE.out.symm, hb.trans (hb2.mono hb.size)⟩

/-- A time and a yes, or nothing and a no. -/
def parseV : Option M.Tm → Value
  | none => .tuple #[tv (0, 0), .bool false]
  | some t => .tuple #[tv t, .bool true]
def ParseIs (o : Option M.Tm) (w : World) (e : Ending) (w' : World) : Prop := e = .returned (parseV o) ∧ Below w.heap.size w w'
theorem ret_parse {a b : Option M.Tm} (h : a = b) : Ending.returned (parseV a) = .returned (parseV b) := by rw [h]

theorem results_tb {f : Func} {k j : Nat} (hf : f.results = #[ResultVar.cell k 25, ResultVar.tmp j]) {tmps : Array Value} {g : Nat} {t : M.Tm} {v : Value} {w : World} (hk : tmps.getD k undef = .pointer (some ⟨g, 0, none⟩)) (hj : tmps.getD j undef = v) (hb : BoxT w g t) :
    (results f tmps).run Tryd.prog w = .ok (.tuple #[tv t, v]) w := by
  simp only [results, hf]
  rw [Array.getD_eq_getD_getElem?] at hk hj
  have c0 := hb.cell0
  have c1 := hb.cell1
  simp [go_sem, hk, hj, c0, c1, tv]

/-- What is read behind the point, or nine noughts. -/
def fracOf (p : Bool) (x : List UInt8) : List UInt8 := if p = true then M.aftPt x else M.nine
theorem frac_eq (x : List UInt8) : M.frac x = M.billionths (fracOf (decide ((M.ptOf x).length < x.length)) x) := by
  unfold M.frac fracOf
  by_cases h : (M.ptOf x).length < x.length
  · rw [if_pos h, decide_eq_true h, if_pos rfl]
  · rw [if_neg h, decide_eq_false h, if_neg (by decide)]
    decide +kernel
theorem parse_eq (l : List UInt8) : M.parse l = match M.number (M.ptOf (M.noSign l)) 15 with
    | none => none
    | some a => match M.billionths (fracOf (decide ((M.ptOf (M.noSign l)).length < (M.noSign l).length)) (M.noSign l)) with
      | none => none
      | some b => some (M.sgn (M.minus l) (a, b)) := by
  unfold M.parse
  rw [frac_eq]
  rfl
theorem noSign_le (l : List UInt8) : (M.noSign l).length ≤ l.length := by
  unfold M.noSign
  split
  · rw [List.length_tail]; omega
  · exact Nat.le_refl _
theorem aftPt_le (l : List UInt8) : (M.aftPt l).length ≤ l.length := by unfold M.aftPt; rw [List.length_drop]; omega

set_option maxRecDepth 100000 in
set_option maxHeartbeats 4000000 in
theorem parse_any (s : ByteArray) (hs : s.size ≤ 1000000) (w : World) : Calls Tryd.prog 10 #[.string s] w (ParseIs (M.parse (tl s)) w) := by
  have he := parse_eq (tl s)
  have C1 := fun W => cutSign_any s W
  have hlx := noSign_le (tl s)
  rw [tl_len] at hlx
  generalize M.noSign (tl s) = x at *
  generalize M.minus (tl s) = sg at *
  have C2 := fun W => cut_any ⟨x.toArray⟩ (show x.length ≤ 1000000 by omega) W
  unfold cutVal at C2
  rw [tl_mk] at C2
  have C3 := fun W => number_15 ⟨(M.ptOf x).toArray⟩ W
  have hla := aftPt_le x
  have hlf : ∀ p, (fracOf p x).length ≤ 1000000 := fun p => by
    unfold fracOf; split
    · omega
    · decide
  have C4 := fun p W => billionths_any ⟨(fracOf p x).toArray⟩ (show (fracOf p x).length ≤ 1000000 from hlf p) W
  simp only [tl_mk] at C3 C4
  have hf0 : (⟨(fracOf false x).toArray⟩ : ByteArray) = ⟨#[48, 48, 48, 48, 48, 48, 48, 48, 48]⟩ := rfl
  have hf1 : (⟨(fracOf true x).toArray⟩ : ByteArray) = ⟨(M.aftPt x).toArray⟩ := rfl
  generalize decide ((M.ptOf x).length < x.length) = p at *
  have C5 := C4 p
  clear C4 hla hlf
  have hbx0 := BoxT.new w (0, 0)
  have hb0 : Below w.heap.size w (w.alloc (.cells #[.int .i64 0, .int .i64 0] 25)) := (Below.refl _ w).alloc (Nat.le_refl _) _
  rcases ho1 : M.number (M.ptOf x) 15 with _ | a
  · rw [ho1] at he C3
    dsimp only at he
    have HE := Lib.hid he
    have H1 := Lib.hid C1
    have H2 := Lib.hid C2
    have H3 := Lib.hid C3
    have HX := Lib.hid hbx0
    clear he C1 C2 C3 C5 ho1 hf0 hf1 hlx hbx0
    unfold NumIs numV at H3
    cases p
    all_goals
      go_enter Tryd.func10, Tryd.ntmps10
      go_wp2_with fail
      refine (H1.out _).mono ?_
      rintro e w0 ⟨rfl, rfl⟩
      go_wp2_with fail
      refine (H2.out _).mono ?_
      rintro e w1 ⟨rfl, hb1⟩
      go_wp2_with fail
      refine (H3.out _).mono ?_
      rintro e w2 ⟨rfl, hb2⟩
      have b1 := hb0.trans (hb1.mono hb0.size)
      have b2 := b1.trans (hb2.mono b1.size)
      have x2 := (HX.out.below hb1 HX.out.lt).below hb2 (HX.out.below hb1 HX.out.lt).lt
      have c0 := x2.cell0
      have c1 := x2.cell1
      have f0 := x2.frozen 0
      have f1 := x2.frozen 1
      dsimp only at c0 c1
      clear hb1 hb2 b1
      go_wp2
      refine bodyPost_ret (results_tb rfl rfl rfl (x2.set (0, 0))) rfl ⟨?_, below_set2 b2 (Nat.le_refl _) _ _⟩
      rw [HE.out]
      rfl
  have hA : a < 1000000000000000 := M.number_lt ho1
  rcases ho2 : M.billionths (fracOf p x) with _ | b
  · rw [ho1, ho2] at he
    rw [ho1] at C3
    rw [ho2] at C5
    dsimp only at he
    have HE := Lib.hid he
    have H1 := Lib.hid C1
    have H2 := Lib.hid C2
    have H3 := Lib.hid C3
    have HX := Lib.hid hbx0
    unfold NumIs numV at H3 C5
    cases p
    case' false =>
      rw [hf0] at C5
    case' true =>
      rw [hf1] at C5
    all_goals
      have H4 := Lib.hid C5
      clear he C1 C2 C3 C5 ho1 ho2 hf0 hf1 hlx hbx0 hA
      go_enter Tryd.func10, Tryd.ntmps10
      go_wp2_with fail
      refine (H1.out _).mono ?_
      rintro e w0 ⟨rfl, rfl⟩
      go_wp2_with fail
      refine (H2.out _).mono ?_
      rintro e w1 ⟨rfl, hb1⟩
      go_wp2_with fail
      refine (H3.out _).mono ?_
      rintro e w2 ⟨rfl, hb2⟩
      go_wp2_with fail
      refine (H4.out _).mono ?_
      rintro e w3 ⟨rfl, hb3⟩
      have b1 := hb0.trans (hb1.mono hb0.size)
      have b2 := b1.trans (hb2.mono b1.size)
      have b3 := b2.trans (hb3.mono b2.size)
      have x1 := HX.out.below hb1 HX.out.lt
      have x2 := x1.below hb2 x1.lt
      have x3 := x2.below hb3 x2.lt
      have c0 := x3.cell0
      have c1 := x3.cell1
      have f0 := x3.frozen 0
      have f1 := x3.frozen 1
      dsimp only at c0 c1
      clear hb1 hb2 b1 b2 x1 x2 hb3
      go_wp2
      refine bodyPost_ret (results_tb rfl rfl rfl (x3.set (0, 0))) rfl ⟨?_, below_set2 b3 (Nat.le_refl _) _ _⟩
      rw [HE.out]
      rfl
  have hB : b < 1000000000 := M.billionths_lt ho2
  rw [ho1, ho2] at he
  rw [ho1] at C3
  rw [ho2] at C5
  dsimp only at he
  have CO := fun W => opp_any (a : Int) (b : Int) ⟨by show (-999999999999999 : Int) ≤ (a : Int); omega, by show (a : Int) ≤ 999999999999999; omega, by show (0 : Int) ≤ (b : Int); omega, by show (b : Int) ≤ 999999999; omega⟩ W
  have HE := Lib.hid he
  have H1 := Lib.hid C1
  have H2 := Lib.hid C2
  have H3 := Lib.hid C3
  have HX := Lib.hid hbx0
  rcases hO : M.opp ((a : Int), (b : Int)) with ⟨oS, oN⟩
  rw [hO] at CO
  unfold TimeIs tv at CO
  dsimp only at CO
  have HOO := Lib.hid hO
  have HO := Lib.hid CO
  clear hO
  unfold NumIs numV at H3 C5
  cases p
  case' false =>
    rw [hf0] at C5
  case' true =>
    rw [hf1] at C5
  all_goals
    have H4 := Lib.hid C5
    clear he C1 C2 C3 C5 ho1 ho2 hf0 hf1 hlx hbx0 hA hB CO
    go_enter Tryd.func10, Tryd.ntmps10
    go_wp2_with fail
    refine (H1.out _).mono ?_
    rintro e w0 ⟨rfl, rfl⟩
    go_wp2_with fail
    refine (H2.out _).mono ?_
    rintro e w1 ⟨rfl, hb1⟩
    go_wp2_with fail
    refine (H3.out _).mono ?_
    rintro e w2 ⟨rfl, hb2⟩
    go_wp2_with fail
    refine (H4.out _).mono ?_
    rintro e w3 ⟨rfl, hb3⟩
    have b1 := hb0.trans (hb1.mono hb0.size)
    have b2 := b1.trans (hb2.mono b1.size)
    have b3 := b2.trans (hb3.mono b2.size)
    have x1 := HX.out.below hb1 HX.out.lt
    have x2 := x1.below hb2 x1.lt
    have x3 := x2.below hb3 x2.lt
    have y3 := x3.alloc (.cells #[.int .i64 (a : Int), .int .i64 (b : Int)] 25)
    have z3 := BoxT.new w3 ((a : Int), (b : Int))
    dsimp only at z3
    clear hb1 hb2 b1 b2 x1 x2 hb3
    cases sg
    case false =>
      have c0 := y3.cell0
      have c1 := y3.cell1
      have f0 := y3.frozen 0
      have f1 := y3.frozen 1
      dsimp only at c0 c1
      clear HO
      go_wp2
      refine bodyPost_ret (results_tb rfl rfl rfl (y3.set ((a : Int), (b : Int)))) rfl ⟨?_, below_set2 (b3.alloc b3.size _) (Nat.le_refl _) _ _⟩
      rw [HE.out]
      rfl
    case true =>
      go_wp2_with fail
      refine (HO.out _).mono ?_
      rintro e w4 ⟨rfl, hb4⟩
      have b4 := (b3.alloc b3.size (.cells #[.int .i64 (a : Int), .int .i64 (b : Int)] 25)).trans (hb4.mono (by have := b3.size; simp; omega))
      have x4 := y3.below hb4 y3.lt
      have z4 := z3.below hb4 z3.lt
      have hne : w3.heap.size ≠ w.heap.size := by have := x3.lt; omega
      have c0 := x4.cell0
      have c1 := x4.cell1
      have f0 := x4.frozen 0
      have f1 := x4.frozen 1
      have d0 := z4.cell0
      have d1 := z4.cell1
      have g0 := z4.frozen 0
      have g1 := z4.frozen 1
      dsimp only at c0 c1 d0 d1
      have zs := z4.set (oS, oN)
      have xs := (x4.other (i := 0) hne (.int .i64 oS)).other (i := 1) hne (.int .i64 oN)
      have bs := below_set2 b4 (by have := b3.size; omega) (.int .i64 oS) (.int .i64 oN) (g := w3.heap.size)
      dsimp only at zs xs
      have e0 := zs.cell0
      have e1 := zs.cell1
      have k0 := xs.cell0
      have k1 := xs.cell1
      have l0 := xs.frozen 0
      have l1 := xs.frozen 1
      dsimp only at e0 e1 k0 k1
      clear HO hb4 y3 z3 x3 z4 b3
      go_wp2
      refine bodyPost_ret (results_tb rfl rfl rfl (xs.set (oS, oN))) rfl ⟨?_, below_set2 bs (Nat.le_refl _) _ _⟩
      rw [HE.out]
      unfold M.sgn
      rw [if_pos rfl, HOO.out]
      rfl
end Go.Proofs.YtahhgphlfodonaaDoor
