/-
  Print: the program's answer and the document's.
-/
import Derived.Test.YtefkgkdocglgaaaDoorPaxLists
import Derived.Test.YtefkgkdocglgaaaDoorPaxApp
namespace Go.Proofs.YtefkgkdocglgaaaDoor
open Go.RowKit Go.Shelf

namespace M
/-- Why some records are not printed; 0: they are. -/
def printE (l : List Rc) : Nat := if l.all right = false then 34 else if 1000 < l.length ∨ 1048576 < (lines l).length then 3 else 0
def printB (l : List Rc) : List UInt8 := if printE l = 0 then lines l else []
theorem printE_34 {l : List Rc} (h : l.all right = false) : printE l = 34 := by unfold printE; rw [if_pos h]
theorem printE_3 {l : List Rc} (h : l.all right = true) (h2 : 1000 < l.length ∨ 1048576 < (lines l).length) : printE l = 3 := by unfold printE; rw [if_neg (by rw [h]; decide), if_pos h2]
theorem printE_0 {l : List Rc} (h : l.all right = true) (h2 : ¬ (1000 < l.length ∨ 1048576 < (lines l).length)) : printE l = 0 := by unfold printE; rw [if_neg (by rw [h]; decide), if_neg h2]
theorem printB_no {l : List Rc} (h : printE l ≠ 0) : printB l = [] := by unfold printB; rw [if_neg h]
theorem printB_0 {l : List Rc} (h : printE l = 0) : printB l = lines l := by unfold printB; rw [if_pos h]
theorem lines_nil : lines [] = [] := rfl
theorem lines_one (r : Rc) : lines [r] = line r := by simp [lines]
end M

theorem take_rcs_succ {l : List R2} {k : Nat} (hk : k < l.length) : rcs (l.take (k + 1)) = rcs (l.take k) ++ [rc l[k]] := by
  rw [List.take_succ_eq_append_getElem hk, rcs_app]; rfl
theorem lines_take_succ {l : List R2} {k : Nat} (hk : k < l.length) : M.lines (rcs (l.take (k + 1))) = M.lines (rcs (l.take k)) ++ M.line (rc l[k]) := by
  rw [take_rcs_succ hk, M.lines_app, M.lines_one]
theorem lines_take_le {l : List R2} {k : Nat} : (M.lines (rcs (l.take k))).length ≤ (M.lines (rcs l)).length := by
  conv => rhs; rw [← List.take_append_drop k l, rcs_app, M.lines_app, List.length_append]
  omega

/-- What a Print answers: the bytes in a row of its own, and why. -/
def PrintIs (k : IntKind) (l : List R2) (w : World) (e : Ending) (w' : World) : Prop :=
  ∃ v, e = .returned (.tuple #[v, .int k (M.printE (rcs l))]) ∧ OwnB w' w.heap.size v (M.printB (rcs l)) ∧ Below w.heap.size w w'
theorem PrintIs.no {k : IntKind} {l : List R2} {w w' : World} {n : Nat} (h : M.printE (rcs l) = n) (hn : n ≠ 0) (hb : Below w.heap.size w w') : PrintIs k l w (.returned (.tuple #[.slice none 0 0, .int k n])) w' := by
  refine ⟨_, by rw [h], ?_, hb⟩
  rw [M.printB_no (by rw [h]; exact hn)]
  exact OwnB.nil _ _

theorem nDigits_le9 {n : Nat} (h : n < 10 ^ 9) : Lib.nDigits n ≤ 9 := by
  rcases Nat.lt_or_ge n 10 with h1 | h1
  · rw [Lib.nDigits_small h1]; omega
  rcases Nat.lt_or_ge n (10 ^ 2) with h2 | h2
  · rw [Lib.nDigits_unique 1 n (by omega) (by omega)]; omega
  rcases Nat.lt_or_ge n (10 ^ 3) with h3 | h3
  · rw [Lib.nDigits_unique 2 n (by omega) (by omega)]; omega
  rcases Nat.lt_or_ge n (10 ^ 4) with h4 | h4
  · rw [Lib.nDigits_unique 3 n (by omega) (by omega)]; omega
  rcases Nat.lt_or_ge n (10 ^ 5) with h5 | h5
  · rw [Lib.nDigits_unique 4 n (by omega) (by omega)]; omega
  rcases Nat.lt_or_ge n (10 ^ 6) with h6 | h6
  · rw [Lib.nDigits_unique 5 n (by omega) (by omega)]; omega
  rcases Nat.lt_or_ge n (10 ^ 7) with h7 | h7
  · rw [Lib.nDigits_unique 6 n (by omega) (by omega)]; omega
  rcases Nat.lt_or_ge n (10 ^ 8) with h8 | h8
  · rw [Lib.nDigits_unique 7 n (by omega) (by omega)]; omega
  · rw [Lib.nDigits_unique 8 n (by omega) (by omega)]; omega

/-- How long records may be. -/
def Short (l : List R2) : Prop := ∀ r ∈ l, r.1.size + r.2.size ≤ 10000000

theorem byteCells_fold (l : List UInt8) : (Lib.byteCells l).length = l.length := by simp [Lib.byteCells]

set_option maxRecDepth 100000 in
set_option maxHeartbeats 4000000 in
theorem print_any (A : Option Addr) (c : Nat) (l : List R2) (hl : l.length ≤ 1000000) (hsh : Short l) (B : Nat) (w : World) (hB : B ≤ w.heap.size) (ht : TB B w) (h : RdR w w.heap.size A l) :
    Calls Tryd.prog 12 #[.slice A l.length c] w (PrintIs .u16 l w) := by
  have ht' : TB w.heap.size w := fun w' hb => ht w' (hb.mono hB)
  have HT := Lib.hid ht'
  have HSH := Lib.hid hsh
  have HC := Lib.hid (contains_any A c l hl w h)
  have HR := Lib.hid h
  clear ht ht' hsh h
  cases ha : allRight l with
  | false =>
    have HE := Lib.hid (M.printE_34 ha)
    rw [ha] at HC
    clear ha
    go_enter Tryd.func12, Tryd.ntmps12
    go_wp2_with (go_at_call 23; refine HC.out.mono ?_; rintro e w1 ⟨rfl, hb1⟩)
    go_ret2
    exact PrintIs.no HE.out (by decide) hb1
  | true =>
    rw [ha] at HC
    have HA := Lib.hid ha
    clear ha
    by_cases hm : 1000 < l.length
    · have HE := Lib.hid (M.printE_3 HA.out (.inl (by rw [rcs_len]; exact hm)))
      go_enter Tryd.func12, Tryd.ntmps12
      go_wp2_with (go_at_call 23; refine HC.out.mono ?_; rintro e w1 ⟨rfl, hb1⟩)
      go_ret2
      exact PrintIs.no HE.out (by decide) hb1
    · have hm' : l.length ≤ 1000 := by omega
      clear hm
      go_enter Tryd.func12, Tryd.ntmps12
      go_wp2_with (go_at_call 23; refine HC.out.mono ?_; rintro e w1 ⟨rfl, hb1⟩)
      go_loopw [15, 4, 6, 7] (fun i v _ _ wr => ∃ k : Nat, i = .int .i64 k ∧ k ≤ l.length ∧ OwnB wr w.heap.size v (M.lines (rcs (l.take k))) ∧ (M.lines (rcs (l.take k))).length ≤ 1048576 ∧ Below w.heap.size w wr) (fun i _ _ _ _ => l.length - (intOf i).toNat)
      case atStart => exact ⟨0, rfl, Nat.zero_le _, OwnB.nil _ _, by simp [rcs, M.lines], hb1⟩
      case round =>
        obtain ⟨k, rfl, hk, hown, hlen, hb⟩ := hrel
        have hbs := hb.size
        by_cases hlt : k < l.length
        · obtain ⟨b, off, rfl, hbb, hc1, hc2⟩ := (HR.out.below hb).at_ hlt
          have hrs := HSH.out _ (List.getElem_mem hlt)
          have hnx := lines_take_succ hlt
          have hle := lines_take_le (l := l) (k := k + 1)
          rw [hnx, List.length_append] at hle
          obtain ⟨r, hr⟩ : ∃ r, l[k] = r := ⟨_, rfl⟩
          rw [hr] at hc1 hc2 hrs hnx hle
          obtain ⟨P, hP⟩ : ∃ P, M.lines (rcs (l.take k)) = P := ⟨_, rfl⟩
          rw [hP] at hown hlen hnx hle
          have hll : (M.line (rc r)).length = M.lineLen (rc r) := M.line_length (by rw [M.body_length]; show r.1.size + r.2.size + 3 + 8 < _; omega)
          rw [hll] at hle
          obtain ⟨LL, hLL⟩ : ∃ LL, M.lineLen (rc r) = LL := ⟨_, rfl⟩
          have hLb : LL ≤ 10000100 := by
            rw [← hLL]; unfold M.lineLen; rw [M.body_length]
            have := M.wid_pos (M.body (rc r)).length
            rw [M.body_length] at this
            show r.1.size + r.2.size + 3 + M.wid (r.1.size + r.2.size + 3) ≤ _
            have e : (rc r).1.length + (rc r).2.length + 3 = r.1.size + r.2.size + 3 := rfl
            rw [e] at this
            omega
          have hline : M.line (rc r) = Lib.decDigits LL ++ M.body (rc r) := by rw [M.line_eq, hLL]
          rw [hLL] at hle hll
          have HLN := Lib.hid hll
          have hwd : ∀ W, w.heap.size ≤ W.heap.size → TB w.heap.size W → Calls Tryd.prog 26 #[.agg #[.string r.1, .string r.2]] W fun e w' => e = .returned (.int .i64 LL) ∧ Below W.heap.size W w' := by
            intro W h1 h2
            have := width_any r hrs w.heap.size W h1 h2
            rwa [hLL] at this
          have HW := Lib.hid hwd
          have HN := Lib.hid hnx
          have HL := Lib.hid hline
          have HP := Lib.hid hP
          have HO := Lib.hid hown
          have HLE := Lib.hid hle
          clear hwd hnx hline hP hown hr hLL hll hle
          obtain ⟨s, t⟩ := r
          dsimp only at hc1 hc2 hrs HW
          have hb2 := hb.alloc (by omega) (.cells #[.string s, .string t] 45)
          have hbx := BoxR.new wr s t
          have hw1 := HW.out (wr.alloc (.cells #[.string s, .string t] 45)) hb2.size (HT.out.on hb2)
          rcases Nat.lt_or_ge 1048576 (P.length + LL) with hbig | hfit
          · have HE := Lib.hid (M.printE_3 (l := rcs l) HA.out (.inr (by have := HLE.out; omega)))
            have HW1 := Lib.hid hw1
            have HL1 := Lib.hid (hlen)
            obtain ⟨A', c', rfl, _⟩ := HO.out.rd
            clear hw1
            by_cases hk0 : k = 0
            · subst hk0
              simp only [Nat.zero_mul, Nat.add_zero] at hc1 hc2
              go_wp2_with (go_at_call 26; refine HW1.out.mono ?_; rintro e w2 ⟨rfl, hb3⟩)
              go_ret2
              exact PrintIs.no HE.out (by decide) (hb2.trans (hb3.mono hb2.size))
            · have hk1 : 0 < k := by omega
              clear hk0
              go_wp2_with (go_at_call 26; refine HW1.out.mono ?_; rintro e w2 ⟨rfl, hb3⟩)
              go_ret2
              exact PrintIs.no HE.out (by decide) (hb2.trans (hb3.mono hb2.size))
          · have HW1 := Lib.hid hw1
            obtain ⟨A', c', rfl, _⟩ := HO.out.rd
            have hD : (Lib.decDigits LL).length ≤ 100 := by
              rw [Lib.decDigits_length]
              have h9 : LL < 10 ^ 8 := by omega
              rcases Nat.lt_or_ge 100 (Lib.nDigits LL) with hc | hc
              · exact absurd (nDigits_le9 (n := LL) (by omega)) (by omega)
              · exact hc
            obtain ⟨D, hDD⟩ : ∃ D, Lib.decDigits LL = D := ⟨_, rfl⟩
            rw [hDD] at HL hD
            have HD := Lib.hid hDD
            clear hw1 hDD
            have hbxs : wr.heap.size < (wr.alloc (.cells #[.string s, .string t] 45)).heap.size := by simp
            by_cases hk0 : k = 0
            case' pos =>
              subst hk0
              simp only [Nat.zero_mul, Nat.add_zero] at hc1 hc2
            case' neg =>
              have hk1 : 0 < k := by omega
              clear hk0
            all_goals
              go_wp2_with (go_at_call 26; refine HW1.out.mono ?_; rintro e w2 ⟨rfl, hb3⟩; refine Hid.out ?_)
              refine Lib.hid ?_
              have b2 := hb2.trans (hb3.mono hb2.size)
              have bx2 := hbx.below hb3 hbxs
              have o2 : OwnB w2 w.heap.size (.slice A' P.length c') P := (HO.out.alloc _).below hb3
              clear hbx hb3 hb2 hc1 hc2
              go_wp2_with (go_at_call 27; refine (Tryd.strconv_AppendInt_10 w.heap.size P.length LL (by omega) (by omega) _ _ w2 o2 b2.size (by omega) (HT.out.on b2)).mono ?_; rintro e w3 ⟨v3, rfl, ho3, hb3, hk3⟩; refine Hid.out ?_)
              refine Lib.hid ?_
              obtain ⟨P3, hP3⟩ : ∃ P3, P3 = P ++ D := ⟨_, rfl⟩
              have hn3 : P3.length ≤ P.length + 100 := by rw [hP3, List.length_append]; omega
              have bx3 := bx2.kept hk3
              have b3 := b2.trans hb3
              have o3 : OwnB w3 w.heap.size v3 P3 := by
                rw [Lib.itoa_nonneg, HD.out] at ho3
                rw [hP3]
                unfold OwnB
                rw [List.length_append]
                have e : Lib.byteCells (P ++ D) = Lib.byteCells P ++ Lib.byteCells D := by simp [Lib.byteCells]
                rw [e]
                exact ho3
              have HP3 := Lib.hid hP3
              clear bx2 hk3 hb3 ho3 b2 o2 hP3
              go_wp2_with (at_builtin; refine wpList_app1 rfl (.tmp 29) (.tmp 30) rfl w.heap.size v3 P3 32 rfl rfl o3 b3.size rfl (by omega) ?_)
              intro v4 w4 P4 HP4 hn4 o4 hb4 hx4
              have bx4 := hx4 _ _ _ bx3
              have b4 := b3.trans hb4
              have c40 := bx4.cell0
              clear o3 bx3 hb4 hx4 b3
              go_wp2_with (at_builtin; refine wpList_appS rfl (.tmp 32) (.tmp 34) rfl w.heap.size v4 P4 s rfl o4 b4.size rfl (by omega) (by omega) ?_)
              intro v5 w5 P5 HP5 hn5 o5 hb5 hx5
              have bx5 := hx5 _ _ _ bx4
              have b5 := b4.trans hb5
              clear o4 bx4 hb5 hx5 b4 c40
              go_wp2_with (at_builtin; refine wpList_app1 rfl (.tmp 36) (.tmp 37) rfl w.heap.size v5 P5 61 rfl rfl o5 b5.size rfl (by omega) ?_)
              intro v6 w6 P6 HP6 hn6 o6 hb6 hx6
              have bx6 := hx6 _ _ _ bx5
              have b6 := b5.trans hb6
              have c61 := bx6.cell1
              clear o5 bx5 hb6 hx6 b5
              go_wp2_with (at_builtin; refine wpList_appS rfl (.tmp 39) (.tmp 41) rfl w.heap.size v6 P6 t rfl o6 b6.size rfl (by omega) (by omega) ?_)
              intro v7 w7 P7 HP7 hn7 o7 hb7 hx7
              have b7 := b6.trans hb7
              clear o6 bx6 hb7 hx7 b6 c61
              go_wp2_with (at_builtin; refine wpList_app1 rfl (.tmp 43) (.tmp 44) rfl w.heap.size v7 P7 10 rfl rfl o7 b7.size rfl (by omega) ?_)
              intro v8 w8 P8 HP8 hn8 o8 hb8 hx8
              have b8 := b7.trans hb8
              clear o7 hb8 hx8 b7
              go_wp2
              go_roundw
              case rel =>
                refine ⟨_, (show Value.int .i64 _ = Value.int .i64 ((_ + 1 : Nat) : Int) by go_num), by omega, ?_, ?_, b8⟩
                · rw [HN.out, HL.out]
                  have e : P ++ (D ++ M.body (rc (s, t))) = P ++ D ++ [32] ++ tl s ++ [61] ++ tl t ++ [10] := by
                    show P ++ (D ++ 32 :: (tl s ++ 61 :: (tl t ++ [10]))) = _
                    simp
                  rw [e, ← HP3.out, ← HP4.out, ← HP5.out, ← HP6.out, ← HP7.out, ← HP8.out]
                  exact o8
                · rw [HN.out, List.length_append]
                  have := HLN.out
                  omega
              case measure => simp [intOf]; omega
        · obtain rfl : k = l.length := by omega
          rw [List.take_length] at hown hlen
          have HE := Lib.hid (M.printE_0 (l := rcs l) HA.out (by rw [rcs_len]; omega))
          have HO := Lib.hid hown
          clear hown hlt hlen
          go_wp2
          go_ret2
          refine ⟨_, by rw [HE.out]; rfl, ?_, hb⟩
          rw [M.printB_0 HE.out]; exact HO.out
end Go.Proofs.YtefkgkdocglgaaaDoor
