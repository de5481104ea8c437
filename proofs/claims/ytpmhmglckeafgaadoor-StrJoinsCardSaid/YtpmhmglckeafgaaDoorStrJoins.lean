/-
  The walk of StrJoins.
-/
import Derived.Test.YtpmhmglckeafgaaDoorStrCuts
import Derived.Deep.QuietTactic
import Derived.BigQuiet
import Derived.LoopTactic
import Derived.IntWalk
namespace Go.Proofs.YtpmhmglckeafgaaDoor
open Go.RowKit Go.Shelf

theorem tl_lit (a : Array UInt8) : tl ⟨a⟩ = a.toList := rfl
theorem names_two (p q : ByteArray) : M.names (tl (p ++ ⟨#[47]⟩ ++ q)) = M.names (tl p) ++ M.names (tl q) := by
  have e : tl (p ++ ⟨#[47]⟩ ++ q) = tl p ++ 47 :: tl q := by rw [tl_append, tl_append, List.append_assoc]; rfl
  rw [e, M.names_app]
theorem names_nil : M.names [] = [] := rfl
theorem names_dot : M.names [46] = [] := rfl
theorem names_many (p q : ByteArray) : M.names (tl (⟨#[47, 47]⟩ ++ p ++ ⟨#[47, 46, 47]⟩ ++ q ++ ⟨#[47]⟩)) = M.names (tl p) ++ M.names (tl q) := by
  have e : tl (⟨#[47, 47]⟩ ++ p ++ ⟨#[47, 46, 47]⟩ ++ q ++ ⟨#[47]⟩) = [] ++ 47 :: ([] ++ 47 :: (tl p ++ 47 :: ([46] ++ 47 :: (tl q ++ 47 :: [])))) := by
    simp only [tl_append, tl_lit]
    simp
  rw [e, M.names_app, M.names_app, M.names_app, M.names_app, M.names_app, names_nil, names_dot]
  simp

theorem tl_inj {a b : ByteArray} (h : tl a = tl b) : a = b := WideShapes.bytes_inj h
theorem map_tl_inj : ∀ {xs ys : List ByteArray}, xs.map tl = ys.map tl → xs = ys
  | [], [], _ => rfl
  | [], _ :: _, h => by simp at h
  | _ :: _, [], h => by simp at h
  | x :: xs, y :: ys, h => by
    simp only [List.map_cons, List.cons.injEq] at h
    rw [tl_inj h.1, map_tl_inj h.2]

/-- Where a row's texts lie. -/
def RowS (w : World) (A : Option Addr) (xs : List ByteArray) : Prop := 0 < xs.length → ∃ b o, A = some ⟨b, o, none⟩ ∧ ∀ k x, xs[k]? = some x → w.cell? ⟨b, o + k, none⟩ = some (.string x)

set_option maxRecDepth 100000 in
set_option maxHeartbeats 1000000 in
theorem strJoins_any (A : Option Addr) (n c : Nat) (zs : List Int) (A' : Option Addr) (n' c' : Nat) (zs' : List Int) (w : World) (h : BytesIn w A n c zs) (h' : BytesIn w A' n' c' zs') :
    Calls Tryd.prog 3 #[.slice A n c, .slice A' n' c'] w fun e w' => e = .returned (.bool true) ∧ Below w.heap.size w w' := by
  obtain ⟨hrd, hnc, _⟩ := h
  obtain ⟨hrd', hnc', _⟩ := h'
  have HR := Lib.hid hrd; clear hrd
  have HR' := Lib.hid hrd'; clear hrd'
  go_enter Tryd.func3, Tryd.ntmps3
  go_wp2_with fail
  refine (path_any A n c zs _ HR.out hnc).mono ?_
  rintro e w1 ⟨p, rfl, hp, b1⟩
  go_wp2_with fail
  refine (path_any A' n' c' zs' _ ((HR'.out.below b1).more b1.size) hnc').mono ?_
  rintro e w2 ⟨q, rfl, hq, b2⟩
  have b12 := b1.trans (b2.mono b1.size)
  clear b1 b2
  go_wp2_with fail
  refine (split_any p (by omega) _).mono ?_
  rintro e w3 ⟨va, rfl, ta, b3⟩
  have b13 := b12.trans (b3.mono b12.size)
  clear b12 b3
  go_wp2_with fail
  refine (split_any q (by omega) _).mono ?_
  rintro e w4 ⟨vb, rfl, tb, b4⟩
  have b14 := b13.trans (b4.mono b13.size)
  have ta4 := ta.below b4
  clear b13 b4 ta
  have S1 := split_any (p ++ ⟨#[47]⟩ ++ q) (by simp only [ByteArray.size_append]; have : (⟨#[47]⟩ : ByteArray).size = 1 := rfl; omega)
  have S2 := split_any (⟨#[47, 47]⟩ ++ p ++ ⟨#[47, 46, 47]⟩ ++ q ++ ⟨#[47]⟩) (by simp only [ByteArray.size_append]; have h1 : (⟨#[47]⟩ : ByteArray).size = 1 := rfl; have h2 : (⟨#[47, 47]⟩ : ByteArray).size = 2 := rfl; have h3 : (⟨#[47, 46, 47]⟩ : ByteArray).size = 3 := rfl; omega)
  rw [names_two] at S1
  rw [names_many] at S2
  have S1 := Lib.hid S1
  have S2 := Lib.hid S2
  go_wp2_with fail
  refine (S1.out _).mono ?_
  rintro e w5 ⟨vl, rfl, tl5, b5⟩
  have b15 := b14.trans (b5.mono b14.size)
  have ta5 := ta4.below b5
  have tb5 := tb.below b5
  clear b14 b5 ta4 tb
  go_wp2_with fail
  refine (S2.out _).mono ?_
  rintro e w6 ⟨vm, rfl, tm6, b6⟩
  have b16 := b15.trans (b6.mono b15.size)
  have ra := (ta5.below b6).reads
  have rb := (tb5.below b6).reads
  have rl := (tl5.below b6).reads
  have rm := tm6.reads
  clear b15 b6 ta5 tb5 tl5 tm6 S1 S2
  obtain ⟨xa, Aa, ca, hxa, rfl, hca, cella⟩ := ra
  obtain ⟨xb, Ab, cb, hxb, rfl, hcb, cellb⟩ := rb
  obtain ⟨xl, Al, cl, hxl, rfl, hcl, celll⟩ := rl
  obtain ⟨xm, Am, cm, hxm, rfl, hcm, cellm⟩ := rm
  obtain rfl : xl = xa ++ xb := map_tl_inj (by rw [List.map_append, hxa, hxb, hxl])
  obtain rfl : xm = xa ++ xb := map_tl_inj (by rw [List.map_append, hxa, hxb, hxm])
  have hla : xa.length ≤ 100 := by have h1 := congrArg List.length hxa; have h2 := M.names_length (tl p); have h3 : (tl p).length = p.size := rfl; rw [List.length_map] at h1; omega
  have hlb : xb.length ≤ 100 := by have h1 := congrArg List.length hxb; have h2 := M.names_length (tl q); have h3 : (tl q).length = q.size := rfl; rw [List.length_map] at h1; omega
  clear hxa hxb hxl hxm
  have HCa : Hid (RowS w6 Aa xa) := Lib.hid cella
  have HCb : Hid (RowS w6 Ab xb) := Lib.hid cellb
  have HCl : Hid (RowS w6 Al (xa ++ xb)) := Lib.hid celll
  have HCm : Hid (RowS w6 Am (xa ++ xb)) := Lib.hid cellm
  have hll : (xa ++ xb).length = xa.length + xb.length := List.length_append
  have HL := Lib.hid hll
  rw [hll]
  clear cella cellb celll cellm hll hcl hcm
  go_wp2_with fail
  go_loopw [11] (fun i wr => ∃ k d : Nat, i = .int .i64 k ∧ k ≤ xa.length + xb.length ∧ wr = w6.drewN d) (fun i _ => xa.length + xb.length - (intOf i).toNat)
  case atStart => exact ⟨0, 0, rfl, Nat.zero_le _, rfl⟩
  case round =>
    obtain ⟨k, d, rfl, hk, rfl⟩ := hrel
    by_cases hlt : k < xa.length + xb.length
    · have hlt' : k < (xa ++ xb).length := by rw [HL.out]; exact hlt
      obtain ⟨bl, ol, rfl, celll⟩ := HCl.out (by omega)
      obtain ⟨bm, om, rfl, cellm⟩ := HCm.out (by omega)
      have ccl := celll k _ (List.getElem?_eq_getElem hlt')
      have ccm := cellm k _ (List.getElem?_eq_getElem hlt')
      clear celll cellm HCl HCm
      by_cases hka : k < xa.length
      · obtain ⟨ba, oa, rfl, cella⟩ := HCa.out (by omega)
        have cca := cella k _ (List.getElem?_eq_getElem hka)
        rw [List.getElem_append_left hka] at ccl ccm
        obtain ⟨x, hx⟩ : ∃ x, xa[k] = x := ⟨_, rfl⟩
        rw [hx] at ccl ccm cca
        clear hx cella HCa HCb hlt'
        have g1 : decide (xa.length ≤ k) = false := by rw [decide_eq_false_iff_not]; omega
        have g2 : decide ((xa.length : Int) ≤ (k : Int)) = false := by rw [decide_eq_false_iff_not]; omega
        by_cases h0 : k = 0
        · subst h0
          simp only [Nat.add_zero] at ccl ccm cca
          have g3 : (0 : Int) < (xa.length : Int) := by omega
          have g4 : decide (xa = []) = false := by rw [decide_eq_false_iff_not]; rintro rfl; simp at hka
          have g5 : (0 : Int) < (xa.length : Int) + (xb.length : Int) := by omega
          clear g1 g2
          rw [show ((0 : Nat) : Int) = 0 from rfl]
          go_wp2_with fail
          go_quiet (fail)
          go_wp2
          go_roundw
          case rel => exact ⟨1, d + nq, by go_num, by omega, rfl⟩
          case measure => simp [intOf]; omega
        · have hk0 : 0 < k := by omega
          clear h0
          go_wp2_with fail
          go_quiet (fail)
          go_wp2
          go_roundw
          case rel => exact ⟨k + 1, d + nq, by go_num, by omega, rfl⟩
          case measure => simp [intOf]; omega
      · obtain ⟨j, hj⟩ : ∃ j, k = xa.length + j := ⟨k - xa.length, by omega⟩
        have hjb : j < xb.length := by omega
        obtain ⟨bb, ob, rfl, cellb⟩ := HCb.out (by omega)
        have ccb := cellb j _ (List.getElem?_eq_getElem hjb)
        have hge : xa.length ≤ k := by omega
        rw [List.getElem_append_right hge] at ccl ccm
        have hkj : k - xa.length = j := by omega
        obtain ⟨x, hx⟩ : ∃ x, xb[j] = x := ⟨_, rfl⟩
        have hx2 : xb[k - xa.length]'(by omega) = x := by rw [← hx]; congr 1
        rw [hx2] at ccl ccm
        rw [hx] at ccb
        have hj1 : j ≤ k := by omega
        clear hx hx2 cellb HCa HCb hlt' hkj
        by_cases h0 : k = 0
        · subst h0
          obtain rfl : j = 0 := by omega
          simp only [Nat.add_zero] at ccl ccm ccb
          have g3 : (xa.length : Int) ≤ 0 := by omega
          have g4 : decide (0 < xa.length) = false := by rw [decide_eq_false_iff_not]; omega
          have g7 : xa = [] := List.eq_nil_of_length_eq_zero (by omega)
          have g5 : (0 : Int) < (xa.length : Int) + (xb.length : Int) := by omega
          have g6 : (0 : Int) < (xb.length : Int) := by omega
          have E2 := Lib.hid (show IntKind.i64.wrap (0 - (xa.length : Int)) = 0 from (IntWalk.i64_in _ (by omega)).trans (by omega))
          clear hka hj hge
          rw [show ((0 : Nat) : Int) = 0 from rfl]
          go_wp2_with fail
          have e2 := E2.out
          go_quiet (fail)
          clear e2
          go_wp2
          go_roundw
          case rel => exact ⟨1, d + nq, by go_num, by omega, rfl⟩
          case measure => simp [intOf]; omega
        · have hk0 : 0 < k := by omega
          have g1 : decide (k < xa.length) = false := by rw [decide_eq_false_iff_not]; omega
          have E2 := Lib.hid (show IntKind.i64.wrap ((k : Int) - (xa.length : Int)) = (j : Int) from (IntWalk.i64_in _ (by omega)).trans (by omega))
          clear h0 hka hj
          by_cases h1 : j = 0
          · subst h1
            simp only [Nat.add_zero] at ccb
            rw [show ((0 : Nat) : Int) = 0 from rfl] at E2
            have g6 : (0 : Int) < (xb.length : Int) := by omega
            go_wp2_with fail
            have e2 := E2.out
            go_quiet (fail)
            clear e2
            go_wp2
            go_roundw
            case rel => exact ⟨k + 1, d + nq, by go_num, by omega, rfl⟩
            case measure => simp [intOf]; omega
          · have hj0 : 0 < j := by omega
            clear h1
            go_wp2_with fail
            have e2 := E2.out
            go_quiet (fail)
            clear e2
            go_wp2
            go_roundw
            case rel => exact ⟨k + 1, d + nq, by go_num, by omega, rfl⟩
            case measure => simp [intOf]; omega
    · obtain rfl : k = xa.length + xb.length := by omega
      have b7 := below_drewN' b16 d
      clear hlt
      go_wp2_with (go_at_call 12; refine (known_any _).mono ?_; rintro e w7 ⟨rfl, b8⟩)
      go_ret
      exact ⟨rfl, b7.trans (b8.mono b7.size)⟩
end Go.Proofs.YtpmhmglckeafgaaDoor
