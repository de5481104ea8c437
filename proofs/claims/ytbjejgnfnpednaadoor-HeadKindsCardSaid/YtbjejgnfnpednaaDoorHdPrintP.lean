/-
  printParts.
-/
import Derived.Test.YtbjejgnfnpednaaDoorHdPrintM
namespace Go.Proofs.YtbjejgnfnpednaaDoor
open Go.RowKit Go.Lib

/-- A part's variable beside a block that is being laid. -/
structure PP (w0 W : World) (gb g : Nat) (zs : List Int) (p q : Int) : Prop where
  arr : Arr W gb 5 zs
  box : W.heap[g]? = some (.cells #[.int .i64 p, .int .i64 q] 50 (0, 0))
  ne : gb ≠ g
  below : Below gb w0 W
theorem PP.new {w0 W : World} {gb : Nat} {zs : List Int} (ha : Arr W gb 5 zs) (hb : Below gb w0 W) (p q : Int) : PP w0 (W.alloc (.cells #[.int .i64 p, .int .i64 q] 50)) gb W.heap.size zs p q :=
  ⟨ha.alloc _, heap_alloc_new W _, Nat.ne_of_lt ha.lt, hb.alloc (Nat.le_of_lt ha.lt) _⟩
theorem PP.later {w0 W W' : World} {gb g : Nat} {zs : List Int} {p q : Int} (h : PP w0 W gb g zs p q) (hb : Below W.heap.size W W') : PP w0 W' gb g zs p q :=
  ⟨h.arr.below hb h.arr.lt, (hb.block _ (Array.getElem?_eq_some_iff.1 h.box).1).trans h.box, h.ne, h.below.trans (hb.mono (Nat.le_of_lt h.arr.lt))⟩
theorem PP.laid {w0 W : World} {gb g : Nat} {zs : List Int} {p q : Int} (h : PP w0 W gb g zs p q) (ys : List Int) : PP w0 (laid W gb ys) gb g ys p q :=
  ⟨h.arr.laid ys, (setRow_other _ _ _ _ (Ne.symm h.ne)).trans h.box, h.ne, below_setRow h.below (Nat.le_refl _) _⟩
theorem PP.cell0 {w0 W : World} {gb g : Nat} {zs : List Int} {p q : Int} (h : PP w0 W gb g zs p q) : W.cell? ⟨g, 0, none⟩ = some (.int .i64 p) := by rw [cell_of_row _ _ 0 _ _ _ h.box]; rfl
theorem PP.cell1 {w0 W : World} {gb g : Nat} {zs : List Int} {p q : Int} (h : PP w0 W gb g zs p q) : W.cell? ⟨g, 1, none⟩ = some (.int .i64 q) := by rw [cell_of_row _ _ 1 _ _ _ h.box]; rfl
theorem PP.more {w0 W : World} {gb g : Nat} {zs : List Int} {p q : Int} (h : PP w0 W gb g zs p q) (o : Obj) : PP w0 (W.alloc o) gb g zs p q := h.later ((Below.refl _ _).alloc (Nat.le_refl _) _)

def PartsPut (o : Option (List Int)) (gb : Nat) (w : World) (e : Ending) (w' : World) : Prop :=
  (match o with
    | none => e = .panicked (boom 32)
    | some ys => e = .returned (.tuple #[]) ∧ Arr w' gb 5 ys ∧ ys.length = 512) ∧ Below gb w w'
theorem PartsPut.no {o : Option (List Int)} {gb : Nat} {w w' : World} (ho : o = none) (hb : Below gb w w') : PartsPut o gb w (.panicked (boom 32)) w' := by
  subst ho; exact ⟨rfl, hb⟩
theorem PartsPut.yes {o : Option (List Int)} {ys : List Int} {gb : Nat} {w w' : World} (ho : o = some ys) (ha : Arr w' gb 5 ys) (hl : ys.length = 512) (hb : Below gb w w') : PartsPut o gb w (.returned (.tuple #[])) w' := by
  subst ho; exact ⟨⟨rfl, ha, hl⟩, hb⟩

namespace M
theorem pputs_zero {zs : List Int} {i : Nat} {p : Int × Int} {l : List (Int × Int)} (h : p.1 = 0 ∧ p.2 = 0) : pputs zs i (p :: l) = none := by rw [pputs, if_pos h]
theorem pputs_bad1 {zs : List Int} {i : Nat} {p : Int × Int} {l : List (Int × Int)} (h : ¬ (p.1 = 0 ∧ p.2 = 0)) (h1 : putOk p.1 12 0 most = false) : pputs zs i (p :: l) = none := by rw [pputs, if_neg h, h1, if_neg (by decide)]
theorem pputs_bad2 {zs : List Int} {i : Nat} {p : Int × Int} {l : List (Int × Int)} (h : ¬ (p.1 = 0 ∧ p.2 = 0)) (h1 : putOk p.1 12 0 most = true) (h2 : putOk p.2 12 0 most = false) : pputs zs i (p :: l) = none := by rw [pputs, if_neg h, h1, if_pos rfl, h2, if_neg (by decide)]
theorem pputs_next {zs : List Int} {i : Nat} {p : Int × Int} {l : List (Int × Int)} (h : ¬ (p.1 = 0 ∧ p.2 = 0)) (h1 : putOk p.1 12 0 most = true) (h2 : putOk p.2 12 0 most = true) :
    pputs zs i (p :: l) = pputs (splice (splice zs (386 + 24 * i) (putR p.1 12)) (386 + 24 * i + 12) (putR p.2 12)) (i + 1) l := by rw [pputs, if_neg h, h1, if_pos rfl, h2, if_pos rfl]
theorem putOk_fits {x : Int} {m : Nat} {lo up : Int} (h : putOk x m lo up = true) : putFits x m = true := by
  unfold putOk at h
  rw [Bool.and_eq_true] at h
  exact h.1
end M

/-- The rounds of printParts: k are done. -/
def PutAt (w : World) (gb : Nat) (zs : List Int) (l : List (Int × Int)) (i : Value) (wr : World) : Prop :=
  ∃ (k : Nat) (zk : List Int), i = .int .i64 k ∧ k ≤ l.length ∧ Hid (zk.length = 512) ∧ Hid (M.pputs zs 0 l = M.pputs zk k (l.drop k)) ∧ Hid (Arr wr gb 5 zk) ∧ Hid (Below gb w wr)

def i64p (l : List (Int × Int)) : Prop := ∀ p ∈ l, (-9223372036854775808 ≤ p.1 ∧ p.1 ≤ 9223372036854775807) ∧ (-9223372036854775808 ≤ p.2 ∧ p.2 ≤ 9223372036854775807)

set_option maxRecDepth 100000 in
set_option maxHeartbeats 2000000 in
theorem printParts_any (gb : Nat) (zs : List Int) (l : List (Int × Int)) (pv : Value) (w : World) (hA : Arr w gb 5 zs) (hz : zs.length = 512) (hp : PartsB w gb pv l) (hbd : i64p l) :
    Calls Tryd.prog 31 #[.slice (some ⟨gb, 0, none⟩) 512 512, pv] w (PartsPut (M.putP zs l) gb w) := by
  have HP := hid hp
  obtain ⟨A, c, rfl, hlc, _⟩ := hp
  have HBD := hid hbd
  have HAA := hid hA
  have hgb := hA.lt
  clear hA hbd
  by_cases h4 : l.length ≤ 4
  case neg =>
    have hno := hid (show M.putP zs l = none by unfold M.putP; rw [if_neg h4])
    have e1 : decide ((l.length : Int) ≤ 4) = false := by rw [decide_eq_false_iff_not]; omega
    clear HP h4
    go_enter Tryd.func31, Tryd.ntmps31
    go_wp2_with (go_at_call 25; (with_reducible refine (demand_no _ _).mono ?_); rintro e w9 ⟨rfl, rfl⟩)
    exact ⟨rfl, PartsPut.no hno.out (Below.refl _ _)⟩
  case pos =>
    have HX := hid (show M.putP zs l = M.pputs zs 0 l by unfold M.putP; rw [if_pos h4])
    have e1 : decide ((l.length : Int) ≤ 4) = true := by rw [decide_eq_true_eq]; omega
    go_enter Tryd.func31, Tryd.ntmps31
    go_wp2_with (go_at_call 25; (with_reducible refine (demand_yes _ _).mono ?_); rintro e w9 ⟨rfl, rfl⟩)
    go_loopw [14] (fun i wr => PutAt w gb zs l i wr) (fun i _ => l.length - (RowKit.intOf i).toNat)
    case atStart => exact ⟨0, zs, rfl, Nat.zero_le _, hid hz, hid rfl, HAA, hid (Below.refl _ _)⟩
    case round =>
      obtain ⟨k, zk, rfl, hk, HZ, hpt, HA, HB⟩ := hrel
      clear HAA
      by_cases hkl : k < l.length
      · obtain ⟨A', c', he, _, hcells⟩ := HP.out.below HB.out
        injection he with he1 _ he3
        subst he1 he3
        obtain ⟨b, off, rfl, hbg, hc⟩ := hcells (by omega)
        obtain ⟨p, hpk⟩ : ∃ p, l[k]? = some p := ⟨_, List.getElem?_eq_getElem hkl⟩
        obtain ⟨c0, c1⟩ := hc k p hpk
        have hdr : l.drop k = p :: l.drop (k + 1) := by
          rw [List.drop_eq_getElem_cons hkl]
          congr 1
          rw [List.getElem?_eq_getElem hkl] at hpk
          injection hpk
        rw [hdr] at hpt
        have hbp := HBD.out p (List.mem_of_getElem? hpk)
        obtain ⟨p, q⟩ := p
        dsimp only at c0 c1 hbp
        have ex : (386 : Int) + (k : Int) * 24 = ((386 + 24 * k : Nat) : Int) := by omega
        have hx : 386 + 24 * k ≤ 458 := by omega
        rw [show 2 * k = k * 2 by omega] at c0 c1
        clear hpk hdr hcells hc
        by_cases hz0 : p = 0 ∧ q = 0
        · have hno := hid (HX.out.trans (hpt.out.trans (M.pputs_zero hz0)))
          obtain ⟨rfl, rfl⟩ := hz0
          go_wp2_with (go_at_call 25; (with_reducible refine (demand_no _ _).mono ?_); rintro e w9 ⟨rfl, rfl⟩)
          exact ⟨rfl, PartsPut.no hno.out (PP.new HA.out HB.out 0 0).below⟩
        · have hz2 : (!(p == 0 && q == 0)) = true := by
            rw [Bool.not_eq_true', Bool.and_eq_false_iff, beq_eq_false_iff_ne, beq_eq_false_iff_ne]; omega
          have HZ0 := hid hz0
          have HBP := hid hbp
          have PN := hid (PP.new HA.out HB.out p q)
          generalize hgx : 386 + 24 * k = x at *
          have HKx := hid hgx
          have px0 := pair_at0 wr.heap.size x
          have px1 := pair_at1 wr.heap.size x
          have HN1 := hid (fun (W : World) (ys : List Int) (hl : ys.length = 512) (hW : PP w W gb wr.heap.size ys p q) => show Calls Tryd.prog 30 #[.agg #[.int .i64 x, .int .i64 12, .bool true, .int .i64 0, .int .i64 4611686018427387904, .pointer (some ⟨wr.heap.size, 0, none⟩)], .slice (some ⟨gb, 0, none⟩) 512 512] W (NumPut ys x 12 true 0 M.most p gb W) from
            number_print x 12 true 0 M.most wr.heap.size 0 gb ys p W (by omega) (by decide) HBP.out.1 hl hW.arr hW.cell0)
          have HN2 := hid (fun (W : World) (ys : List Int) (hl : ys.length = 512) (hW : PP w W gb wr.heap.size ys p q) => show Calls Tryd.prog 30 #[.agg #[.int .i64 ((x : Int) + 12), .int .i64 12, .bool true, .int .i64 0, .int .i64 4611686018427387904, .pointer (some ⟨wr.heap.size, 1, none⟩)], .slice (some ⟨gb, 0, none⟩) 512 512] W (NumPut ys (x + 12) 12 true 0 M.most q gb W) from
            number_print (x + 12) 12 true 0 M.most wr.heap.size 1 gb ys q W (by omega) (by decide) HBP.out.2 hl hW.arr hW.cell1)
          by_cases hp0 : p = 0
          case' pos =>
            have t0 : (p == 0) = true := by simpa using hp0
            have t1 : (q == 0) = false := by simpa [hp0] using hz2
          case' neg => have t0 : (p == 0) = false := by simpa using hp0
          all_goals
            clear hz0 hz2 hbp hgx HA HB hp0
            go_wp2_with (go_at_call 25; (with_reducible refine (demand_yes _ _).mono ?_); rintro e w9 ⟨rfl, rfl⟩)
            (with_reducible refine (pair_any wr.heap.size x (by omega) (by omega) _).mono ?_)
            rintro e w2 ⟨rfl, b2⟩
            have S2 := hid (PN.out.later b2)
            clear b2 PN
            go_wp2_with fail
            refine wp_loop_rounds 3 ?_
            rw [rounds_succ]
            go_wp2_with fail
            (with_reducible refine (HN1.out _ zk HZ.out (S2.out.more _)).mono ?_)
            rintro e w3 h3
            unfold NumPut at h3
            rw [if_pos rfl] at h3
            cases hk1 : M.putOk p 12 0 M.most with
            | false =>
              have hno := hid (HX.out.trans (hpt.out.trans (M.pputs_bad1 HZ0.out hk1)))
              rw [hk1, if_neg (by decide)] at h3
              obtain ⟨rfl, b3⟩ := h3
              exact ⟨rfl, PartsPut.no hno.out ((S2.out.more _).later b3).below⟩
            | true =>
              rw [hk1, if_pos rfl] at h3
              obtain ⟨rfl, w4, b4, rfl⟩ := h3
              have hl4 := hid (show (splice zk x (M.putR p 12)).length = 512 by rw [length_splice _ _ _ (by rw [show (M.putR p 12).length = 12 from putR_len (m := 12) (M.putOk_fits hk1), HZ.out]; omega), HZ.out])
              have S4 := hid (((S2.out.more _).later b4).laid (splice zk x (M.putR p 12)))
              clear b4 S2
              generalize laid w4 gb _ = w5 at *
              go_wp2_with fail
              rw [rounds_succ]
              go_wp2_with fail
              (with_reducible refine (HN2.out _ _ hl4.out (S4.out.more _)).mono ?_)
              rintro e w6 h6
              unfold NumPut at h6
              rw [if_pos rfl] at h6
              cases hk2 : M.putOk q 12 0 M.most with
              | false =>
                have hno := hid (HX.out.trans (hpt.out.trans (M.pputs_bad2 HZ0.out hk1 hk2)))
                rw [hk2, if_neg (by decide)] at h6
                obtain ⟨rfl, b6⟩ := h6
                exact ⟨rfl, PartsPut.no hno.out ((S4.out.more _).later b6).below⟩
              | true =>
                rw [hk2, if_pos rfl] at h6
                obtain ⟨rfl, w7, b7, rfl⟩ := h6
                have hl7 := hid (show (splice (splice zk x (M.putR p 12)) (x + 12) (M.putR q 12)).length = 512 by rw [length_splice _ _ _ (by rw [show (M.putR q 12).length = 12 from putR_len (m := 12) (M.putOk_fits hk2), hl4.out]; omega), hl4.out])
                have S7 := hid (((S4.out.more _).later b7).laid (splice (splice zk x (M.putR p 12)) (x + 12) (M.putR q 12)))
                have HY := hid (hpt.out.trans (M.pputs_next HZ0.out hk1 hk2))
                rw [HKx.out] at HY
                clear b7 S4 HN1 HN2 hpt
                generalize laid w7 gb _ = w8 at *
                go_wp2_with fail
                rw [rounds_succ]
                go_wp2_with fail
                go_round
                case rel => exact ⟨k + 1, _, by go_num, by omega, hl7, HY, hid S7.out.arr, hid S7.out.below⟩
                case measure => simp [RowKit.intOf]; omega
      · obtain rfl : k = l.length := by omega
        have hE := hid (HX.out.trans (hpt.out.trans (by rw [List.drop_length, M.pputs])))
        clear hpt hkl
        go_wp2
        go_end0
        all_goals exact PartsPut.yes hE.out HA.out HZ.out HB.out
end Go.Proofs.YtbjejgnfnpednaaDoor
