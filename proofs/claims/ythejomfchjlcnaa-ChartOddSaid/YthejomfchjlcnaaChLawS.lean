/-
  The walk of ChartSpans.
-/
import Derived.Test.YthejomfchjlcnaaChKnown
import Derived.Test.YthejomfchjlcnaaSumStep
import Derived.Test.YthejomfchjlcnaaStepB
set_option linter.unusedVariables false
set_option linter.unusedSimpArgs false
namespace Go.Proofs.Ythejomfchjlcnaa
open Go.RowKit Go.Lib

theorem RdI.one (w : World) (z : Int) (hz : -9223372036854775808 ≤ z ∧ z ≤ 9223372036854775807) : RdI (w.alloc (.cells #[.int .i64 z] 3)) (w.heap.size + 1) (some ⟨w.heap.size, 0, none⟩) 1 [z] := by
  have hbk : Blk (w.alloc (.cells #[.int .i64 z] 3)) w.heap.size 3 [.int .i64 z] := Blk.new w 3 [.int .i64 z]
  refine ⟨rfl, fun y hy => by rw [List.mem_singleton] at hy; subst hy; exact hz, fun _ => ⟨w.heap.size, 0, rfl, by omega, fun j y hj => ?_⟩⟩
  match j, hj with
  | 0, hj => simp at hj; subst hj; exact hbk.cell rfl
theorem wp_appI {o : Oper} {a : Act} {w : World} {K : Act → World → Prop} {Q : Exit → Act → World → Prop} (s x : Operand)
    (ho : o.op = .call { callee := .builtin .append, args := #[s, x], argTypes := #[23, 23] })
    (base : Nat) (v : Value) (l : List Int) (z : Int) (hz : -9223372036854775808 ≤ z ∧ z ≤ 9223372036854775807) (hs : a.eval s = v) (hown : OwnI w base v l) (hbase : base ≤ w.heap.size)
    (hx : a.eval x = .slice (some ⟨w.heap.size, 0, none⟩) 1 1) (hl : l.length ≤ 1000000)
    (h : ∀ v' w', Hid (OwnI w' base v' (l ++ [z])) → Hid (Below base w w') → K (a.put o.dst v') w') : Oper.wp Try.prog o a (w.alloc (.cells #[.int .i64 z] 3)) K Q := by
  obtain ⟨i0, hi, hz0, hz1, hz2⟩ := info_parts i64_parts
  refine wp_append_any _ s x 23 ho base 3 i0 (.int .i64 0) 1 8 Try.underlying23 hi hz0 hz1 hz2 rfl (by decide) v l.length (icells l) hs (World.ownsRow.alloc hown _) (w.heap.size + 1) (some ⟨w.heap.size, 0, none⟩) 1 1 (icells [z]) hx (RdI.one w z hz).reads (icells_one _) (by unfold maxLen; omega) (by omega) (by rw [World.size_alloc]; omega) ?_
  intro v' w' h1 h2 _
  refine h v' w' (hid ?_) (hid (below_grown ((Below.refl base w).alloc hbase _) h2 (by rw [World.size_alloc]; omega) (fun g e => (World.ownsRow.lt hown g e).1)))
  unfold OwnI
  rw [List.length_append, icells_app]
  exact h1
namespace C
def fS (z : Int) : Int := z / 64 * (z % 3)
theorem fS_bd {z : Int} (h0 : 0 ≤ z) (h1 : z ≤ 255) : 0 ≤ z / 64 ∧ z / 64 ≤ 3 ∧ 0 ≤ z % 3 ∧ z % 3 ≤ 2 ∧ 0 ≤ fS z ∧ fS z ≤ 6 := by
  have a0 : 0 ≤ z / 64 := by omega
  have a1 : z / 64 ≤ 3 := by omega
  have b0 : 0 ≤ z % 3 := by omega
  have b1 : z % 3 ≤ 2 := by omega
  refine ⟨a0, a1, b0, b1, Int.mul_nonneg a0 b0, ?_⟩
  have := Int.mul_le_mul a1 b1 b0 (by omega)
  unfold fS; omega
theorem map_take {f : Int → Int} {l : List Int} {k : Nat} {z : Int} (h : l[k]? = some z) : (l.take k).map f ++ [f z] = (l.take (k + 1)).map f := by
  obtain ⟨hk, rfl⟩ := List.getElem?_eq_some_iff.1 h
  rw [← List.take_append_getElem hk, List.map_append]; rfl
end C

set_option maxRecDepth 100000 in
set_option maxHeartbeats 8000000 in
theorem chartSpans_any (A : Option Addr) (n c : Nat) (l : List Int) (A' : Option Addr) (n' c' : Nat) (zs : List Int) (w : World) (hr : RdI w w.heap.size A n l) (hn : n ≤ 140737488355328) (hr' : Rd w w.heap.size A' n' zs) (hn' : n' ≤ 140737488355328) :
    Calls Try.prog 4 #[.slice A n c, .slice A' n' c'] w fun e w' => e = .returned (.bool true) ∧ Below w.heap.size w w' := by
  have HR := hid hr
  have HR' := hid hr'
  have HL := hid hr.len
  have HL' := hid hr'.len
  have HK := hid (fun W => known_any W)
  clear hr hr'
  by_cases hbig : 500 < n + n'
  · have d1 : decide ((500 : Int) < (n : Int) + (n' : Int)) = true := by rw [decide_eq_true_eq]; omega
    go_enter Try.func4, Try.ntmps4
    go_wp2_with (go_at_call 7; (with_reducible refine (HK.out _).mono ?_); rintro e w1 ⟨rfl, b1⟩; have HB1 := hid b1; clear b1)
    go_ret
    exact ⟨rfl, HB1.out⟩
  · have d1 : decide ((500 : Int) < (n : Int) + (n' : Int)) = false := by rw [decide_eq_false_iff_not]; omega
    go_enter Try.func4, Try.ntmps4
    go_wp2_with (go_at_call 7; (with_reducible refine (HK.out _).mono ?_); rintro e w1 ⟨rfl, b1⟩; have HB1 := hid b1; clear b1)
    go_loopw [5, 6] (fun vv iv wr => ∃ (k : Nat) (v : Value), iv = .int .i64 k ∧ vv = v ∧ k ≤ n' ∧ Hid (OwnI wr w.heap.size v ((zs.take k).map C.fS)) ∧ Hid (Below w.heap.size w wr)) (fun _ iv _ => n' - (RowKit.intOf iv).toNat)
    case atStart => exact ⟨0, _, rfl, rfl, Nat.zero_le _, hid (OwnI.nil _ _), HB1⟩
    case round =>
      obtain ⟨k, v, rfl, rfl, hk, HO, HW⟩ := hrel
      obtain ⟨Ao, co, rfl, _, _⟩ := own_room HO.out
      have hbs := HW.out.size
      by_cases hlt : k < n'
      · obtain ⟨bb, off, z, rfl, hb, hz0, hz1, hz, hcz⟩ := (HR'.out.below HW.out).at_ hlt
        have HF := hid (C.map_take (f := C.fS) hz)
        obtain ⟨a0, a1, a2, a3, a4, a5⟩ := C.fS_bd hz0 hz1
        have HLN : Hid (((zs.take k).map C.fS).length = k) := hid (by rw [List.length_map, List.length_take, HL'.out]; omega)
        rw [HLN.out] at HO ⊢
        have e1 : IntKind.u8.wrap (z / 64) = z / 64 := IntWalk.u8_in _ (by omega)
        have e2 : IntKind.u8.wrap (z % 3) = z % 3 := IntWalk.u8_in _ (by omega)
        have f1 : Int.tdiv z 64 = z / 64 := Int.tdiv_eq_ediv_of_nonneg hz0
        have f2 : Int.tmod z 3 = z % 3 := Int.tmod_eq_emod_of_nonneg hz0
        have e3 : IntKind.i64.wrap (z / 64) = z / 64 := IntWalk.i64_in _ (by omega)
        have e4 : IntKind.i64.wrap (z % 3) = z % 3 := IntWalk.i64_in _ (by omega)
        have e5 : IntKind.i64.wrap (z / 64 * (z % 3)) = C.fS z := IntWalk.i64_in _ (by unfold C.fS at a4 a5; omega)
        go_wp2_with fail
        have CZ := hid (fun (W : World) (hW : Below w.heap.size wr W) => (hW.cell (p := ⟨bb, off + k, none⟩) hb).trans hcz)
        refine wp_region_held_drew (S := fun W => Below w.heap.size wr W) (by kernel_rfl) (below_drew' (Below.refl _ _)) (fun hS => ?_)
        clear hS
        have hVs : Below w.heap.size wr wr.drew := below_drew' (Below.refl _ _)
        have HOV := hid (show OwnI wr.drew w.heap.size (.slice Ao k co) ((zs.take k).map C.fS) from HO.out)
        have hbV : w.heap.size ≤ wr.drew.heap.size := hbs
        generalize hSV : World.drew wr = V at *
        clear hSV
        have hS := hVs
        refine tkH 0 hS ?_
        refine tkH 1 hS ?_
        refine tkH 2 hS ?_
        refine tkH 3 hS ?_
        refine tfH 4 hS CZ.out ?_
        refine tkH 5 hS ?_
        refine tkH 6 hS ?_
        refine tkH 7 hS ?_
        refine tkH 8 hS ?_
        refine tkH 9 hS ?_
        refine tfH 10 hS CZ.out ?_
        refine tkH 11 hS ?_
        refine tkH 12 hS ?_
        refine tkH 13 hS ?_
        refine loneH (i := 14) 38 rfl rfl (by kernel_rfl) (by rfl) (fun K hK => ?_)
        go_simp
        refine hK.out _ _ (hS.alloc hbV _) (fun hS => ?_)
        clear hK K
        try simp only [NM]
        refine loneH (i := 15) 39 rfl rfl (by kernel_rfl) (by rfl) (fun K hK => ?_)
        refine wp_appI (.tmp 24) (.tmp 38) rfl w.heap.size _ ((zs.take k).map C.fS) (C.fS z) (by omega) (by simp [Act.eval]) HOV.out hbV (by simp [Act.eval]) (by rw [HLN.out]; omega) ?_
        intro v9 w9 ho9 hb9
        have hS9 : Below w.heap.size wr w9 := hVs.trans hb9.out
        refine hK.out _ _ hS9 (fun hS => ?_)
        clear hK K
        try simp only [NM]
        rw [HF.out] at ho9
        have hl9 : ((zs.take (k + 1)).map C.fS).length = k + 1 := by rw [List.length_map, List.length_take, HL'.out]; omega
        obtain ⟨A9, c9, hv9, _, _⟩ := own_room ho9.out
        rw [hl9] at hv9
        subst hv9
        clear hl9
        refine tkH 16 hS ?_
        refine wpAnyH_done (by kernel_rfl) ?_ _
        try simp only [NM]
        have HB9 := hid (HW.out.trans hS9)
        clear hS hS9 hVs hcz
        go_wp2
        go_roundw
        case rel => exact ⟨k + 1, _, (show Value.int .i64 _ = Value.int .i64 ((_ + 1 : Nat) : Int) by go_num), rfl, by omega, ho9, HB9⟩
        case measure => simp [RowKit.intOf] <;> omega
      · obtain rfl : k = n' := by omega
        have HM : Hid ((zs.take k).map C.fS = zs.map C.fS) := hid (by rw [List.take_of_length_le (by rw [HL'.out]; exact Nat.le_refl _)])
        rw [HM.out] at HO ⊢
        have hml : (zs.map C.fS).length = k := by rw [List.length_map, HL'.out]
        have hmz : i64s (zs.map C.fS) := by
          intro y hy
          obtain ⟨z, hz, rfl⟩ := List.mem_map.1 hy
          have := HR'.out.bd z hz
          have := C.fS_bd this.1 this.2
          omega
        generalize zs.map C.fS = m at *
        obtain ⟨Am, cm, hsl, hrm, hcm, _⟩ := HO.out.rd hmz
        rw [hml] at hsl hrm hcm ⊢
        cases hsl
        have HRM := hid hrm
        have S1 := hid (fun W (hW : Below w.heap.size w W) => spans_any A n c l (by omega) W ((HR.out.below hW).more hW.size))
        have S2 := hid (fun W (hW : Below w.heap.size w W) => refSpans_any A n c l (by omega) W ((HR.out.below hW).more hW.size))
        have S3 := hid (fun W (hW : Below wr.heap.size wr W) => spans_any Ao k co m (by omega) W ((HRM.out.below hW).more hW.size))
        have S4 := hid (fun W (hW : Below wr.heap.size wr W) => refSpans_any Ao k co m (by omega) W ((HRM.out.below hW).more hW.size))
        have HLS : Hid ((C.spans l).length ≤ 1000000) := hid (by have := C.spans_len l; have := HL.out; omega)
        have HLM : Hid ((C.spans m).length ≤ 1000000) := hid (by have := C.spans_len m; omega)
        clear hrm hcm hml hmz
        go_wp2_with fail
        (with_reducible refine (S1.out _ HW.out).mono ?_)
        rintro e w1 ⟨v1, rfl, o1, b1⟩
        obtain ⟨A1, c1, rfl, r1, _, _⟩ := o1.rd
        have R1 := hid r1
        have W1 := hid (HW.out.trans (b1.mono HW.out.size))
        have M1 := hid b1
        clear o1 r1 b1
        go_wp2_with fail
        (with_reducible refine (S2.out _ W1.out).mono ?_)
        rintro e w2 ⟨v2, rfl, o2, b2⟩
        obtain ⟨A2, c2, rfl, r2, _, _⟩ := o2.rd
        have R2 := hid r2
        have R1' := hid ((R1.out.below b2).more b2.size)
        have W2 := hid (W1.out.trans (b2.mono W1.out.size))
        have M2 := hid (M1.out.trans (b2.mono M1.out.size))
        clear o2 r2 b2
        go_wp2_with fail
        (with_reducible refine (same_any _ _ _ _ _ _ _ _ _ w2.heap.size (Nat.le_refl _) R1'.out R2.out HLS.out HLS.out rfl).mono ?_)
        rintro e w3 ⟨rfl, b3⟩
        have W3 := hid (W2.out.trans (b3.mono W2.out.size))
        have M3 := hid (M2.out.trans (b3.mono M2.out.size))
        clear b3
        go_wp2_with fail
        (with_reducible refine (S3.out _ M3.out).mono ?_)
        rintro e w4 ⟨v4, rfl, o4, b4⟩
        obtain ⟨A4, c4, rfl, r4, _, _⟩ := o4.rd
        have R4 := hid r4
        have W4 := hid (W3.out.trans (b4.mono W3.out.size))
        have M4 := hid (M3.out.trans (b4.mono M3.out.size))
        clear o4 r4 b4
        go_wp2_with fail
        (with_reducible refine (S4.out _ M4.out).mono ?_)
        rintro e w5 ⟨v5, rfl, o5, b5⟩
        obtain ⟨A5, c5, rfl, r5, _, _⟩ := o5.rd
        have R5 := hid r5
        have R4' := hid ((R4.out.below b5).more b5.size)
        have W5 := hid (W4.out.trans (b5.mono W4.out.size))
        clear o5 r5 b5
        go_wp2_with fail
        (with_reducible refine (same_any _ _ _ _ _ _ _ _ _ w5.heap.size (Nat.le_refl _) R4'.out R5.out HLM.out HLM.out rfl).mono ?_)
        rintro e w6 ⟨rfl, b6⟩
        have W6 := hid (W5.out.trans (b6.mono W5.out.size))
        clear b6
        go_wp2
        go_ret
        exact ⟨rfl, W6.out⟩
end Go.Proofs.Ythejomfchjlcnaa
