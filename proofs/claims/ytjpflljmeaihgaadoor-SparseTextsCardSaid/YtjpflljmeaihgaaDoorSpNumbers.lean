/-
  The document's numbers of a text.
-/
import Derived.Test.YtjpflljmeaihgaaDoorSpInts
import Derived.Test.YtjpflljmeaihgaaDoorSpSeq
import Derived.Test.YtjpflljmeaihgaaDoorSpClass
namespace Go.Proofs.YtjpflljmeaihgaaDoor
open Go.RowKit Go.Lib

/-- What numbers answers. -/
def NumsTo (o : Option (List Int)) (w : World) (e : Ending) (w' : World) : Prop :=
  ∃ v, e = .returned (.tuple #[v, .bool o.isSome]) ∧ OwnI w' w.heap.size v (o.getD []) ∧ Below w.heap.size w w'

set_option maxRecDepth 100000 in
set_option maxHeartbeats 4000000 in
theorem refNumbers_any (s : ByteArray) (hs : s.size ≤ 100000) (w : World) (ht : EV w.heap.size w) :
    Calls Tryd.prog 29 #[.string s] w (NumsTo (M.nums (M.cuts (tl s))) w) := by
  have HT := hid (fun (W : World) (hW : Below w.heap.size w W) => ht.on hW)
  have HTL := hid (tl_len s)
  obtain ⟨n, hn⟩ : ∃ n, n = s.size := ⟨_, rfl⟩
  have HN := hid hn
  clear ht
  go_enter Tryd.func29, Tryd.ntmps29
  go_wp2
  go_loopw [4, 5, 6] (fun ov fv iv wr => ∃ (f i : Nat) (acc : List Int), iv = .int .i64 i ∧ fv = .int .i64 f ∧ f ≤ i ∧ i ≤ n + 1 ∧ (n < i → n < f) ∧ acc.length ≤ f ∧ Hid (M.nums (M.cuts (tl s)) = (M.numsAt (tl s) f).map (acc ++ ·)) ∧ Hid (∀ c ∈ ((tl s).drop f).take (i - f), c ≠ 44) ∧ Hid (OwnI wr w.heap.size ov acc) ∧ Hid (Below w.heap.size w wr)) (fun _ _ iv _ => n + 1 - (RowKit.intOf iv).toNat)
  case atStart => exact ⟨0, 0, [], rfl, rfl, Nat.le_refl _, Nat.zero_le _, (fun h => absurd h (by omega)), Nat.le_refl _, hid (by rw [M.numsAt_zero]; simp), hid (by simp), hid (OwnI.nil _ _), hid (Below.refl _ _)⟩
  case round =>
    obtain ⟨f, i, acc, rfl, rfl, hfi, hi, hend, hal, HM, HC, HO, HB⟩ := hrel
    obtain ⟨A1, c1, rfl, _, _⟩ := HO.out.rd
    have hbs := HB.out.size
    by_cases hle : i ≤ n
    · have d1 : decide ((i : Int) ≤ (s.size : Int)) = true := by rw [decide_eq_true_eq]; omega
      have HIM := hid (fun (V : World) (x : Int) (h0 : -9223372036854775808 ≤ x) (h1 : x ≤ 9223372036854775807) (hV : Below w.heap.size w V) => itoa_any x h0 h1 w.heap.size V (HT.out V hV))
      by_cases hcon : ∃ hls : i < s.size, s[i]'hls ≠ 44
      · obtain ⟨hls, h44⟩ := hcon
        have d2 : decide ((i : Int) < (s.size : Int)) = true := by rw [decide_eq_true_eq]; omega
        have hc : (tl s)[i]? = some (s[i]'hls) := by
          unfold tl
          rw [Array.getElem?_toList]
          exact Array.getElem?_eq_getElem hls
        have d3 : (((s[i]'hls).toNat : Int) != 44) = true := by
          rw [bne_iff_ne]
          intro e
          exact h44 (UInt8.toNat_inj.1 (by show (s[i]'hls).toNat = 44; omega))
        obtain ⟨i1, hi1⟩ : ∃ i1, i1 = i + 1 := ⟨_, rfl⟩
        have HC2 := hid (show ∀ c ∈ ((tl s).drop f).take (i1 - f), c ≠ 44 by rw [hi1]; exact M.no_more HC.out hfi hc h44)
        clear hc
        go_wp2_with fail
        go_roundw
        case rel => exact ⟨f, i1, acc, (by subst hi1; first | rfl | go_num), rfl, by omega, by omega, (fun h => absurd h (by omega)), hal, HM, HC2, HO, HB⟩
        case measure => simp [RowKit.intOf] <;> omega
      · have H44 := hid (show i < (tl s).length → (tl s)[i]? = some 44 from fun hl => by
          have hls : i < s.size := by rw [HTL.out] at hl; exact hl
          have e : s[i]'hls = 44 := by
            by_cases e : s[i]'hls = 44
            · exact e
            · exact absurd ⟨hls, e⟩ hcon
          rw [← e]
          unfold tl
          rw [Array.getElem?_toList]
          exact Array.getElem?_eq_getElem hls)
        have HLE := hid (show i ≤ (tl s).length by rw [HTL.out]; omega)
        have HTE := hid (tl_mid s f i)
        have hsz : (s.extract f i).size = i - f := by rw [← tl_len, tl_mid, List.length_take, List.length_drop, HTL.out]; omega
        have HTN := hid (show (((tl s).drop f).take (i - f)).length = i - f by rw [← tl_mid, tl_len, hsz])
        have HNO := hid (fun hn => M.numsAt_none HM.out hfi HLE.out H44.out HC.out hn)
        have HYES := hid (fun v hn => M.numsAt_some (v := v) HM.out hfi HLE.out H44.out HC.out hn)
        have HAT := hid (atoi_any (s.extract f i) (by omega) w.heap.size wr (HT.out wr HB.out))
        by_cases hls : i < s.size
        case' pos =>
          have d2 : decide ((i : Int) < (s.size : Int)) = true := by rw [decide_eq_true_eq]; omega
          have d3 : (((s[i]'hls).toNat : Int) != 44) = false := by
            have e : s[i]'hls = 44 := by
              by_cases e : s[i]'hls = 44
              · exact e
              · exact absurd ⟨hls, e⟩ hcon
            rw [e]; rfl
        case' neg => have d2 : decide ((i : Int) < (s.size : Int)) = false := by rw [decide_eq_false_iff_not]; omega
        all_goals
          clear hcon H44 HM HC
          go_wp2_with fail
          (with_reducible refine HAT.out.mono ?_)
          rintro e w1 ⟨v, ev, rfl, hb1, v0, v1, h⟩
          rw [HTE.out] at h
          have HB1 := hid (HB.out.trans (hb1.mono hbs))
          have HO1 := hid (HO.out.later hb1)
          clear HAT hb1 d1 d2 HTE
          obtain ⟨t, htt⟩ : ∃ t, ((tl s).drop f).take (i - f) = t := ⟨_, rfl⟩
          have HTT := hid htt
          rw [htt] at h HTN HNO HYES
          clear htt
          by_cases hlong : 13 < i - f
          · have HNN := hid (HNO.out (M.numOf_long (by rw [HTN.out]; exact hlong)))
            have d4 : decide ((13 : Int) < (i : Int) - (f : Int)) = true := by rw [decide_eq_true_eq]; omega
            clear h HNO HYES
            go_wp2_with fail
            go_quiet (fail)
            go_wp2
            go_ret2
            exact ⟨_, by rw [HNN.out]; rfl, by rw [HNN.out]; exact OwnI.nil _ _, below_drewN' HB1.out _⟩
          · have d4 : decide ((13 : Int) < (i : Int) - (f : Int)) = false := by rw [decide_eq_false_iff_not]; omega
            have hle13 : t.length ≤ 13 := by rw [HTN.out]; omega
            have HNM : Hid (M.numOf t = if t.length ≤ 13 ∧ 0 ≤ v ∧ Lib.itoa v = t then some v else none) := hid (by
              rcases h with ⟨ha, _⟩ | ⟨ha, _, hv⟩
              · exact M.numOf_ok ha
              · rw [M.numOf_err ha, if_neg]
                rintro ⟨_, _, he⟩
                rcases hv with rfl | hv
                · exact M.zero_not ha he
                · omega)
            clear h
            by_cases hv : v < 0
            · have HNN := hid (HNO.out (by rw [HNM.out, if_neg (by omega)]))
              have d5 : decide (v < 0) = true := by rw [decide_eq_true_eq]; exact hv
              clear HNO HYES HNM
              go_wp2_with fail
              go_quiet (fail)
              go_wp2
              go_ret2
              exact ⟨_, by rw [HNN.out]; rfl, by rw [HNN.out]; exact OwnI.nil _ _, below_drewN' HB1.out _⟩
            · have d5 : decide (v < 0) = false := by rw [decide_eq_false_iff_not]; exact hv
              have hwr : IntKind.i64.wrap ((i : Int) - (f : Int)) = (i : Int) - (f : Int) := IntWalk.i64_in _ (by omega)
              by_cases he : Lib.itoa v = t
              · have hYES := HYES.out v (by rw [HNM.out, if_pos ⟨hle13, by omega, he⟩])
                have HYES2 := hid hYES
                have d6 : (Lib.itoa v == (s.extract f i).toList) = true := by rw [beq_iff_eq, tl_eq, tl_mid, HTT.out]; exact he
                have HHE := hid he
                obtain ⟨i1, hi1⟩ : ∃ i1, i1 = i + 1 := ⟨_, rfl⟩
                rw [← hi1] at HYES2
                clear HNO HYES HNM hYES he
                go_wp2_with fail
                refine wp_region_class (fun W => Below w1.heap.size w1 W) (by kernel_rfl) (by kernel_rfl) (below_drew' (Below.refl _ _)) ?_
                repeat
                  refine wpQuiet_step (fun K hK => ?_)
                  go_simp
                  first
                    | (refine hK _ ?_; clear hK K)
                    | (apply Exists.intro
                       refine ⟨fun W hW => ?_, hK _ ?_⟩
                       · first
                           | with_reducible rfl
                           | (go_at_call 38; refine (HIM.out W v v0 v1 (HB1.out.trans (hW.mono HB1.out.size))).mono ?_; rintro e w' ⟨rfl, hb⟩; exact ⟨rfl, hW.trans (hb.mono hW.size)⟩)
                       clear hK K)
                refine wpQuiet_nil ?_
                intro w2 hb2
                have HO2 := hid (HO1.out.later hb2)
                have HB2 := hid (HB1.out.trans (hb2.mono HB1.out.size))
                have hbs2 := HB2.out.size
                have hal2 : acc.length ≤ 1000000 := by omega
                clear hb2
                go_wp2_with (refine wpList_appI1 rfl (.tmp 50) (.tmp 52) rfl w.heap.size _ acc v (by simp [Act.eval]) HO2.out hbs2 (by simp [Act.eval]) hal2 ?_; intro v9 w9 ho9 hb9)
                go_roundw
                case rel => exact ⟨i1, i1, acc ++ [v], (by subst hi1; first | rfl | go_num), (by subst hi1; first | rfl | go_num), Nat.le_refl _, by omega, (fun h => h), by rw [List.length_append, List.length_singleton]; omega, HYES2, hid (by rw [Nat.sub_self]; intro c hc; cases hc), ho9, hid (HB2.out.trans hb9.out)⟩
                case measure => simp [RowKit.intOf] <;> omega
              · have HNN := hid (HNO.out (by rw [HNM.out, if_neg (by rintro ⟨_, _, h⟩; exact he h)]))
                have d6 : (Lib.itoa v == (s.extract f i).toList) = false := by rw [beq_eq_false_iff_ne, tl_eq, tl_mid, HTT.out]; exact he
                clear HNO HYES HNM he
                go_wp2_with fail
                refine wp_region_class (fun W => Below w1.heap.size w1 W) (by kernel_rfl) (by kernel_rfl) (below_drew' (Below.refl _ _)) ?_
                repeat
                  refine wpQuiet_step (fun K hK => ?_)
                  go_simp
                  first
                    | (refine hK _ ?_; clear hK K)
                    | (apply Exists.intro
                       refine ⟨fun W hW => ?_, hK _ ?_⟩
                       · first
                           | with_reducible rfl
                           | (go_at_call 38; refine (HIM.out W v v0 v1 (HB1.out.trans (hW.mono HB1.out.size))).mono ?_; rintro e w' ⟨rfl, hb⟩; exact ⟨rfl, hW.trans (hb.mono hW.size)⟩)
                       clear hK K)
                refine wpQuiet_nil ?_
                intro w2 hb2
                go_wp2
                go_ret2
                exact ⟨_, by rw [HNN.out]; rfl, by rw [HNN.out]; exact OwnI.nil _ _, HB1.out.trans (hb2.mono HB1.out.size)⟩
    · have HE := hid (show M.nums (M.cuts (tl s)) = some acc by
        rw [HM.out, M.numsAt_end (by rw [HTL.out]; omega)]
        simp)
      have d1 : decide (i ≤ s.size) = false := by rw [decide_eq_false_iff_not]; omega
      clear hle HM HC
      go_wp2_with fail
      go_ret2
      exact ⟨_, by rw [HE.out]; rfl, by rw [HE.out]; exact HO.out, HB.out⟩
end Go.Proofs.YtjpflljmeaihgaaDoor
