/-
  The document's Parse.
-/
import Derived.Test.YtjpflljmeaihgaaDoorSpNumbers
import Derived.Test.YtjpflljmeaihgaaDoorSpParse
import Derived.Test.YtjpflljmeaihgaaDoorSumStep
import Derived.Test.YtjpflljmeaihgaaDoorSpRefExp
namespace Go.Proofs.YtjpflljmeaihgaaDoor
open Go.RowKit Go.Lib
attribute [local go_sem ↓] add_plain

theorem wp_appP {o : Oper} {a : Act} {w : World} {K : Act → World → Prop} {Q : Exit → Act → World → Prop} (s x : Operand)
    (ho : o.op = .call { callee := .builtin .append, args := #[s, x], argTypes := #[24, 24] })
    (base : Nat) (v : Value) (l : List (Int × Int)) (p q : Int) (hs : a.eval s = v) (hown : OwnP w base v l) (hbase : base ≤ w.heap.size) (gb : Nat)
    (hx : a.eval x = .slice (some ⟨gb, 0, none⟩) 1 1) (hb : w.heap[gb]? = some (.cells #[.int .i64 p, .int .i64 q] 29 (0, 0))) (hl : l.length ≤ 1000000)
    (h : ∀ v' w', Hid (OwnP w' base v' (l ++ [(p, q)])) → Hid (Below base w w') → K (a.put o.dst v') w') : Oper.wp Tryd.prog o a w K Q := by
  obtain ⟨i0, hi, hz0, hz1, hz2⟩ := info_parts part_parts
  have hgb : gb < w.heap.size := (Array.getElem?_eq_some_iff.1 hb).1
  refine wp_append_any w s x 24 ho base 29 i0 (.agg #[.int .i64 0, .int .i64 0]) 2 16 Tryd.underlying24 hi hz0 hz1 hz2 rfl (by decide) v l.length (pcells l) hs hown w.heap.size (some ⟨gb, 0, none⟩) 1 1 [.int .i64 p, .int .i64 q] hx ?_ ?_ ?_ ?_ hbase ?_
  · refine ⟨rfl, fun _ => ⟨⟨gb, 0, none⟩, rfl, hgb, fun j u hj => ?_⟩⟩
    match j, hj with
    | 0, hj => simp at hj; subst hj; exact (cell_of_row _ _ 0 _ _ _ hb).trans rfl
    | 1, hj => simp at hj; subst hj; exact (cell_of_row _ _ 1 _ _ _ hb).trans rfl
  · intro u hu
    simp at hu
    rcases hu with rfl | rfl <;> rfl
  · unfold maxLen; omega
  · omega
  · intro v' w' hown' hgrow _
    refine h v' w' (hid ?_) (hid ?_)
    · unfold OwnP
      rw [pcells_app, List.length_append]
      exact hown'
    · refine below_grown (Below.refl base w) hgrow hbase ?_
      intro g hg
      exact (World.ownsRow.lt hown g hg).1
namespace M
theorem pairs_step {ns : List Int} {k : Nat} {a b : Int} (h0 : ns[2 * k]? = some a) (h1 : ns[2 * k + 1]? = some b) : pairs (ns.take (2 * (k + 1))) = pairs (ns.take (2 * k)) ++ [(a, b)] := by
  obtain ⟨l0, e0⟩ := List.getElem?_eq_some_iff.1 h0
  obtain ⟨l1, e1⟩ := List.getElem?_eq_some_iff.1 h1
  rw [show 2 * (k + 1) = 2 * k + 1 + 1 by omega, List.take_succ_eq_append_getElem l1, List.take_succ_eq_append_getElem l0, e0, e1, List.append_assoc, pairs_app _ _ (by rw [List.length_take]; omega)]
  rfl
theorem parse_nums {s : List UInt8} (h : s ≠ []) : parse s = parseN (nums (cuts s)) := by unfold parse; rw [if_neg h]
end M

set_option maxRecDepth 100000 in
set_option maxHeartbeats 4000000 in
theorem refParse_any (s : ByteArray) (hs : s.size ≤ 100000) (w : World) (ht : EV w.heap.size w) :
    Calls Tryd.prog 15 #[.string s] w (PartsTo (M.parse (tl s)) w) := by
  have HNS := hid (refNumbers_any s hs w ht)
  by_cases h0 : tl s = []
  · have HP := hid (show M.parse (tl s) = some [] by rw [h0]; rfl)
    have he : s.toList.isEmpty = true := by rw [tl_eq, h0]; rfl
    clear h0
    go_enter Tryd.func15, Tryd.ntmps15
    go_wp2
    go_ret2
    exact ⟨_, by rw [HP.out]; rfl, by rw [HP.out]; exact OwnP.nil _ _, Below.refl _ _⟩
  have he : s.toList.isEmpty = false := by rw [tl_eq]; simpa using h0
  have HP := hid (M.parse_nums h0)
  have HCL := hid (M.cuts_len (tl s))
  have HTL := hid (tl_len s)
  clear h0
  go_enter Tryd.func15, Tryd.ntmps15
  go_wp2_with fail
  (with_reducible refine HNS.out.mono ?_)
  rintro e w1 ⟨v, rfl, hov, hb1⟩
  have HB1 := hid hb1
  clear HNS hb1 he
  cases hns : M.nums (M.cuts (tl s)) with
  | none =>
    rw [hns] at HP
    rw [hns] at hov
    obtain ⟨A1, c1, rfl, _, _⟩ := hov.rd
    clear hns hov
    go_wp2_with fail
    go_ret2
    exact ⟨_, by rw [HP.out]; rfl, by rw [HP.out]; exact OwnP.nil _ _, HB1.out⟩
  | some ns =>
    rw [hns] at HP
    rw [hns] at hov
    have HNL := hid (M.nums_len hns)
    rw [show (some ns).getD [] = ns from rfl] at hov
    obtain ⟨A1, c1, rfl, hrd, _⟩ := hov.rd
    obtain ⟨n, hn⟩ : ∃ n, ns.length = n := ⟨_, rfl⟩
    rw [hn] at hrd ⊢
    have hnb : n ≤ 100001 := by have := HCL.out; have := HTL.out; have := HNL.out; omega
    have HN := hid hn
    rw [M.parseN_some, hn] at HP
    have HR := hid (fun (W : World) (hW : Below w1.heap.size w1 W) => hrd.below hW)
    clear hns hov hrd hn
    by_cases hodd : n % 2 = 1
    · have HPN := hid (show M.parse (tl s) = none by rw [HP.out, if_pos (.inl hodd)])
      have hm : Int.tmod (n : Int) 2 = 1 := by rw [Int.tmod_eq_emod_of_nonneg (by omega)]; omega
      go_wp2_with fail
      go_ret2
      exact ⟨_, by rw [HPN.out]; rfl, by rw [HPN.out]; exact OwnP.nil _ _, HB1.out⟩
    · obtain ⟨m, hm2⟩ : ∃ m, n = 2 * m := ⟨n / 2, by omega⟩
      have hm : Int.tmod (n : Int) 2 = 0 := by rw [Int.tmod_eq_emod_of_nonneg (by omega)]; omega
      by_cases hbig : 2000 < n
      · have HPN := hid (show M.parse (tl s) = none by rw [HP.out, if_pos (.inr hbig)])
        have d1 : decide ((2000 : Int) < (n : Int)) = true := by rw [decide_eq_true_eq]; omega
        go_wp2_with fail
        go_ret2
        exact ⟨_, by rw [HPN.out]; rfl, by rw [HPN.out]; exact OwnP.nil _ _, HB1.out⟩
      · have HPY := hid (show M.parse (tl s) = some (M.pairs ns) by rw [HP.out, if_neg (by omega)])
        have d1 : decide ((2000 : Int) < (n : Int)) = false := by rw [decide_eq_false_iff_not]; omega
        have hnb2 : n ≤ 2000 := by omega
        have HM2 := hid hm2
        clear hm2 hodd hbig hnb
        go_wp2_with fail
        clear d1 hm
        go_loopw [6, 7] (fun lv iv wr => ∃ (q k : Nat), iv = .int .i64 q ∧ q = 2 * k ∧ k ≤ m ∧ Hid (OwnP wr w1.heap.size lv (M.pairs (ns.take (2 * k)))) ∧ Hid (Below w1.heap.size w1 wr)) (fun _ iv _ => n - (RowKit.intOf iv).toNat)
        case atStart => exact ⟨0, 0, rfl, rfl, Nat.zero_le _, hid (OwnP.nil _ _), hid (Below.refl _ _)⟩
        case round =>
          obtain ⟨q, k, rfl, hqk, hk, HO, HB⟩ := hrel
          obtain ⟨A2, c2, hv2, _, _⟩ := HO.out.rd
          subst hv2
          have hbs := HB.out.size
          have hm2 := HM2.out
          by_cases hlt : k < m
          · obtain ⟨b, off, za, rfl, hb, hza, hca⟩ := (HR.out wr HB.out).at_ (k := q) (by omega)
            obtain ⟨b', off', zb, eA, _, hzb, hcb⟩ := (HR.out wr HB.out).at_ (k := q + 1) (by omega)
            injection eA with eA
            injection eA with e1 e2
            subst e1 e2
            have HST := hid (M.pairs_step (k := k) (by rw [← hqk]; exact hza) (by rw [← hqk]; exact hzb))
            have hpl : (M.pairs (ns.take (2 * k))).length ≤ 1000000 := by rw [M.pairs_len, List.length_take]; omega
            have HPL := hid hpl
            have CA := hid (fun (W : World) (hW : Below w1.heap.size wr W) => (hW.cell (p := ⟨b, off + q, none⟩) hb).trans hca)
            obtain ⟨q1, hq1⟩ : ∃ q1, q + 1 = q1 := ⟨_, rfl⟩
            rw [hq1] at hcb
            have CB := hid (fun (W : World) (hW : Below w1.heap.size wr W) => (hW.cell (p := ⟨b, off + q1, none⟩) hb).trans hcb)
            have HQK := hid hqk
            have hlt2 : q1 < n := by omega
            have hq1p : 0 < q1 := by omega
            have hwr : IntKind.i64.wrap ((q : Int) + 1) = (q1 : Int) := by rw [IntWalk.i64_in _ (by omega)]; omega
            have hlt3 : q < n := by omega
            have d2 : decide (q < n) = true := by rw [decide_eq_true_eq]; omega
            obtain ⟨q2, hq2⟩ : ∃ q2, q2 = q + 2 := ⟨_, rfl⟩
            generalize hac : M.pairs (ns.take (2 * k)) = acc at *
            clear hza hzb hca hcb hpl hqk hac hm2
            go_wp2_with fail
            refine wp_region_held_drew (S := fun W => Below w1.heap.size wr W) (by kernel_rfl) (below_drew' (Below.refl _ _)) (fun hS => ?_)
            clear hS
            have hVs : Below w1.heap.size wr wr.drew := below_drew' (Below.refl _ _)
            have HOV := hid (show OwnP wr.drew w1.heap.size (.slice A2 acc.length c2) acc from HO.out)
            have hbV : w1.heap.size ≤ wr.drew.heap.size := hbs
            generalize hSV : World.drew wr = V at *
            clear hSV
            have hS := hVs
            refine takeH (i := 0) (v := ?_) 34 rfl rfl (by kernel_rfl) (by kernel_rfl) (by kernel_rfl) (fun _ _ _ h => h) (by rfl) ?hy0 hS ?rest0
            case hy0 => (intro W hW; clear hW; go_simp; first | done | with_reducible rfl)
            try simp only [Act.put, List.setIfInBounds_toArray, List.set_cons_zero, List.set_cons_succ]
            refine takeH (i := 1) (v := ?_) 35 rfl rfl (by kernel_rfl) (by kernel_rfl) (by kernel_rfl) (fun _ _ _ h => h) (by rfl) ?hy1 hS ?rest1
            case hy1 => (intro W hW; clear hW; go_simp; first | done | with_reducible rfl)
            try simp only [Act.put, List.setIfInBounds_toArray, List.set_cons_zero, List.set_cons_succ]
            refine takeH (i := 2) (v := ?_) 36 rfl rfl (by kernel_rfl) (by kernel_rfl) (by kernel_rfl) (fun _ _ _ h => h) (by rfl) ?hy2 hS ?rest2
            case hy2 => (intro W hW; clear hW; go_simp; first | done | with_reducible rfl)
            try simp only [Act.put, List.setIfInBounds_toArray, List.set_cons_zero, List.set_cons_succ]
            refine takeH (i := 3) (v := ?_) 37 rfl rfl (by kernel_rfl) (by kernel_rfl) (by kernel_rfl) (fun _ _ _ h => h) (by rfl) ?hy3 hS ?rest3
            case hy3 => (intro W hW; clear hW; go_simp; first | done | with_reducible rfl)
            try simp only [Act.put, List.setIfInBounds_toArray, List.set_cons_zero, List.set_cons_succ]
            refine takeH (i := 4) (v := ?_) 38 rfl rfl (by kernel_rfl) (by kernel_rfl) (by kernel_rfl) (fun _ _ _ h => h) (by rfl) ?hy4 hS ?rest4
            case hy4 => (intro W hW; have f0 := CA.out W hW; clear hW; go_simp; first | done | with_reducible rfl)
            try simp only [Act.put, List.setIfInBounds_toArray, List.set_cons_zero, List.set_cons_succ]
            refine takeH (i := 5) (v := ?_) 39 rfl rfl (by kernel_rfl) (by kernel_rfl) (by kernel_rfl) (fun _ _ _ h => h) (by rfl) ?hy5 hS ?rest5
            case hy5 => (intro W hW; clear hW; go_simp; first | done | with_reducible rfl)
            try simp only [Act.put, List.setIfInBounds_toArray, List.set_cons_zero, List.set_cons_succ]
            refine takeH (i := 6) (v := ?_) 40 rfl rfl (by kernel_rfl) (by kernel_rfl) (by kernel_rfl) (fun _ _ _ h => h) (by rfl) ?hy6 hS ?rest6
            case hy6 => (intro W hW; clear hW; go_simp; first | done | with_reducible rfl)
            try simp only [Act.put, List.setIfInBounds_toArray, List.set_cons_zero, List.set_cons_succ]
            refine takeH (i := 7) (v := ?_) 41 rfl rfl (by kernel_rfl) (by kernel_rfl) (by kernel_rfl) (fun _ _ _ h => h) (by rfl) ?hy7 hS ?rest7
            case hy7 => (intro W hW; clear hW; go_simp; first | done | with_reducible rfl)
            try simp only [Act.put, List.setIfInBounds_toArray, List.set_cons_zero, List.set_cons_succ]
            refine takeH (i := 8) (v := ?_) 42 rfl rfl (by kernel_rfl) (by kernel_rfl) (by kernel_rfl) (fun _ _ _ h => h) (by rfl) ?hy8 hS ?rest8
            case hy8 => (intro W hW; clear hW; go_simp; first | done | with_reducible rfl)
            try simp only [Act.put, List.setIfInBounds_toArray, List.set_cons_zero, List.set_cons_succ]
            refine takeH (i := 9) (v := ?_) 43 rfl rfl (by kernel_rfl) (by kernel_rfl) (by kernel_rfl) (fun _ _ _ h => h) (by rfl) ?hy9 hS ?rest9
            case hy9 => (intro W hW; have f0 := CB.out W hW; clear hW; go_simp; first | done | with_reducible rfl)
            try simp only [Act.put, List.setIfInBounds_toArray, List.set_cons_zero, List.set_cons_succ]
            refine takeH (i := 10) (v := ?_) 44 rfl rfl (by kernel_rfl) (by kernel_rfl) (by kernel_rfl) (fun _ _ _ h => h) (by rfl) ?hy10 hS ?rest10
            case hy10 => (intro W hW; clear hW; go_simp; first | done | with_reducible rfl)
            try simp only [Act.put, List.setIfInBounds_toArray, List.set_cons_zero, List.set_cons_succ]
            refine loneH (i := 11) 45 rfl rfl (by kernel_rfl) (by rfl) (fun K hK => ?_)
            go_simp
            refine hK.out _ _ (hS.alloc hbV _) (fun hS => ?_)
            clear hK K
            try simp only [Act.put, List.setIfInBounds_toArray, List.set_cons_zero, List.set_cons_succ]
            refine loneH (i := 12) 46 rfl rfl (by kernel_rfl) (by rfl) (fun K hK => ?_)
            refine wp_appP (.tmp 34) (.tmp 45) rfl w1.heap.size _ acc za zb (by simp [Act.eval]) (OwnP.alloc HOV.out _) (Nat.le_trans hbV (by simp)) V.heap.size (by simp [Act.eval]) (heap_alloc_new V _) HPL.out ?_
            intro v9 w9 ho9 hb9
            have hS9 : Below w1.heap.size wr w9 := hS.trans hb9.out
            refine hK.out _ _ (hS.trans hb9.out) (fun hS => ?_)
            clear hK K
            try simp only [Act.put, List.setIfInBounds_toArray, List.set_cons_zero, List.set_cons_succ]
            obtain ⟨A9, c9, hv9, _, _⟩ := ho9.out.rd
            subst hv9
            refine takeH (i := 13) (v := ?_) 6 rfl rfl (by kernel_rfl) (by kernel_rfl) (by kernel_rfl) (fun _ _ _ h => h) (by rfl) ?hy13 hS ?rest13
            case hy13 => (intro W hW; clear hW; go_simp; first | done | with_reducible rfl)
            try simp only [Act.put, List.setIfInBounds_toArray, List.set_cons_zero, List.set_cons_succ]
            refine wpAnyH_done (by kernel_rfl) ?_ _
            try simp only [Act.put, List.setIfInBounds_toArray, List.set_cons_zero, List.set_cons_succ]
            go_wp2_with fail
            go_roundw
            case rel => exact ⟨q2, k + 1, (by subst hq2; first | rfl | go_num), by have := HQK.out; omega, by omega, hid (by rw [HST.out]; have h := ho9.out; rw [List.length_append, List.length_singleton] at h; exact h), hid (HB.out.trans hS9)⟩
            case measure => simp [RowKit.intOf] <;> omega
          · obtain rfl : k = m := by omega
            have d2 : decide (q < n) = false := by rw [decide_eq_false_iff_not]; omega
            have ho := HO.out
            rw [List.take_of_length_le (by rw [HN.out]; omega)] at ho ⊢
            have HO2 := hid ho
            clear HO ho
            go_wp2_with fail
            go_ret2
            exact ⟨_, by rw [HPY.out]; rfl, by rw [HPY.out]; exact OwnP.lower HO2.out HB1.out.size, HB1.out.trans (HB.out.mono HB1.out.size)⟩
end Go.Proofs.YtjpflljmeaihgaaDoor
