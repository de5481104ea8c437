/-
  The walk of PaxOver.
-/
import Derived.Test.YtefkgkdocglgaaaDoorPaxJoins
import Derived.Test.YtefkgkdocglgaaaDoorPaxFind
import Derived.Laws.Cover1
import Derived.Sort.Walk0
namespace Go.Proofs.YtefkgkdocglgaaaDoor
open Go.RowKit Go.Shelf

namespace M
theorem puts_mem {lt : List UInt8 → List UInt8 → Bool} (m : List Rc) : ∀ (l : List Rc) {y : Rc}, y ∈ puts lt l m → y ∈ l ∨ y ∈ m := by
  induction m with
  | nil => intro l y h; exact .inl h
  | cons r m ih =>
    intro l y h
    rcases ih _ h with h | h
    · rcases put_mem h with rfl | h
      · exact .inr (by simp)
      · exact .inl h
    · exact .inr (List.mem_cons_of_mem _ h)
theorem merge_mem {lt : List UInt8 → List UInt8 → Bool} {l o : List Rc} {y : Rc} (h : y ∈ merge lt l o) : y ∈ l ∨ y ∈ o := by
  rcases puts_mem _ _ (List.mem_filter.1 h).1 with h | h
  · rcases puts_mem _ _ h with h | h
    · cases h
    · exact .inl h
  · exact .inr h
theorem rising_at {lt : List UInt8 → List UInt8 → Bool} : ∀ {l : List Rc} (h : Rising lt l) {k : Nat} (hk : k + 1 < l.length), lt (l[k]).1 (l[k + 1]).1 = true
  | [], _, k, hk => absurd hk (by simp)
  | x :: l, h, 0, hk => by
    have hk' : 0 < l.length := by simp at hk; omega
    exact h.1 _ (List.getElem_mem hk')
  | x :: l, h, k + 1, hk => by
    have hk' : k + 1 < l.length := by simp at hk; omega
    exact rising_at h.2 hk'
end M

theorem merged_fits {ms l o : List R2} (h : rcs ms = M.merge ltB (rcs l) (rcs o)) (hl : Good l) (ho : Good o) : ∀ r ∈ ms, r.1.size + r.2.size ≤ 30 := by
  intro r hr
  have h1 : rc r ∈ M.merge ltB (rcs l) (rcs o) := by rw [← h]; exact List.mem_map_of_mem hr
  have key : ∀ (x : List R2), Good x → rc r ∈ rcs x → r.1.size + r.2.size ≤ 30 := by
    intro x hx hm
    obtain ⟨q, hq, he⟩ := List.mem_map.1 hm
    have h2 := (hx q hq).2.1
    have e1 : (tl q.1).length = (tl r.1).length := congrArg (fun z : M.Rc => z.1.length) he
    have e2 : (tl q.2).length = (tl r.2).length := congrArg (fun z : M.Rc => z.2.length) he
    rw [tl_len, tl_len] at e1 e2
    omega
  rcases M.merge_mem h1 with h1 | h1
  · exact key _ hl h1
  · exact key _ ho h1

set_option maxRecDepth 100000 in
set_option maxHeartbeats 8000000 in
theorem paxOver_any (A : Option Addr) (n c : Nat) (zs : List Int) (A' : Option Addr) (n' c' : Nat) (zs' : List Int) (w : World) (h : Rd w w.heap.size A n zs) (hn : n ≤ maxLen) (h' : Rd w w.heap.size A' n' zs') (hn' : n' ≤ maxLen) (tb : TB w.heap.size w) :
    Calls Tryd.prog 9 #[.slice A n c, .slice A' n' c'] w fun e w' => e = .returned (.bool true) ∧ Below w.heap.size w w' := by
  have HT := Lib.hid tb
  have HR := Lib.hid h
  have HR' := Lib.hid h'
  clear tb h h'
  go_enter Tryd.func9, Tryd.ntmps9
  go_wp2_with fail
  refine (recs_any A n c zs 8 (by omega) hn w HR.out).mono ?_
  rintro e w1 ⟨A1, c1, l, rfl, hr1, hc1, hm1, hl1, hg1, b1⟩
  have HR1 := Lib.hid hr1
  have HG1 := Lib.hid hg1
  clear hr1 hg1
  go_wp2_with fail
  refine (recs_any A' n' c' zs' 8 (by omega) hn' w1 ((HR'.out.below b1).more b1.size)).mono ?_
  rintro e w2 ⟨A2, c2, o, rfl, hr2, hc2, hm2, hl2, hg2, hb2⟩
  have b2 := b1.trans (hb2.mono b1.size)
  have HR1b := Lib.hid ((HR1.out.below hb2).more hb2.size)
  have HR2b := Lib.hid hr2
  have HG2 := Lib.hid hg2
  have hll : l.length ≤ 1000000 := by omega
  have hol : o.length ≤ 1000000 := by omega
  clear hr2 hg2 HR1 hb2
  go_wp2_with fail
  refine (merge_any A1 c1 l A2 c2 o hll hol HG1.out.fits HG2.out.fits w2 HR1b.out HR2b.out).mono ?_
  rintro e w3 ⟨A3, c3, ms, rfl, hr3, hc3, hm3, he3, hn3, hb3⟩
  have b3 := b2.trans (hb3.mono b2.size)
  have b23 := hb3
  have hml : ms.length ≤ 16 := by omega
  have HR3 := Lib.hid hr3
  have HE := Lib.hid he3
  have HF3 := Lib.hid (merged_fits he3 HG1.out HG2.out)
  clear hr3 he3 hn3 hb3 hc3
  go_wp2_with fail
  go_loopw [8, 9, 10] (fun i _ _ wr => ∃ k : Nat, i = .int .i64 k ∧ k ≤ ms.length ∧ Below w3.heap.size w3 wr) (fun i _ _ _ => ms.length - (intOf i).toNat)
  case atStart => exact ⟨0, rfl, Nat.zero_le _, Below.refl _ _⟩
  case round =>
    obtain ⟨k, rfl, hk, hb⟩ := hrel
    have hbs := hb.size
    by_cases hlt : k < ms.length
    · obtain ⟨b, off, rfl, hbb, hc1, hc2⟩ := HR3.out.at_ hlt
      have hmem : rc ms[k] ∈ M.merge ltB (rcs l) (rcs o) := by rw [← HE.out]; exact List.mem_map_of_mem (List.getElem_mem hlt)
      have hval := M.merge_values _ _ _ hmem
      have hfind := fun v hv => M.merge_find ltB_ord hmem (v := v) hv
      have hfit := HF3.out _ (List.getElem_mem hlt)
      obtain ⟨⟨s, t⟩, hr⟩ : ∃ r, ms[k] = r := ⟨_, rfl⟩
      have HRK := Lib.hid hr
      rw [hr] at hc1 hc2 hval hfind hfit
      dsimp only [rc] at hc1 hc2 hval hfind hfit
      have HM := Lib.hid hfind
      have d1 := fun (W : World) (hW : Below w3.heap.size w3 W) => (hW.cell (p := ⟨b, off + k * 2, none⟩) hbb).trans hc1
      have d2 := fun (W : World) (hW : Below w3.heap.size w3 W) => (hW.cell (p := ⟨b, off + k * 2 + 1, none⟩) hbb).trans hc2
      have b2r := b23.trans (hb.mono b23.size)
      have HC := Lib.hid ((callsIn_wide (n := 5)).1 (find_in A2 c2 o s hol wr ((HR2b.out.below b2r).more b2r.size)))
      have e1 := d1 wr hb
      have ht : t.toList.isEmpty = false := by
        rw [tl_eq]
        cases h : tl t with
        | nil => exact absurd h hval
        | cons x y => rfl
      have D1 := Lib.hid d1
      have D2 := Lib.hid d2
      have HV := Lib.hid ht
      clear hc1 hc2 hval hfind hr d1 d2 hmem ht
      have hprev : 0 < k → ∃ (j : Nat) (q : ByteArray), j < ms.length ∧ (k : Int) - 1 = (j : Int) ∧ (∀ W : World, Below w3.heap.size w3 W → W.cell? ⟨b, off + j * 2, none⟩ = some (.string q)) ∧ ltB (tl q) (tl s) = true := by
        intro h0
        obtain ⟨j, rfl⟩ : ∃ j, k = j + 1 := ⟨k - 1, by omega⟩
        obtain ⟨b', off', hA, hbb', hp1, hp2⟩ := HR3.out.at_ (show j < ms.length by omega)
        injection hA with hA
        injection hA with hA1 hA2 hA3
        subst hA1; subst hA2
        refine ⟨j, ms[j].1, by omega, by omega, fun W hW => (hW.cell (p := ⟨b, off + j * 2, none⟩) hbb).trans hp1, ?_⟩
        have hr := HRK.out
        have hris := M.rising_at (l := rcs ms) (by rw [HE.out]; exact M.merge_rising ltB_ord _ _) (k := j) (by rw [rcs_len]; exact hlt)
        simp only [rcs, List.getElem_map, rc] at hris
        rw [hr] at hris
        exact hris
      have HP := Lib.hid hprev
      clear hprev
      by_cases hk0 : k = 0
      case' pos =>
        subst hk0
        simp only [Nat.zero_mul, Nat.add_zero] at e1 D1 D2
      case' neg =>
        have hk1 : 0 < k := by omega
        have hk2 : (0 : Int) < (k : Int) := by omega
        obtain ⟨j, q, hjl, hkj, dq, hlq⟩ := HP.out hk1
        have hwr : IntKind.i64.wrap (j : Int) = (j : Int) := IntWalk.i64_in _ (by omega)
        have hbl : Op.bytesLess q.toList s.toList = true := by rw [bytesLess_eq, tl_eq, tl_eq]; exact hlq
        have DQ := Lib.hid dq
        clear hlq
        clear hk0 dq
        by_cases hj0 : j = 0
        case' pos =>
          subst hj0
          simp only [Nat.zero_mul, Nat.add_zero, Int.natCast_zero] at DQ hkj hwr
        case' neg =>
          have hj1 : 0 < j := by omega
          clear hj0
      all_goals
        go_wp2_with fail
        refine HC.out.mono ?_
        rintro e w4 ⟨v, is, rfl, hv, his, hb4⟩
        have b4 := hb.trans (hb4.mono hbs)
        have f1 := D1.out w4 b4
        have f2 := D2.out w4 b4
        have hv0 := HV.out
        clear hb4 e1
        cases hf : M.find (rcs o) (tl s) with
        | none =>
          rw [hf] at his
          obtain rfl : is = false := his
          clear hv hf
          try have fq := DQ.out w4 b4
          go_wp2_with fail
          go_quiet (fail)
          go_wp2
          go_roundw
          case rel => exact ⟨_, (show Value.int .i64 _ = Value.int .i64 ((_ + 1 : Nat) : Int) by go_num), by omega, below_drewN' b4 _⟩
          case measure => simp [intOf]; omega
        | some u =>
          have hu := HM.out u hf
          rw [hf] at his hv
          obtain rfl : is = true := his
          obtain rfl : v = t := tl_inj (hv.trans hu)
          clear hv hf hu
          try have fq := DQ.out w4 b4
          go_wp2_with fail
          go_quiet (fail)
          go_wp2
          go_roundw
          case rel => exact ⟨_, (show Value.int .i64 _ = Value.int .i64 ((_ + 1 : Nat) : Int) by go_num), by omega, below_drewN' b4 _⟩
          case measure => simp [intOf]; omega
    · have b2r := b23.trans (hb.mono b23.size)
      have b3r := b2.trans (b2r.mono b2.size)
      have hms : ms.length ≤ 1000000 := by omega
      have hfit : Fits ms := fun r hr => by have := HF3.out r hr; unfold maxLen; omega
      have HFT := Lib.hid hfit
      have hris : M.Rising ltB (rcs ms) := by rw [HE.out]; exact M.merge_rising ltB_ord _ _
      have hvals : ∀ r ∈ rcs ms, r.2 ≠ [] := by rw [HE.out]; exact M.merge_values _ _
      have hself := M.merge_self ltB_ord hris hvals
      have hover : M.merge ltB (rcs ms) (rcs o) = rcs ms := by rw [HE.out]; exact M.merge_over ltB_ord _ _
      have HSELF := Lib.hid hself
      have HOVER := Lib.hid hover
      have HRm := Lib.hid (HR3.out.below hb)
      have HRo := Lib.hid (HR2b.out.below b2r)
      have s3 := hbs
      have s2 := b2r.size
      have hke : k = ms.length := by omega
      subst hke
      clear hfit hris hvals hself hover hb hbs hlt hk
      go_wp2_with fail
      refine (known_any w.heap.size wr b3r.size (HT.out.on b3r)).mono ?_
      rintro e w5 ⟨rfl, hb5⟩
      have b5 := b3r.trans (hb5.mono b3r.size)
      have t5 := hb5.size
      have HRm5 := Lib.hid ((HRm.out.more s3).below hb5)
      have HRo5 := Lib.hid ((HRo.out.more s2).below hb5)
      have HC5 := Lib.hid (merge_any A3 c3 ms none 0 [] hms (Nat.zero_le _) HFT.out (fun r hr => by cases hr) w5 (HRm5.out.more t5) RdR.none_)
      clear hb5 HRm HRo
      go_wp2_with fail
      refine HC5.out.mono ?_
      rintro e w6 ⟨A6, c6, r6, rfl, hr6, _, _, he6, _, hb6⟩
      obtain rfl : r6 = ms := rcs_inj (he6.trans HSELF.out.1)
      have b6 := b5.trans (hb6.mono b5.size)
      have t6 := hb6.size
      have HRm6 := Lib.hid ((HRm5.out.more t5).below hb6)
      have HRo6 := Lib.hid ((HRo5.out.more t5).below hb6)
      have hs6 := same_any A6 c6 r6 A3 c3 r6 hms hms w6.heap.size w6 hr6 (HRm6.out.more t6)
      rw [show decide (r6 = r6) = true from decide_eq_true rfl] at hs6
      have HS6 := Lib.hid hs6
      clear hb6 hr6 he6 hs6 HRm5 HRo5 HC5
      go_wp2_with fail
      refine HS6.out.mono ?_
      rintro e w7 ⟨rfl, hb7⟩
      have b7 := b6.trans (hb7.mono b6.size)
      have t7 := hb7.size
      have HRm7 := Lib.hid ((HRm6.out.more t6).below hb7)
      have HRo7 := Lib.hid ((HRo6.out.more t6).below hb7)
      have HC7 := Lib.hid (merge_any none 0 [] A3 c3 r6 (Nat.zero_le _) hms (fun r hr => by cases hr) HFT.out w7 RdR.none_ (HRm7.out.more t7))
      clear hb7 HRm6 HRo6 HS6
      go_wp2_with fail
      refine HC7.out.mono ?_
      rintro e w8 ⟨A8, c8, r8, rfl, hr8, _, _, he8, _, hb8⟩
      obtain rfl : r8 = r6 := rcs_inj (he8.trans HSELF.out.2)
      have b8 := b7.trans (hb8.mono b7.size)
      have t8 := hb8.size
      have HRm8 := Lib.hid ((HRm7.out.more t7).below hb8)
      have HRo8 := Lib.hid ((HRo7.out.more t7).below hb8)
      have hs8 := same_any A8 c8 r8 A3 c3 r8 hms hms w8.heap.size w8 hr8 (HRm8.out.more t8)
      rw [show decide (r8 = r8) = true from decide_eq_true rfl] at hs8
      have HS8 := Lib.hid hs8
      clear hb8 hr8 he8 hs8 HRm7 HRo7 HC7
      go_wp2_with fail
      refine HS8.out.mono ?_
      rintro e w9 ⟨rfl, hb9⟩
      have b9 := b8.trans (hb9.mono b8.size)
      have t9 := hb9.size
      have HRm9 := Lib.hid ((HRm8.out.more t8).below hb9)
      have HRo9 := Lib.hid ((HRo8.out.more t8).below hb9)
      have HC9 := Lib.hid (merge_any A3 c3 r8 A2 c2 o hms hol HFT.out HG2.out.fits w9 (HRm9.out.more t9) (HRo9.out.more t9))
      clear hb9 HRm8 HRo8 HS8
      go_wp2_with fail
      refine HC9.out.mono ?_
      rintro e w10 ⟨A10, c10, r10, rfl, hr10, _, _, he10, _, hb10⟩
      obtain rfl : r10 = r8 := rcs_inj (he10.trans HOVER.out)
      have b10 := b9.trans (hb10.mono b9.size)
      have t10 := hb10.size
      have HRm10 := Lib.hid ((HRm9.out.more t9).below hb10)
      have hs10 := same_any A10 c10 r10 A3 c3 r10 hms hms w10.heap.size w10 hr10 (HRm10.out.more t10)
      rw [show decide (r10 = r10) = true from decide_eq_true rfl] at hs10
      have HS10 := Lib.hid hs10
      clear hb10 hr10 he10 hs10 HRm9 HRo9 HC9
      go_wp2_with fail
      refine HS10.out.mono ?_
      rintro e w11 ⟨rfl, hb11⟩
      have b11 := b10.trans (hb11.mono b10.size)
      clear hb11
      go_wp2
      go_ret
      exact ⟨rfl, b11⟩
end Go.Proofs.YtefkgkdocglgaaaDoor
