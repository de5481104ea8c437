/-
  The walk of PaxJoins.
-/
import Derived.Test.YtefkgkdocglgaaaDoorPaxBack
import Derived.Test.YtefkgkdocglgaaaDoorPaxMergeW
namespace Go.Proofs.YtefkgkdocglgaaaDoor
open Go.RowKit Go.Shelf

/-- append of bytes onto bytes of the call's own. -/
theorem wpList_appBs {W : World} {ops : Array Oper} {rest : List Oper} {o : Oper} {a : Act} {Q : Exit → Act → World → Prop} (hgd : o.guard = none) (s x : Operand)
    (ho : o.op = .call { callee := .builtin .append, args := #[s, x], argTypes := #[22, 22] })
    (base : Nat) (v : Value) (l m : List UInt8) (hs : a.eval s = v) (hown : OwnB W base v l) (hbase : base ≤ W.heap.size)
    (A : Option Addr) (c : Nat) (hx : a.eval x = .slice A m.length c) (B : Nat) (hr : Rd W B A m.length (ints m)) (hl : l.length + m.length ≤ 100000000)
    (h : ∀ v' w' l', Hid (l' = l ++ m) → l'.length = l.length + m.length → OwnB w' base v' l' → Below base W w' → W.grownBy w' v.ownBlock → wpList Tryd.prog ops Q rest (a.put o.dst v') w') :
    wpList Tryd.prog ops Q (o :: rest) a W := by
  obtain ⟨i0, hi, hz0, hz1, hz2⟩ := info_parts infoB
  have hrd := hr.reads
  rw [← byteCells_ints] at hrd
  refine wpList_append_any W hgd s x 22 ho base 5 i0 _ 1 1 Tryd.underlying22 hi hz0 hz1 hz2 rfl (by decide) v l.length (Lib.byteCells l) hs hown B A m.length c (Lib.byteCells m) hx hrd ?_ (by unfold maxLen; omega) (by omega) hbase ?_
  · intro u hu
    unfold Lib.byteCells at hu
    obtain ⟨b, _, rfl⟩ := List.mem_map.1 hu
    rfl
  · intro v' w' hown' hg hat
    refine h v' w' _ (Lib.hid rfl) (by simp) ?_ ?_ hg
    · unfold OwnB
      rw [List.length_append, show Lib.byteCells (l ++ m) = Lib.byteCells l ++ Lib.byteCells m from by simp [Lib.byteCells]]
      exact hown'
    · exact (Below.refl _ W).grown hg hbase (fun g hg' => ownsRow_block hown g hg')

theorem Good.fits {rs : List R2} (h : Good rs) : Fits rs := fun r hr => by have := (h r hr).2.1; unfold maxLen; omega

set_option maxRecDepth 100000 in
set_option maxHeartbeats 8000000 in
theorem paxJoins_any (A : Option Addr) (n c : Nat) (zs : List Int) (A' : Option Addr) (n' c' : Nat) (zs' : List Int) (w : World) (h : Rd w w.heap.size A n zs) (hn : n ≤ maxLen) (h' : Rd w w.heap.size A' n' zs') (hn' : n' ≤ maxLen) (tb : TB w.heap.size w) :
    Calls Tryd.prog 3 #[.slice A n c, .slice A' n' c'] w fun e w' => e = .returned (.bool true) ∧ Below w.heap.size w w' := by
  have HT := Lib.hid tb
  have HR := Lib.hid h
  have HR' := Lib.hid h'
  clear tb h h'
  go_enter Tryd.func3, Tryd.ntmps3
  go_wp2_with fail
  refine (recs_any A n c zs 6 (by omega) hn w HR.out).mono ?_
  rintro e w1 ⟨A1, c1, l, rfl, hr1, hc1, hm1, hl1, hg1, b1⟩
  have HR1 := Lib.hid hr1
  have HG1 := Lib.hid hg1
  clear hr1 hg1
  go_wp2_with fail
  refine (recs_any A' n' c' zs' 6 (by omega) hn' w1 ((HR'.out.below b1).more b1.size)).mono ?_
  rintro e w2 ⟨A2, c2, m, rfl, hr2, hc2, hm2, hl2, hg2, hb2⟩
  have b2 := b1.trans (hb2.mono b1.size)
  have HR1b := Lib.hid ((HR1.out.below hb2).more hb2.size)
  have HR2b := Lib.hid hr2
  have HG2 := Lib.hid hg2
  have s12 := hb2.size
  clear hr2 hg2 HR1 hb2
  go_wp2_with fail
  refine (print_fine (HG1.out.fine (by omega)) b2 HT.out HR1b.out).mono ?_
  rintro e w3 ⟨A3, c3, P, rfl, hP, hr3, hc3, hm3, ho3, hb3⟩
  have b3 := b2.trans (hb3.mono b2.size)
  have b23 := hb3
  have s23 := hb3.size
  have HO3 := Lib.hid ho3
  have HP := Lib.hid hP.out
  clear hr3 ho3 hb3 hP
  go_wp2_with fail
  refine (print_fine (HG2.out.fine (by omega)) b3 HT.out ((HR2b.out.below b23).more s23)).mono ?_
  rintro e w4 ⟨A4, c4, P', rfl, hP', hr4, hc4, hm4, ho4, hb4⟩
  have b4 := b3.trans (hb4.mono b3.size)
  have s34 := hb4.size
  have b24 := b23.trans (hb4.mono s23)
  have s24 := b24.size
  have HO3d := Lib.hid (HO3.out.below hb4)
  have hk3 : ∀ k, (Value.slice A3 P.length c3).ownBlock = some k → k < w3.heap.size := fun k hk => (World.ownsRow.lt HO3.out k hk).2
  have HK3 := Lib.hid hk3
  have HP' := Lib.hid hP'.out
  have HR4 := Lib.hid hr4
  have HR1d := Lib.hid ((HR1b.out.below b24).more s24)
  have HR2d := Lib.hid ((HR2b.out.below b24).more s24)
  clear hr4 ho4 hb4 hP' HO3 hk3
  have hlm : l.length + m.length ≤ 100000000 := by omega
  have hl9 : l.length ≤ 100000000 := by omega
  have p1 : P.length ≤ 600 := by have := (good_small HG1.out 6 hl1 (by omega)).2; rw [HP.out]; omega
  have p2 : P'.length ≤ 600 := by have := (good_small HG2.out 6 hl2 (by omega)).2; rw [HP'.out]; omega
  have hp9 : P.length + P'.length ≤ 100000000 := by omega
  go_wp2_with (at_builtin; refine wpList_appRs rfl (.tmp 29) (.tmp 30) rfl w4.heap.size (.slice none 0 0) [] l rfl (OwnR.nil _ _) (Nat.le_refl _) A1 c1 rfl w4.heap.size HR1d.out (by rw [List.length_nil]; omega) ?_)
  intro v5 w5 a5 hE5 hn5 o5 hb5 _
  have hE5' : a5 = l := by have := hE5.out; simpa using this
  subst hE5'
  have s45 := hb5.size
  clear hE5 hn5
  go_wp2_with (at_builtin; refine wpList_appRs rfl (.tmp 32) (.tmp 33) rfl w4.heap.size v5 a5 m rfl o5 s45 A2 c2 rfl w4.heap.size (HR2d.out.below hb5) hlm ?_)
  intro v6 w6 all hE6 hn6 o6 hb6 _
  have hb46 := hb5.trans hb6
  have s46 := hb46.size
  have hP6 := HO3d.out.below hb46
  have hr6 := HR4.out.below hb46
  obtain ⟨A6, c6, rfl, hr6a, hc6, hm6⟩ := o6.rd
  have HO6 := Lib.hid o6
  have HAL := Lib.hid hE6.out
  have han : all.length ≤ 12 := by omega
  have b26 := b24.trans (hb46.mono s24)
  clear o6 hr6a o5 hb5 hb6 hE6 HO3d hn6
  go_wp2_with (at_builtin; refine wpList_appBs rfl (.tmp 35) (.tmp 36) rfl w2.heap.size (.slice A3 P.length c3) P P' rfl hP6 (by omega) A4 c4 rfl w4.heap.size hr6 hp9 ?_)
  intro v7 w7 PP hE7 hn7 o7 hb7 hg7
  have o67 : OwnR w7 w4.heap.size (.slice A6 all.length c6) all := World.ownsRow.kept HO6.out hg7 (by
    rcases ho : (Value.slice A6 all.length c6).ownBlock with _ | g
    · exact .inl rfl
    · refine .inr fun e => ?_
      have h1 := (World.ownsRow.lt HO6.out g ho).1
      have h2 := HK3.out g e.symm
      omega)
  have b27 := b26.trans hb7
  have b7 := b2.trans (b27.mono b2.size)
  obtain ⟨A7, c7, rfl, hr7, hc7, hm7⟩ := o7.rd
  obtain ⟨A6', c6', he6, hr67, _, _⟩ := o67.rd
  obtain ⟨rfl, rfl⟩ : A6 = A6' ∧ c6 = c6' := by injection he6 with e1 _ e2; exact ⟨e1, e2⟩
  have HR7 := Lib.hid hr67
  have hPP : PP = M.lines (rcs all) := by rw [hE7.out, HAL.out, rcs_app, M.lines_app, HP.out, HP'.out]
  have hga : Good all := by rw [HAL.out]; exact HG1.out.app HG2.out
  have HGA := Lib.hid hga
  have HPA := Lib.hid (parse_fine (hga.fine (by omega)) hPP hc7 b7 HT.out hr7)
  clear hn7 hr67 o67 he6 o7 hr7 hE7 hPP hga hP6 hr6 HO6 hb7 hg7 HR4 HK3
  go_wp2_with fail
  refine HPA.out.mono ?_
  rintro e w8 ⟨A8, c8, xs, rfl, hxs, hr8, hc8, hm8, ho8, hb8⟩
  have hxe : xs = all := rcs_inj hxs.out
  subst hxe
  have b8 := b7.trans (hb8.mono b7.size)
  have b28 := b27.trans (hb8.mono b27.size)
  have HR7' := Lib.hid ((HR7.out.below hb8).more hb8.size)
  have hs8 := same_any A8 c8 xs A6 c6 xs (by omega) (by omega) w8.heap.size w8 hr8 HR7'.out
  rw [show decide (xs = xs) = true from decide_eq_true rfl] at hs8
  have HS8 := Lib.hid hs8
  clear hxs hr8 ho8 hb8 HR7 HPA hs8
  go_wp2_with fail
  refine HS8.out.mono ?_
  rintro e w9 ⟨rfl, hb9⟩
  have b9 := b8.trans (hb9.mono b8.size)
  have b29 := b28.trans (hb9.mono b28.size)
  have HR9 := Lib.hid ((HR7'.out.below hb9).more hb9.size)
  clear hb9 HS8 HR7'
  go_wp2_with fail
  refine (known_any w.heap.size w9 b9.size (HT.out.on b9)).mono ?_
  rintro e w10 ⟨rfl, hb10⟩
  have b10 := b9.trans (hb10.mono b9.size)
  have b210 := b29.trans (hb10.mono b29.size)
  have HR10 := Lib.hid ((HR9.out.below hb10).more hb10.size)
  have hxl : xs.length ≤ 1000000 := by omega
  have hll : a5.length ≤ 1000000 := by omega
  have hml : m.length ≤ 1000000 := by omega
  have HC10 := Lib.hid (merge_any A6 c6 xs none 0 [] hxl (Nat.zero_le _) HGA.out.fits (fun r hr => by cases hr) w10 HR10.out RdR.none_)
  clear hb10 HR9
  go_wp2_with fail
  refine HC10.out.mono ?_
  rintro e w11 ⟨A11, c11, r1, rfl, hr11, hc11, hm11, he11, hn11, hb11⟩
  have b11 := b10.trans (hb11.mono b10.size)
  have b211 := b210.trans (hb11.mono b210.size)
  have HR11 := Lib.hid hr11
  have HE11 := Lib.hid he11
  have h1l : r1.length ≤ 1000000 := by simp only [List.length_nil] at hn11; omega
  have HC11 := Lib.hid (merge_any A1 c1 a5 A2 c2 m hll hml HG1.out.fits HG2.out.fits w11 ((HR1b.out.below b211).more b211.size) ((HR2b.out.below b211).more b211.size))
  clear hr11 he11 hn11 hb11 HR10 HC10
  go_wp2_with fail
  refine HC11.out.mono ?_
  rintro e w12 ⟨A12, c12, r2, rfl, hr12, hc12, hm12, he12, hn12, hb12⟩
  have b12 := b11.trans (hb12.mono b11.size)
  have h2l : r2.length ≤ 1000000 := by omega
  obtain rfl : r1 = r2 := rcs_inj (by rw [HE11.out, he12, HAL.out, rcs_app, show rcs [] = [] from rfl, M.merge_app])
  have hs12 := same_any A11 c11 r1 A12 c12 r1 h1l h1l w12.heap.size w12 ((HR11.out.below hb12).more hb12.size) hr12
  rw [show decide (r1 = r1) = true from decide_eq_true rfl] at hs12
  have HS12 := Lib.hid hs12
  clear hr12 he12 hn12 hb12 HR11 HC11 hs12
  go_wp2_with fail
  refine HS12.out.mono ?_
  rintro e w13 ⟨rfl, hb13⟩
  have b13 := b12.trans (hb13.mono b12.size)
  clear hb13
  go_wp2
  go_ret
  exact ⟨rfl, b13⟩
end Go.Proofs.YtefkgkdocglgaaaDoor
