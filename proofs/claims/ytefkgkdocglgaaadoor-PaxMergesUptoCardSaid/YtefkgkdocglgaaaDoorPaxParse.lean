/-
  Parse: the program's answer.
-/
import Derived.Test.YtefkgkdocglgaaaDoorPaxRecord
import Derived.Test.YtefkgkdocglgaaaDoorPaxSame
import Derived.Deep.LoopGhost
namespace Go.Proofs.YtefkgkdocglgaaaDoor
open Go.RowKit Go.Shelf

/-- What a Parse answers. -/
def ParseIs (k : IntKind) (l : List UInt8) (w : World) (e : Ending) (w' : World) : Prop :=
  ∃ v rs, e = .returned (.tuple #[v, .int k (M.parseE l)]) ∧ OwnR w' w.heap.size v rs ∧ rcs rs = M.parseL l ∧ Below w.heap.size w w'
theorem ParseIs.no {k : IntKind} {l : List UInt8} {w w' : World} {n : Nat} (h : M.parseE l = n) (hn : n ≠ 0) (hb : Below w.heap.size w w') : ParseIs k l w (.returned (.tuple #[.slice none 0 0, .int k n])) w' := by
  refine ⟨_, [], by rw [h], OwnR.nil _ _, ?_, hb⟩
  rw [M.parseL_no (by rw [h]; exact hn)]
  rfl

theorem slice_rest (w : World) (a : Option Addr) (len cap l : Nat) (h1 : l ≤ len) :
    (Instr.slice 22 (.slice a len cap) (some (.int .i64 l)) none none).run Tryd.prog w = .ok (.slice (cutA a cap l) (len - l) (cap - l)) w := by
  have ht : Tryd.prog.underlying 22 = some (.slice (Tryd.prog.elem 22)) := by rw [elemB]; exact Tryd.underlying22
  rw [run_slice_l w 22 a len cap ht .i64 l (by omega) (by omega), elemB]
  have hs : (sizeOf 5).run Tryd.prog w = .ok 1 w := by
    obtain ⟨i, hi, hz⟩ := Option.map_eq_some_iff.1 cellsB
    simp [sizeOf, typeInfo, hi, hz]
  rw [hs]
  simp [Result.andThen, sliced, cutA]

/-- Between two lines. -/
def LineAt (l : List UInt8) (w : World) (g : Nat) (s0 s4 : Value) (wx : World) : Prop :=
  ∃ A c rest rs done, s0 = .slice A rest.length c ∧ rest.length = g ∧ Rd wx w.heap.size A rest.length (ints rest) ∧ rest.length ≤ c ∧ rest.length ≤ l.length ∧ OwnR wx w.heap.size s4 rs ∧ rs.length + rest.length ≤ l.length ∧
    Hid (M.AtRest l done (rcs rs) rest) ∧ Below w.heap.size w wx
/-- Between two bytes. -/
def DigitAt (rest : List UInt8) (wr : World) (g : Nat) (s18 s5 : Value) (wy : World) : Prop :=
  ∃ i W : Nat, i + g = rest.length ∧ s18 = .int .i64 i ∧ s5 = .int .i64 W ∧ Hid (M.digs rest i) ∧ Hid (M.num (rest.take i) 0 = W) ∧ W ≤ 10 * rest.length + 9 ∧ wr = wy

theorem digs_succ {rest : List UInt8} {i : Nat} (hi : i < rest.length) (h : M.digs rest i) (h2 : M.isDig rest[i] = true) : M.digs rest (i + 1) := by
  unfold M.digs at *
  rw [List.take_succ_eq_append_getElem hi, List.all_append, h]
  simp [h2]
theorem num_succ {rest : List UInt8} {i : Nat} (hi : i < rest.length) : M.num (rest.take (i + 1)) 0 = 10 * M.num (rest.take i) 0 + ((rest[i]).toNat - 48) := by
  rw [List.take_succ_eq_append_getElem hi, M.num_snoc]

set_option maxRecDepth 100000 in
set_option maxHeartbeats 8000000 in
theorem parse_any (A : Option Addr) (c : Nat) (l : List UInt8) (hl : l.length ≤ 100000000) (hc : l.length ≤ c) (B : Nat) (w : World) (hB : B ≤ w.heap.size) (ht : TB B w) (h : Rd w w.heap.size A l.length (ints l)) :
    Calls Tryd.prog 13 #[.slice A l.length c] w (ParseIs .u16 l w) := by
  have ht' : TB w.heap.size w := fun w' hb => ht w' (hb.mono hB)
  have HT := Lib.hid ht'
  clear ht ht'
  by_cases hbig : 1048576 < l.length
  · have HE := Lib.hid (M.parseE_long hbig)
    have hd : decide ((l.length : Int) > 1048576) = true := by rw [decide_eq_true_eq]; omega
    clear h
    go_enter Tryd.func13, Tryd.ntmps13
    go_wp2
    go_step3
    go_wp2
    try rw [Exit.noGoto_ret]
    go_ret2
    exact ParseIs.no HE.out (by decide) (Below.refl _ _)
  · have hle : l.length ≤ 1048576 := by omega
    have HBG := Lib.hid hbig
    have HRD := Lib.hid h
    clear hbig h
    go_enter Tryd.func13, Tryd.ntmps13
    go_wp2
    go_step3
    go_wp2
    go_step3
    go_wp2
    go_loopg [0, 4] l.length (fun g s0 s4 wx => LineAt l w g s0 s4 wx)
    case atStart => exact ⟨A, c, l, [], [], rfl, rfl, HRD.out, hc, Nat.le_refl _, OwnR.nil _ _, by simp, Lib.hid (M.AtRest.start l), Below.refl _ _⟩
    case round =>
      obtain ⟨A1, c1, rest, rs, done, rfl, hg, hrd, hc1, hrl, hown, hrs, hat, hb⟩ := hrel
      have hbs := hb.size
      by_cases h0 : rest.length = 0
      · obtain rfl : rest = [] := List.eq_nil_of_length_eq_zero h0
        have HSM := Lib.hid hat.out.end_
        obtain ⟨A4, c4, rfl, _⟩ := hown.rd
        have HO := Lib.hid hown
        clear hrd hg h0
        simp only [List.length_nil] at *
        by_cases hm : 1000 < rs.length
        · have HE := Lib.hid (M.parseE_many HBG.out HSM.out (by rw [rcs_len]; exact hm))
          have hd : decide ((rs.length : Int) > 1000) = true := by rw [decide_eq_true_eq]; omega
          go_wp2
          try rw [Exit.noGoto_ret]
          go_ret2
          exact ParseIs.no HE.out (by decide) hb
        · have HE := Lib.hid (M.parseE_some HBG.out HSM.out (by rw [rcs_len]; exact hm))
          have hd : decide ((rs.length : Int) > 1000) = false := by rw [decide_eq_false_iff_not]; omega
          have hm' : rs.length ≤ 1000 := by omega
          clear hm
          go_wp2
          try rw [Exit.noGoto_ret]
          go_ret2
          exact ⟨_, rs, by rw [HE.out.1]; rfl, HO.out, HE.out.2.symm, hb⟩
      · have hpos : 0 < rest.length := by omega
        have hne : rest ≠ [] := by rintro rfl; exact h0 rfl
        have hd0 : decide ((rest.length : Int) > 0) = true := by rw [decide_eq_true_eq]; omega
        have hg1 : rest.length ≤ gk := by omega
        have hg2 : gk ≤ rest.length := by omega
        have HNE := Lib.hid hne
        have HO := Lib.hid hown
        obtain ⟨b, off, rfl, hbb, hcell⟩ := hrd.2.2 hpos
        have HCELL := Lib.hid hcell
        have HRR := Lib.hid (hrd.more hbs)
        have HR0 := Lib.hid hrd
        have hbwr : b < wr.heap.size := by omega
        clear h0 hne hcell hrd hown hg
        have hfail : ∀ w', Below w.heap.size w w' → M.one rest = none → ParseIs .u16 l w (.returned (.tuple #[.slice none 0 0, .int .u16 34])) w' := fun w' hb' h1 =>
          ParseIs.no (n := 34) (M.parseE_none HBG.out (hat.out.none_ HNE.out h1)) (by decide) hb'
        have HFAIL := Lib.hid hfail
        clear hfail
        go_wp2
        go_loopg [18, 5, 0, 4] rest.length (fun g s18 s5 s0 s4 wy => DigitAt rest wr g s18 s5 wy ∧ s0 = .slice (some ⟨b, off, none⟩) rest.length c1 ∧ s4 = u4)
        case atStart => exact ⟨⟨0, 0, by omega, rfl, rfl, Lib.hid rfl, Lib.hid rfl, by omega, rfl⟩, rfl, rfl⟩
        case round =>
          obtain ⟨⟨i, W, hig, rfl, rfl, hdg, hnum, hWb, rfl⟩, rfl, rfl⟩ := hrel
          have hgi : gk ≤ rest.length - i ∧ rest.length - i ≤ gk := by omega
          have HIG := Lib.hid hig
          clear hig
          by_cases hi : i < rest.length
          · have hck := HCELL.out i _ (ints_at hi)
            have hb256 : (rest[i]).toNat < 256 := UInt8.toNat_lt _
            by_cases h32 : rest[i] = 32
            · rw [h32] at hck
              have e32 : ((32 : UInt8).toNat : Int) = 32 := rfl
              rw [e32] at hck
              have hone := M.one_recAt hi (by omega) hdg.out h32
              rw [hnum.out] at hone
              have HREC := Lib.hid (record_any (some ⟨b, off, none⟩) c1 rest (by omega) hc1 i W hi (by omega) w.heap.size wr hbs (HT.out.on hb) HRR.out)
              unfold RecIs at HREC
              clear e32 h32
              cases hr : M.recAt rest i W with
              | none =>
                rw [hr] at HREC hone
                have HONE := Lib.hid hone
                clear hone hr
                simp only [recV] at HREC
                by_cases hk0 : i = 0
                case' pos =>
                  subst hk0
                  simp only [Nat.add_zero] at hck
                  rw [show (((0 : Nat) : Int) + 1) = 1 from rfl] at HREC
                case' neg =>
                  have hk1 : 0 < i := by omega
                  clear hk0
                all_goals
                  go_wp2_with (go_at_call 28; refine HREC.out.mono ?_; rintro e w2 ⟨rfl, hb2⟩)
                  try rw [Exit.noGoto_ret]
                  go_ret2
                  exact HFAIL.out _ ((hb.trans (hb2.mono hbs)).alloc (hb.trans (hb2.mono hbs)).size _) HONE.out
              | some r =>
                rw [hr] at HREC hone
                have hone' : M.one rest = some (r, W) := hone
                obtain ⟨q1, q2, q3, q4⟩ := M.one_some hone'
                have hstep := hat.out.step HNE.out hone'
                have hcut := HR0.out.cut (k := W) (c := c1) q4 hc1
                rw [ints_drop] at hcut
                have hsl := fun W' => slice_rest W' (some ⟨b, off, none⟩) rest.length c1 W q4
                have hdl : (rest.drop W).length = rest.length - W := List.length_drop
                rw [← hdl] at hsl hcut
                obtain ⟨rest', hr'⟩ : ∃ r', rest.drop W = r' := ⟨_, rfl⟩
                obtain ⟨a3, ha3⟩ : ∃ a3, cutA (some ⟨b, off, none⟩) c1 W = a3 := ⟨_, rfl⟩
                obtain ⟨c3, hc3⟩ : ∃ c3, c1 - W = c3 := ⟨_, rfl⟩
                have hle3 : rest'.length ≤ c3 := by rw [← hr', hdl]; omega
                have hlt3 : rest'.length + W = rest.length := by rw [← hr', hdl]; omega
                rw [hr'] at hsl hcut hstep
                rw [ha3] at hsl hcut
                rw [hc3] at hsl
                have HSTEP := Lib.hid hstep
                have HCUT := Lib.hid hcut
                clear hone hone' hr q1 q2 hstep hdl hr' ha3 hc3 hcut
                simp only [recV] at HREC
                by_cases hk0 : i = 0
                case' pos =>
                  subst hk0
                  simp only [Nat.add_zero] at hck
                  rw [show (((0 : Nat) : Int) + 1) = 1 from rfl] at HREC
                case' neg =>
                  have hk1 : 0 < i := by omega
                  clear hk0
                all_goals
                  go_wp2_with (go_at_call 28; refine HREC.out.mono ?_; rintro e w2 ⟨rfl, hb2⟩; refine Hid.out ?_)
                  refine Lib.hid ?_
                  have b2 := hb.trans (hb2.mono hbs)
                  have o2 := (HO.out.below hb2).alloc (.cells #[.string ⟨r.1.toArray⟩, .string ⟨r.2.toArray⟩] 45)
                  have b3 := b2.alloc b2.size (.cells #[.string ⟨r.1.toArray⟩, .string ⟨r.2.toArray⟩] 45)
                  go_wp2_with (at_builtin; refine wpList_appR rfl (.tmp 35) (.tmp 37) rfl w.heap.size u4 rs (mk r) rfl rfl rfl o2 b3.size (by rw [World.size_alloc]; rfl) (by omega) ?_)
                  intro v4 w4 rs' HRS hn4 o4 hb4 hg4
                  have b4 := b3.trans hb4
                  clear o2 b3 hb4 hg4 hck
                  go_wp2
                  go_roundg rest'.length
                  case measure => omega
                  case rel =>
                    refine ⟨a3, c3, rest', rs', done ++ rest.take W, rfl, rfl, (HCUT.out.keep fun p hp => (b4.cell hp).trans (hb.cell hp).symm), hle3, by omega, o4, by omega, Lib.hid ?_, b4⟩
                    · have := HSTEP.out
                      rw [HRS.out, rcs_app]
                      exact this
            · obtain ⟨z, hz⟩ : ∃ z, (rest[i]).toNat = z := ⟨_, rfl⟩
              have hz32 : z ≠ 32 := fun e => h32 (UInt8.toNat_inj.1 (by rw [hz, e]; rfl))
              have e32 : ((z : Int) == 32) = false := by simp; omega
              by_cases hdig : M.isDig rest[i] = true
              · rw [M.isDig_iff, hz] at hdig
                obtain ⟨g1, g2⟩ := hdig
                have n1 : decide ((z : Int) < 48) = false := by rw [decide_eq_false_iff_not]; omega
                have n2 : decide ((z : Int) > 57) = false := by rw [decide_eq_false_iff_not]; omega
                by_cases hbey : rest.length < W
                · have HONE := Lib.hid (M.one_beyond hi (by omega) hdg.out (by rw [hnum.out]; exact hbey))
                  have n3 : decide ((W : Int) > (rest.length : Int)) = true := by rw [decide_eq_true_eq]; omega
                  rw [hz] at hck
                  clear hz h32 hz32
                  by_cases hk0 : i = 0
                  case' pos =>
                    subst hk0
                    simp only [Nat.add_zero] at hck
                  case' neg =>
                    have hk1 : 0 < i := by omega
                    clear hk0
                  all_goals
                    go_wp2
                    try rw [Exit.noGoto_ret]
                    go_ret2
                    exact HFAIL.out _ hb HONE.out
                · have n3 : W ≤ rest.length := by omega
                  have HD := Lib.hid (digs_succ hi hdg.out (by rw [M.isDig_iff, hz]; exact ⟨g1, g2⟩))
                  have hns := num_succ hi
                  rw [hnum.out, hz] at hns
                  have HN := Lib.hid hns
                  rw [hz] at hck
                  clear hz h32 hz32 hns hbey
                  obtain ⟨i', hi'⟩ : ∃ i', i' = i := ⟨_, rfl⟩
                  have HD' : Hid (M.digs rest (i' + 1)) := by rw [hi']; exact HD
                  have HN' : Hid (M.num (rest.take (i' + 1)) 0 = 10 * W + (z - 48)) := by rw [hi']; exact HN
                  have HI' := Lib.hid hi'
                  clear hi' HD HN
                  by_cases hk0 : i = 0
                  case' pos =>
                    subst hk0
                    simp only [Nat.add_zero] at hck
                  case' neg =>
                    have hk1 : 0 < i := by omega
                    clear hk0
                  all_goals
                    go_wp2
                    go_roundg (rest.length - (i' + 1))
                    case measure => have := HIG.out; have := HI'.out; omega
                    case rel =>
                      refine ⟨⟨i' + 1, 10 * W + (z - 48), by have := HI'.out; omega, ?_, by congr 1; omega, HD', HN', by omega, rfl⟩, rfl, rfl⟩
                      rw [HI'.out]
                      first | rfl | go_num
              · have hnd : M.isDig rest[i] = false := by simpa using hdig
                have HONE := Lib.hid (M.one_odd hi (by omega) hdg.out hnd h32)
                rw [M.isDig_iff, hz] at hdig
                rw [hz] at hck
                clear hz h32 hz32 hnd
                by_cases hlo : z < 48
                case' pos =>
                  have n1 : decide ((z : Int) < 48) = true := by rw [decide_eq_true_eq]; omega
                case' neg =>
                  have n1 : decide ((z : Int) < 48) = false := by rw [decide_eq_false_iff_not]; omega
                  have n2 : decide ((z : Int) > 57) = true := by rw [decide_eq_true_eq]; omega
                all_goals
                  clear hdig
                  by_cases hk0 : i = 0
                  case' pos =>
                    subst hk0
                    simp only [Nat.add_zero] at hck
                  case' neg =>
                    have hk1 : 0 < i := by omega
                    clear hk0
                  all_goals
                    go_wp2
                    try rw [Exit.noGoto_ret]
                    go_ret2
                    exact HFAIL.out _ hb HONE.out
          · obtain rfl : i = rest.length := by have := HIG.out; omega
            have HONE := Lib.hid (M.one_digits (by omega) hdg.out)
            go_wp2
            try rw [Exit.noGoto_ret]
            go_ret2
            exact HFAIL.out _ hb HONE.out
end Go.Proofs.YtefkgkdocglgaaaDoor
