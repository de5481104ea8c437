/-
  The walks of PaxBack, PaxLong.
-/
import Derived.Test.YtefkgkdocglgaaaDoorPaxPrintsC
namespace Go.Proofs.YtefkgkdocglgaaaDoor
open Go.RowKit Go.Shelf

/-- Records that are printed, and parsed again. -/
structure Fine (rs : List R2) : Prop where
  right : ∀ r ∈ rs, M.right (rc r) = true
  short : Short rs
  few : rs.length ≤ 1000
  small : (M.lines (rcs rs)).length ≤ 1048576

theorem Fine.printE {rs : List R2} (h : Fine rs) : M.printE (rcs rs) = 0 := by
  refine M.printE_0 ?_ (by rw [rcs_len]; have := h.few; have := h.small; omega)
  rw [List.all_eq_true]
  intro x hx
  obtain ⟨r, hr, rfl⟩ := List.mem_map.1 hx
  exact h.right r hr
theorem Fine.recs {rs : List R2} (h : Fine rs) : M.recs (M.lines (rcs rs)) = some (rcs rs) := by
  refine M.recs_lines _ fun x hx => ?_
  obtain ⟨r, hr, rfl⟩ := List.mem_map.1 hx
  refine ⟨h.right r hr, ?_⟩
  rw [M.body_length]
  have := h.short r hr
  show r.1.size + r.2.size + 3 + 8 < _
  omega
theorem Fine.parse {rs : List R2} (h : Fine rs) : M.parseE (M.lines (rcs rs)) = 0 ∧ M.parseL (M.lines (rcs rs)) = rcs rs :=
  M.parseE_some (by have := h.small; omega) h.recs (by rw [rcs_len]; have := h.few; omega)
theorem Good.fine {rs : List R2} (h : Good rs) (hn : rs.length ≤ 1000) : Fine rs := by
  obtain ⟨_, h2⟩ := good_small h _ (Nat.le_refl _) hn
  exact ⟨fun r hr => (h r hr).1, h.short, hn, by omega⟩

theorem print_fine {A : Option Addr} {c : Nat} {rs : List R2} {w0 w : World} (h : Fine rs) (hb : Below w0.heap.size w0 w) (ht : TB w0.heap.size w0) (hr : RdR w w.heap.size A rs) :
    Calls Tryd.prog 12 #[.slice A rs.length c] w (BytesOut .u16 0 (M.lines (rcs rs)) w) := by
  refine (print_any A c rs (by have := h.few; omega) h.short w0.heap.size w hb.size (ht.on hb) hr).mono fun e w' h1 => ?_
  have h2 := h1.out (z := 0) (by rw [h.printE]; rfl)
  rwa [M.printB_0 h.printE] at h2
theorem parse_fine {A : Option Addr} {c : Nat} {P : List UInt8} {rs : List R2} {w0 w : World} (h : Fine rs) (hP : P = M.lines (rcs rs)) (hc : P.length ≤ c) (hb : Below w0.heap.size w0 w) (ht : TB w0.heap.size w0) (hr : Rd w w.heap.size A P.length (ints P)) :
    Calls Tryd.prog 13 #[.slice A P.length c] w (RecsOut .u16 0 (rcs rs) w) := by
  refine (parse_any A c P (by rw [hP]; have := h.small; omega) hc w0.heap.size w hb.size (ht.on hb) hr).mono fun e w' h1 => ?_
  rw [hP] at h1
  have h2 := h1.out (z := 0) (by rw [h.parse.1]; rfl)
  rwa [h.parse.2] at h2

set_option maxRecDepth 100000 in
set_option maxHeartbeats 4000000 in
theorem paxBack_any (A : Option Addr) (n c : Nat) (zs : List Int) (a1 : Int) (w : World) (h : Rd w w.heap.size A n zs) (hn : n ≤ maxLen) (x0 : 0 ≤ a1) (x1 : a1 ≤ 65535) (tb : TB w.heap.size w) :
    Calls Tryd.prog 8 #[.slice A n c, .int .u16 a1] w fun e w' => e = .returned (.bool true) ∧ Below w.heap.size w w' := by
  have HT := Lib.hid tb
  have HR := Lib.hid h
  clear tb h
  go_enter Tryd.func8, Tryd.ntmps8
  go_wp2_with fail
  refine (recs_any A n c zs 10 (by omega) hn w HR.out).mono ?_
  rintro e w1 ⟨A1, c1, rs, rfl, hr1, hc1, hm1, hlr, hg, b1⟩
  have hf : Fine rs := hg.fine (by omega)
  have HF := Lib.hid hf
  have HR1 := Lib.hid hr1
  clear hg hf hr1
  go_wp2_with fail
  refine (print_fine HF.out b1 HT.out HR1.out).mono ?_
  rintro e w2 ⟨A2, c2, P, rfl, hP, hr2, hc2, hm2, ho2, hb2⟩
  have b2 := b1.trans (hb2.mono b1.size)
  have HR2 := Lib.hid hr2
  have HR1' := Lib.hid ((HR1.out.below hb2).more hb2.size)
  clear hr2 ho2 hb2 HR1
  go_wp2_with fail
  refine (parse_fine HF.out hP.out hc2 b2 HT.out HR2.out).mono ?_
  rintro e w3 ⟨A3, c3, rs3, rfl, hrs3, hr3, hc3, hm3, ho3, hb3⟩
  obtain rfl : rs3 = rs := rcs_inj hrs3.out
  have b3 := b2.trans (hb3.mono b2.size)
  have C3 := Lib.hid (same_any A1 c1 rs3 A3 c3 rs3 (by omega) (by omega) w3.heap.size w3 ((HR1'.out.below hb3).more hb3.size) hr3)
  rw [show decide (rs3 = rs3) = true from decide_eq_true rfl] at C3
  clear hrs3 hr3 ho3 hb3 HR1' HR2 hP
  go_wp2_with fail
  refine C3.out.mono ?_
  rintro e w4 ⟨rfl, hb4⟩
  have b4 := b3.trans (hb4.mono b3.size)
  clear hb4 C3 HF
  go_wp2
  go_loop [11, 12] (fun v i => ∃ (k : Nat) (s : ByteArray), v = .string s ∧ i = .int .i64 k ∧ (k : Int) ≤ a1 % 1200 ∧ s.size ≤ k ∧ Hid (noNul s = true)) (fun _ i => 1200 - (intOf i).toNat)
  case atStart => exact ⟨0, ⟨#[]⟩, rfl, rfl, by omega, by decide, Lib.hid rfl⟩
  case round =>
    obtain ⟨k, s, rfl, rfl, hk, hs, hnn⟩ := hrel
    by_cases hlt : (k : Int) < a1 % 1200
    · have HNN := Lib.hid (noNul_app (t := ⟨#[120]⟩) hnn.out (by decide))
      go_wp2
      go_round
      case rel => exact ⟨k + 1, _, rfl, by go_num, by omega, by rw [ByteArray.size_append]; show s.size + 1 ≤ _; omega, HNN⟩
      case measure => simp [intOf]; omega
    · have hge : a1 % 1200 ≤ (k : Int) := by omega
      have hs12 : s.size ≤ 1200 := by omega
      have hfv : Fine [((⟨#[107]⟩ : ByteArray), s)] := by
        refine ⟨fun r hr => ?_, fun r hr => ?_, by simp, ?_⟩
        · simp at hr; subst hr; exact right_of (by decide) hnn.out
        · simp at hr; subst hr; show (⟨#[107]⟩ : ByteArray).size + s.size ≤ _; have : (⟨#[107]⟩ : ByteArray).size = 1 := rfl; omega
        · have e : rcs [((⟨#[107]⟩ : ByteArray), s)] = [rc ((⟨#[107]⟩ : ByteArray), s)] := rfl
          have h1 : (⟨#[107]⟩ : ByteArray).size = 1 := rfl
          have e2 : (M.body (rc ((⟨#[107]⟩ : ByteArray), s))).length = (⟨#[107]⟩ : ByteArray).size + s.size + 3 := by rw [M.body_length]; rfl
          rw [e, M.lines_one, line_len (by show (⟨#[107]⟩ : ByteArray).size + s.size ≤ _; omega)]
          unfold M.lineLen
          have := M.wid_pos (M.body (rc ((⟨#[107]⟩ : ByteArray), s))).length
          omega
      have HFV := Lib.hid hfv
      have b5 := b4.alloc b4.size (.cells #[.string ⟨#[107]⟩, .string s] 45)
      have C5 := Lib.hid (print_fine (A := some ⟨w4.heap.size, 0, none⟩) (c := 1) hfv b5 HT.out ((RdR.lit w4 ⟨#[107]⟩ s).more (by simp)))
      simp only [List.length_cons, List.length_nil, Nat.zero_add] at C5
      clear hlt hfv hk
      go_wp2_with fail
      refine C5.out.mono ?_
      rintro e w6 ⟨A6, c6, P6, rfl, hP6, hr6, hc6, hm6, ho6, hb6⟩
      have b6 := b5.trans (hb6.mono b5.size)
      have C6 := Lib.hid (parse_fine HFV.out hP6.out hc6 b6 HT.out hr6)
      clear hr6 ho6 hb6 C5
      go_wp2_with fail
      refine C6.out.mono ?_
      rintro e w7 ⟨A7, c7, rs7, rfl, hrs7, hr7, hc7, hm7, ho7, hb7⟩
      obtain rfl : rs7 = [((⟨#[107]⟩ : ByteArray), s)] := rcs_inj hrs7.out
      have b7 := b6.trans (hb7.mono b6.size)
      obtain ⟨bb, off, rfl, hbb, hcc⟩ := hr7 (by simp)
      have hcc1 := (hcc 0 _ rfl).2
      simp only [Nat.zero_mul, Nat.add_zero] at hcc1
      clear hrs7 hr7 ho7 hb7 hcc C6
      simp only [List.length_cons, List.length_nil, Nat.zero_add] at *
      go_wp2_with fail
      refine (known_any w.heap.size w7 b7.size (HT.out.on b7)).mono ?_
      rintro e w8 ⟨rfl, hb8⟩
      have b8 := b7.trans (hb8.mono b7.size)
      have hcc8 := (hb8.cell (p := ⟨bb, off + 1, none⟩) hbb).trans hcc1
      clear hb8 hcc1
      go_wp2
      go_ret
      exact ⟨rfl, b8⟩

/-- The records of PaxLong. -/
def kvs (n : Nat) : List R2 := List.replicate n ((⟨#[107]⟩ : ByteArray), (⟨#[118]⟩ : ByteArray))
theorem kvs_lines (n : Nat) : (M.lines (rcs (kvs n))).length = 6 * n := by
  induction n with
  | zero => rfl
  | succ n ih =>
    have e : kvs (n + 1) = ((⟨#[107]⟩ : ByteArray), (⟨#[118]⟩ : ByteArray)) :: kvs n := rfl
    have e2 : rcs (kvs (n + 1)) = rc ((⟨#[107]⟩ : ByteArray), (⟨#[118]⟩ : ByteArray)) :: rcs (kvs n) := by rw [e]; rfl
    rw [e2, M.lines_cons, List.length_append, ih, line_len (by decide)]
    have : M.lineLen (rc ((⟨#[107]⟩ : ByteArray), (⟨#[118]⟩ : ByteArray))) = 6 := rfl
    omega
theorem kvs_right (n : Nat) : (rcs (kvs n)).all M.right = true := by
  rw [List.all_eq_true]
  intro x hx
  obtain ⟨r, hr, rfl⟩ := List.mem_map.1 hx
  rw [kvs, List.mem_replicate] at hr
  rw [hr.2]
  rfl
theorem kvs_short (n : Nat) : Short (kvs n) := fun r hr => by
  rw [kvs, List.mem_replicate] at hr
  rw [hr.2]
  decide
theorem kvs_len (n : Nat) : (kvs n).length = n := List.length_replicate
theorem kvs_succ (n : Nat) : kvs (n + 1) = kvs n ++ [((⟨#[107]⟩ : ByteArray), (⟨#[118]⟩ : ByteArray))] := List.replicate_succ'

set_option maxRecDepth 100000 in
theorem parse_long (A : Option Addr) (c n : Nat) (hn : 1048576 < n) (hn2 : n ≤ 100000000) (w : World) :
    Calls Tryd.prog 13 #[.slice A n c] w fun e w' => e = .returned (.tuple #[.slice none 0 0, .int .u16 3]) ∧ Below w.heap.size w w' := by
  have hd : decide ((n : Int) > 1048576) = true := by rw [decide_eq_true_eq]; omega
  go_enter Tryd.func13, Tryd.ntmps13
  go_wp2
  go_step3
  go_wp2
  try rw [Exit.noGoto_ret]
  go_ret2
  exact ⟨rfl, Below.refl _ _⟩

set_option maxRecDepth 100000 in
set_option maxHeartbeats 4000000 in
theorem paxLong_any (a0 : Int) (w : World) (x0 : 0 ≤ a0) (x1 : a0 ≤ 255) (tb : TB w.heap.size w) :
    Calls Tryd.prog 10 #[.int .u8 a0] w fun e w' => e = .returned (.bool true) ∧ Below w.heap.size w w' := by
  have HT := Lib.hid tb
  clear tb
  obtain ⟨m, hm⟩ : ∃ m : Nat, a0 % 5 = (m : Int) := ⟨(a0 % 5).toNat, by omega⟩
  have hm5 : m < 5 := by omega
  have hmk := run_make_row' (P := Tryd.prog) 22 5 (.int .u8 0) 1 Tryd.underlying22 infoB rfl .i64 .i64 1048577 (by omega) (by omega)
  have hm2 : a0.tmod 5 = (m : Int) := by rw [Int.tmod_eq_emod_of_nonneg x0]; exact hm
  go_enter Tryd.func10, Tryd.ntmps10
  go_wp2
  go_loopw [3, 4] (fun v i wr => ∃ (k : Nat) (rs : List R2), i = .int .i64 k ∧ k ≤ 998 + m ∧ OwnR wr w.heap.size v rs ∧ Hid (rs = kvs k) ∧ rs.length = k ∧ Below w.heap.size w wr) (fun _ i _ => 2000 - (intOf i).toNat)
  case atStart => exact ⟨0, [], rfl, by omega, OwnR.nil _ _, Lib.hid rfl, rfl, Below.refl _ _⟩
  case round =>
    obtain ⟨k, rs, rfl, hk, hown, hrs, hrl, hb⟩ := hrel
    have hbs := hb.size
    by_cases hlt : k < 998 + m
    · have hlt2 : (k : Int) < 998 + (m : Int) := by omega
      have HRL := Lib.hid hrl
      have hrl2 : rs.length ≤ 2000 := by omega
      clear hrl hlt
      go_wp2_with (at_builtin; refine wpList_appR rfl (.tmp 19) (.tmp 21) rfl w.heap.size u3 rs ((⟨#[107]⟩ : ByteArray), (⟨#[118]⟩ : ByteArray)) rfl rfl rfl hown hbs rfl (by omega) ?_)
      intro v4 w4 rs' HRS hn4 o4 hb4 hg4
      have b4 := hb.trans hb4
      clear hb4 hg4
      have HN4 := Lib.hid hn4
      clear hn4
      go_wp2
      go_roundw
      case rel => exact ⟨k + 1, rs', by go_num, by omega, o4, Lib.hid (by rw [HRS.out, hrs.out, kvs_succ]), by rw [HN4.out, HRL.out], b4⟩
      case measure => simp [intOf]; omega
    · have hke : k = 998 + m := by omega
      have hge : 998 + a0 % 5 ≤ (k : Int) := by omega
      obtain ⟨A3, c3, rfl, hr3, hc3, hm3⟩ := hown.rd
      have hkb : k ≤ 1002 := by omega
      have hrs' : rs = kvs k := hrs.out
      have hE : M.printE (rcs rs) = if 1000 < k then 3 else 0 := by
        rw [hrs']
        by_cases h : 1000 < k
        · rw [if_pos h]; exact M.printE_3 (kvs_right k) (.inl (by rw [rcs_len, kvs_len]; exact h))
        · rw [if_neg h]; exact M.printE_0 (kvs_right k) (by rw [rcs_len, kvs_len, kvs_lines]; omega)
      have C1 := print_any A3 c3 rs (by omega) (by rw [hrs']; exact kvs_short k) w.heap.size wr hbs (HT.out.on hb) hr3
      have HC1 := Lib.hid C1
      have HE := Lib.hid hE
      have HRS := Lib.hid hrs'
      have HRL := Lib.hid hrl
      have HR3 := Lib.hid hr3
      have hrl1 : rs.length ≤ k := by omega
      have hrl2 : k ≤ rs.length := by omega
      clear C1 hE hrs' hrl hr3 hown hlt hke hrs hm hm2
      have hlong := fun (W : World) (A : Option Addr) (c : Nat) => parse_long A c 1048577 (by decide) (by decide) W
      rw [show ((1048577 : Nat) : Int) = 1048577 from rfl] at hmk
      have HL := Lib.hid hlong
      clear hlong
      by_cases hbig : 1000 < k
      · have hE3 : M.printE (rcs rs) = 3 := by rw [HE.out, if_pos hbig]
        have hB : M.printB (rcs rs) = [] := M.printB_no (by rw [hE3]; decide)
        have HE3 := Lib.hid hE3
        have HB := Lib.hid hB
        have hbig2 : 1000 < rs.length := by omega
        clear hE3 hB
        go_wp2_with fail
        refine HC1.out.mono ?_
        rintro e w5 h5
        obtain ⟨A5, c5, P, rfl, hP, hr5, hc5, hm5, ho5, hb5⟩ := h5.out (z := 3) (by rw [HE3.out]; rfl)
        obtain rfl : P = [] := by rw [hP.out, HB.out]
        have b5 := hb.trans (hb5.mono hbs)
        have C2 := Lib.hid (parse_any A5 c5 [] (by simp) hc5 w.heap.size w5 b5.size (HT.out.on b5) hr5)
        clear h5 hP hr5 ho5 hb5
        simp only [List.length_nil] at *
        go_wp2_with fail
        refine C2.out.mono ?_
        rintro e w6 h6
        obtain ⟨A6, c6, rs6, rfl, hrs6, hr6, hc6, hm6, ho6, hb6⟩ := h6.out (z := 0) rfl
        have b6 := b5.trans (hb6.mono b5.size)
        clear h6 hrs6 hr6 ho6 hb6 C2
        have b6' := b6.alloc b6.size (.cells (madeCells #[.int .u8 0] 1048577) 5)
        go_wp2_with fail
        refine (HL.out _ _ _).mono ?_
        rintro e w7 ⟨rfl, hb7⟩
        have b7 := b6'.trans (hb7.mono b6'.size)
        clear hb7 b6'
        go_wp2_with fail
        refine (known_any w.heap.size w7 b7.size (HT.out.on b7)).mono ?_
        rintro e w8 ⟨rfl, hb8⟩
        have b8 := b7.trans (hb8.mono b7.size)
        clear hb8
        go_wp2
        go_ret
        exact ⟨rfl, b8⟩
      · have hE0 : M.printE (rcs rs) = 0 := by rw [HE.out, if_neg hbig]
        have hB : M.printB (rcs rs) = M.lines (rcs rs) := M.printB_0 hE0
        have hf : Fine rs := ⟨fun r hr => by
            rw [HRS.out, kvs, List.mem_replicate] at hr
            rw [hr.2]; rfl, by rw [HRS.out]; exact kvs_short k, by omega, by rw [HRS.out, kvs_lines]; omega⟩
        have hPl : (M.lines (rcs rs)).length = 6 * rs.length := by rw [HRL.out, HRS.out, kvs_lines]
        have HE0 := Lib.hid hE0
        have HB := Lib.hid hB
        have HF := Lib.hid hf
        have HPL := Lib.hid hPl
        have hbig2 : rs.length ≤ 1000 := by omega
        clear hE0 hB hf hbig hPl
        go_wp2_with fail
        refine HC1.out.mono ?_
        rintro e w5 h5
        obtain ⟨A5, c5, P, rfl, hP, hr5, hc5, hm5, ho5, hb5⟩ := h5.out (z := 0) (by rw [HE0.out]; rfl)
        have hPe : P = M.lines (rcs rs) := by rw [hP.out, HB.out]
        have b5 := hb.trans (hb5.mono hbs)
        have C2 := Lib.hid (parse_fine HF.out hPe hc5 b5 HT.out hr5)
        have hpl6 : P.length = 6 * rs.length := by rw [hPe, HPL.out]
        have e6 : ((P.length : Int) == 6 * (rs.length : Int)) = true := by simp; omega
        have hp7 : P.length ≤ 6000 := by omega
        clear h5 hP hr5 ho5 hb5 hPe hpl6
        go_wp2_with fail
        refine C2.out.mono ?_
        rintro e w6 ⟨A6, c6, rs6, rfl, hrs6, hr6, hc6, hm6, ho6, hb6⟩
        have b6 := b5.trans (hb6.mono b5.size)
        clear hrs6 hr6 ho6 hb6 C2
        have b6' := b6.alloc b6.size (.cells (madeCells #[.int .u8 0] 1048577) 5)
        go_wp2_with fail
        refine (HL.out _ _ _).mono ?_
        rintro e w7 ⟨rfl, hb7⟩
        have b7 := b6'.trans (hb7.mono b6'.size)
        clear hb7 b6'
        go_wp2_with fail
        refine (known_any w.heap.size w7 b7.size (HT.out.on b7)).mono ?_
        rintro e w8 ⟨rfl, hb8⟩
        have b8 := b7.trans (hb8.mono b7.size)
        clear hb8
        go_wp2
        go_ret
        exact ⟨rfl, b8⟩
end Go.Proofs.YtefkgkdocglgaaaDoor
