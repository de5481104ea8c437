/-
  head.Parse: the walk.
-/
import Derived.Test.YtkpnhggpcpjddaaGreatDoorHdParseS
import Derived.Test.YtkpnhggpcpjddaaGreatDoorHSumUns
set_option linter.unusedVariables false
set_option linter.unusedSimpArgs false
namespace Go.Proofs.YtkpnhggpcpjddaaGreatDoor
open Go.RowKit Go.Lib

theorem hcells_kind (h : M.Hdr) (pv : Value) (x : Int) : (hcells h pv).set! 6 (.int .u8 x) = hcells { h with kind := x } pv := rfl
theorem hcells_way (h : M.Hdr) (pv : Value) (x : Int) : (hcells h pv).set! 8 (.int .i64 x) = hcells { h with way := x } pv := rfl
theorem hcells_parts (h : M.Hdr) (pv qv : Value) (l : List (Int × Int)) : (hcells h pv).set! 14 qv = hcells { h with parts := l } qv := rfl
theorem hcells_more (h : M.Hdr) (pv : Value) (x : Bool) : (hcells h pv).set! 15 (.bool x) = hcells { h with more := x } pv := rfl

set_option maxRecDepth 100000 in
set_option maxHeartbeats 4000000 in
theorem hparse_any (A : Option Addr) (n c : Nat) (zs : List Int) (w : World) (hr : Rd w w.heap.size A n zs) (hc : n ≤ c) (hcm : c ≤ maxLen) (hs : n ≤ 65536) (hmg : MG w) :
    Calls Tryz.prog 19 #[.slice A n c] w (ParseIs (M.hparse zs).1 (M.hparse zs).2 w) := by
  have hmf : ∀ (fn : Fn) (first cap : Array Value) (w : World), (Instr.makeFunc fn first cap).run Tryz.prog w = .ok (.func fn first cap) w := fun _ _ _ _ => rfl
  have HLen := hid hr.len
  by_cases hn : n = 512
  case neg =>
    have e1 : ((n : Int) == 512) = false := by simp; omega
    have hx := hid (show M.hparse zs = (21, {}) by unfold M.hparse; rw [if_pos (by rw [HLen.out]; exact hn)])
    clear hr hmg hn
    go_enter_defers Tryz.func19, Tryz.ntmps19
    go_wp2_with (go_at_call 48; (with_reducible refine (demand_no _ _).mono ?_); rintro e w9 ⟨rfl, rfl⟩)
    exact stop_at hx.out (PF.start w) rfl rfl
  case pos =>
    subst hn
    obtain ⟨b, off, rfl, hbB, _⟩ := hr.2.2 (by decide)
    have HRd := hid (fun (W : World) (hW : Below w.heap.size w W) => hr.below hW)
    have HMG := hid (fun (W : World) (hW : Below w.heap.size w W) => hmg.later hW)
    have HBy := hid (show ∃ z, w.cell? ⟨b, off + 482, none⟩ = some (.int .u8 z) ∧ M.byt zs 482 = z by
      obtain ⟨b', off', z, e, _, _, _, hz, hcell⟩ := hr.at_ (k := 482) (by decide)
      injection e with e
      injection e with e1 e2
      subst e1 e2
      exact ⟨z, hcell, by unfold M.byt; rw [List.getD_eq_getElem?_getD, hz]; rfl⟩)
    clear hr hmg
    generalize hkk : M.kind zs = kk
    generalize hvi : wayN zs = vi
    have HK := hid hkk
    have HV := hid hvi
    go_enter_defers Tryz.func19, Tryz.ntmps19
    go_wp2_with (go_at_call 48; (with_reducible refine (demand_yes _ _).mono ?_); rintro e w9 ⟨rfl, rfl⟩)
    refine (right_any (some ⟨b, off, none⟩) 512 c zs _ w.heap.size (HRd.out _ (PF.start w).below) (PF.start w).below.size (by decide)).mono ?_
    rintro e w1 ⟨rfl, b1⟩
    have P1 := hid ((PF.start w).later b1)
    clear b1
    cases hR : M.right zs with
    | false =>
      have hx := hid (show M.hparse zs = (30, {}) by simp [M.hparse, HLen.out, hR])
      clear hkk hvi
      go_wp2_with (go_at_call 48; (with_reducible refine (demand_no _ _).mono ?_); rintro e w9 ⟨rfl, rfl⟩)
      exact stop_at hx.out P1.out rfl rfl
    | true =>
      go_wp2_with (go_at_call 48; (with_reducible refine (demand_yes _ _).mono ?_); rintro e w9 ⟨rfl, rfl⟩)
      (with_reducible refine (kindOf_any (some ⟨b, off, none⟩) 512 c zs _ w.heap.size (HRd.out _ P1.out.below) rfl).mono ?_)
      rintro e w2 ⟨rfl, rfl⟩
      rw [hkk]
      have c6 : w1.cell? ⟨w.heap.size, 6, none⟩ = some (.int .u8 0) := P1.out.box.cell rfl
      have f6 := P1.out.box.frozen 6
      go_wp2_with fail
      have P2 := hid (P1.out.set 6 (.int .u8 kk) (hcells_kind _ _ kk))
      clear P1 c6 f6
      generalize w1.setCell _ _ = w2 at *
      (with_reducible refine (known_any kk _).mono ?_)
      rintro e w9 ⟨rfl, rfl⟩
      cases hkn : M.known kk with
      | false =>
        have hx := hid (show M.hparse zs = (31, {}) by simp [M.hparse, HLen.out, hR, hkk, hkn])
        go_wp2_with (go_at_call 48; (with_reducible refine (demand_no _ _).mono ?_); rintro e w9 ⟨rfl, rfl⟩)
        exact stop_at hx.out P2.out rfl rfl
      | true =>
        go_wp2_with (go_at_call 48; (with_reducible refine (demand_yes _ _).mono ?_); rintro e w9 ⟨rfl, rfl⟩)
        (with_reducible refine (way_any (some ⟨b, off, none⟩) 512 c zs _ w.heap.size (HRd.out _ P2.out.below) hc hcm (HMG.out _ P2.out.below)).mono ?_)
        rintro e w9 ⟨rfl, rfl⟩
        rw [hvi]
        cases hW : M.way zs with
        | none =>
          have hx := hid (show M.hparse zs = (32, {}) by simp [M.hparse, HLen.out, hR, hkk, hkn, hW])
          rw [show (none : Option Nat).isSome = false from rfl]
          go_wp2_with (go_at_call 48; (with_reducible refine (demand_no _ _).mono ?_); rintro e w9 ⟨rfl, rfl⟩)
          exact stop_at hx.out P2.out rfl rfl
        | some v =>
          have hv : (v : Int) = vi := by rw [← hvi]; unfold wayN; rw [hW]; rfl
          rw [show (some v : Option Nat).isSome = true from rfl]
          have HF := hid (⟨hR, hkk, hkn, hW, hv⟩ : M.right zs = true ∧ M.kind zs = kk ∧ M.known kk = true ∧ M.way zs = some v ∧ (v : Int) = vi)
          clear hR hkk hkn hW hv hvi
          have c8 : w2.cell? ⟨w.heap.size, 8, none⟩ = some (.int .i64 0) := P2.out.box.cell rfl
          have f8 := P2.out.box.frozen 8
          go_wp2_with (go_at_call 48; (with_reducible refine (demand_yes _ _).mono ?_); rintro e w9 ⟨rfl, rfl⟩)
          have P3 := hid (P2.out.set 8 (.int .i64 vi) (hcells_way _ _ vi))
          clear P2 c8 f8
          generalize w2.setCell _ _ = w3 at *
          refine (show Calls Tryz.prog 52 #[.pointer (some ⟨w.heap.size, 0, none⟩)] w3 (fun e w' => e = .returned (.agg (textsV w.heap.size vi)) ∧ Below w3.heap.size w3 w') from texts_any _ _ _ _ P3.out.box).mono ?_
          rintro e w4 ⟨rfl, b4⟩
          have P4 := hid (show PF w w4 (M.rt zs ({ kind := kk, way := vi } : M.Hdr) 0) (.slice none 0 0) from P3.out.later b4)
          clear P3 b4
          have HD := hid (⟨hc, hcm⟩ : 512 ≤ c ∧ c ≤ maxLen)
          have HT0 := hid (fun (W : World) (h : M.Hdr) (hW : PF w W h (.slice none 0 0)) => show Calls Tryz.prog 53 #[.agg #[.int .i64 0, .int .i64 100, .bool true, .pointer (some ⟨w.heap.size, 0, none⟩)], .slice (some ⟨b, off, none⟩) 512 c] W (TxtTo zs 0 100 true ⟨w.heap.size, 0, none⟩ W) from text_parse 0 100 true w.heap.size 0 b off 512 c zs _ W w.heap.size (HRd.out W hW.below) hW.below.size (by decide) (by decide) (by decide) HD.out.1 HD.out.2 (hW.box.cell rfl) (hW.box.frozen 0))
          have tx0 := texts_at0 w.heap.size vi
          have HT1 := hid (fun (W : World) (h : M.Hdr) (hW : PF w W h (.slice none 0 0)) => show Calls Tryz.prog 53 #[.agg #[.int .i64 157, .int .i64 100, .bool true, .pointer (some ⟨w.heap.size, 7, none⟩)], .slice (some ⟨b, off, none⟩) 512 c] W (TxtTo zs 157 100 true ⟨w.heap.size, 7, none⟩ W) from text_parse 157 100 true w.heap.size 7 b off 512 c zs _ W w.heap.size (HRd.out W hW.below) hW.below.size (by decide) (by decide) (by decide) HD.out.1 HD.out.2 (hW.box.cell rfl) (hW.box.frozen 7))
          have tx1 := texts_at1 w.heap.size vi
          have HT2 := hid (fun (W : World) (h : M.Hdr) (hW : PF w W h (.slice none 0 0)) => show Calls Tryz.prog 53 #[.agg #[.int .i64 265, .int .i64 32, .bool (vi != 0), .pointer (some ⟨w.heap.size, 9, none⟩)], .slice (some ⟨b, off, none⟩) 512 c] W (TxtTo zs 265 32 (vi != 0) ⟨w.heap.size, 9, none⟩ W) from text_parse 265 32 (vi != 0) w.heap.size 9 b off 512 c zs _ W w.heap.size (HRd.out W hW.below) hW.below.size (by decide) (by decide) (by decide) HD.out.1 HD.out.2 (hW.box.cell rfl) (hW.box.frozen 9))
          have tx2 := texts_at2 w.heap.size vi
          have HT3 := hid (fun (W : World) (h : M.Hdr) (hW : PF w W h (.slice none 0 0)) => show Calls Tryz.prog 53 #[.agg #[.int .i64 297, .int .i64 32, .bool (vi != 0), .pointer (some ⟨w.heap.size, 10, none⟩)], .slice (some ⟨b, off, none⟩) 512 c] W (TxtTo zs 297 32 (vi != 0) ⟨w.heap.size, 10, none⟩ W) from text_parse 297 32 (vi != 0) w.heap.size 10 b off 512 c zs _ W w.heap.size (HRd.out W hW.below) hW.below.size (by decide) (by decide) (by decide) HD.out.1 HD.out.2 (hW.box.cell rfl) (hW.box.frozen 10))
          have tx3 := texts_at3 w.heap.size vi
          have HT4 := hid (fun (W : World) (h : M.Hdr) (hW : PF w W h (.slice none 0 0)) => show Calls Tryz.prog 53 #[.agg #[.int .i64 345, .int .i64 155, .bool (vi == 1), .pointer (some ⟨w.heap.size, 13, none⟩)], .slice (some ⟨b, off, none⟩) 512 c] W (TxtTo zs 345 155 (vi == 1) ⟨w.heap.size, 13, none⟩ W) from text_parse 345 155 (vi == 1) w.heap.size 13 b off 512 c zs _ W w.heap.size (HRd.out W hW.below) hW.below.size (by decide) (by decide) (by decide) HD.out.1 HD.out.2 (hW.box.cell rfl) (hW.box.frozen 13))
          have tx4 := texts_at4 w.heap.size vi
          go_wp2_with fail
          refine wp_loop_rounds 6 ?_
          rw [rounds_succ]
          go_wp2_with fail
          (with_reducible refine (HT0.out _ _ (P4.out.more _)).mono ?_)
          rintro e w5 t5
          obtain ⟨rfl, p5⟩ := (P4.out.more _).text t5 (rt_step0 zs ({ kind := kk, way := vi } : M.Hdr) (.slice none 0 0)).1 (rt_step0 zs ({ kind := kk, way := vi } : M.Hdr) (.slice none 0 0)).2
          clear P4 t5
          have P4 := hid p5
          clear p5 HT0 tx0
          go_wp2_with fail
          rw [rounds_succ]
          go_wp2_with fail
          (with_reducible refine (HT1.out _ _ (P4.out.more _)).mono ?_)
          rintro e w5 t5
          obtain ⟨rfl, p5⟩ := (P4.out.more _).text t5 (rt_step1 zs ({ kind := kk, way := vi } : M.Hdr) (.slice none 0 0)).1 (rt_step1 zs ({ kind := kk, way := vi } : M.Hdr) (.slice none 0 0)).2
          clear P4 t5
          have P4 := hid p5
          clear p5 HT1 tx1
          go_wp2_with fail
          rw [rounds_succ]
          go_wp2_with fail
          (with_reducible refine (HT2.out _ _ (P4.out.more _)).mono ?_)
          rintro e w5 t5
          obtain ⟨rfl, p5⟩ := (P4.out.more _).text t5 (rt_step2 zs ({ kind := kk, way := vi } : M.Hdr) (.slice none 0 0)).1 (rt_step2 zs ({ kind := kk, way := vi } : M.Hdr) (.slice none 0 0)).2
          clear P4 t5
          have P4 := hid p5
          clear p5 HT2 tx2
          go_wp2_with fail
          rw [rounds_succ]
          go_wp2_with fail
          (with_reducible refine (HT3.out _ _ (P4.out.more _)).mono ?_)
          rintro e w5 t5
          obtain ⟨rfl, p5⟩ := (P4.out.more _).text t5 (rt_step3 zs ({ kind := kk, way := vi } : M.Hdr) (.slice none 0 0)).1 (rt_step3 zs ({ kind := kk, way := vi } : M.Hdr) (.slice none 0 0)).2
          clear P4 t5
          have P4 := hid p5
          clear p5 HT3 tx3
          go_wp2_with fail
          rw [rounds_succ]
          go_wp2_with fail
          (with_reducible refine (HT4.out _ _ (P4.out.more _)).mono ?_)
          rintro e w5 t5
          obtain ⟨rfl, p5⟩ := (P4.out.more _).text t5 (rt_step4 zs ({ kind := kk, way := vi } : M.Hdr) (.slice none 0 0)).1 (rt_step4 zs ({ kind := kk, way := vi } : M.Hdr) (.slice none 0 0)).2
          clear P4 t5
          have P4 := hid p5
          clear p5 HT4 tx4
          go_wp2_with fail
          rw [rounds_succ]
          go_wp2_with fail
          refine (show Calls Tryz.prog 54 #[.pointer (some ⟨w.heap.size, 0, none⟩)] _ (fun e w' => e = .returned (.agg (numbersV w.heap.size kk vi)) ∧ Below (World.heap _).size _ w') from numbers_any _ _ _ _ P4.out.box).mono ?_
          rintro e w6 ⟨rfl, b6⟩
          have P6 := hid (show PF w w6 (M.rn zs (M.rt zs ({ kind := kk, way := vi } : M.Hdr) 5) 0) (.slice none 0 0) from rn_none zs (M.rt zs ({ kind := kk, way := vi } : M.Hdr) 5) ▸ P4.out.later b6)
          clear P4 b6
          have HN0 := hid (fun (W : World) (h : M.Hdr) (hW : PF w W h (.slice none 0 0)) => show Calls Tryz.prog 55 #[.agg #[.int .i64 100, .int .i64 8, .bool true, .int .i64 0, .int .i64 4611686018427387904, .pointer (some ⟨w.heap.size, 1, none⟩)], .slice (some ⟨b, off, none⟩) 512 c] W (NumTo zs 100 8 true 0 M.most ⟨w.heap.size, 1, none⟩ W) from number_parse 100 8 true 0 M.most w.heap.size 1 b off 512 c zs _ W w.heap.size (HRd.out W hW.below) hW.below.size (by decide) (by decide) HD.out.1 HD.out.2 (hW.box.cell rfl) (hW.box.frozen 1))
          have nx0 := nums_at0 w.heap.size kk vi
          have HN1 := hid (fun (W : World) (h : M.Hdr) (hW : PF w W h (.slice none 0 0)) => show Calls Tryz.prog 55 #[.agg #[.int .i64 108, .int .i64 8, .bool true, .int .i64 0, .int .i64 4611686018427387904, .pointer (some ⟨w.heap.size, 2, none⟩)], .slice (some ⟨b, off, none⟩) 512 c] W (NumTo zs 108 8 true 0 M.most ⟨w.heap.size, 2, none⟩ W) from number_parse 108 8 true 0 M.most w.heap.size 2 b off 512 c zs _ W w.heap.size (HRd.out W hW.below) hW.below.size (by decide) (by decide) HD.out.1 HD.out.2 (hW.box.cell rfl) (hW.box.frozen 2))
          have nx1 := nums_at1 w.heap.size kk vi
          have HN2 := hid (fun (W : World) (h : M.Hdr) (hW : PF w W h (.slice none 0 0)) => show Calls Tryz.prog 55 #[.agg #[.int .i64 116, .int .i64 8, .bool true, .int .i64 0, .int .i64 4611686018427387904, .pointer (some ⟨w.heap.size, 3, none⟩)], .slice (some ⟨b, off, none⟩) 512 c] W (NumTo zs 116 8 true 0 M.most ⟨w.heap.size, 3, none⟩ W) from number_parse 116 8 true 0 M.most w.heap.size 3 b off 512 c zs _ W w.heap.size (HRd.out W hW.below) hW.below.size (by decide) (by decide) HD.out.1 HD.out.2 (hW.box.cell rfl) (hW.box.frozen 3))
          have nx2 := nums_at2 w.heap.size kk vi
          have HN3 := hid (fun (W : World) (h : M.Hdr) (hW : PF w W h (.slice none 0 0)) => show Calls Tryz.prog 55 #[.agg #[.int .i64 124, .int .i64 12, .bool true, .int .i64 0, .int .i64 1099511627776, .pointer (some ⟨w.heap.size, 4, none⟩)], .slice (some ⟨b, off, none⟩) 512 c] W (NumTo zs 124 12 true 0 M.maxSize ⟨w.heap.size, 4, none⟩ W) from number_parse 124 12 true 0 M.maxSize w.heap.size 4 b off 512 c zs _ W w.heap.size (HRd.out W hW.below) hW.below.size (by decide) (by decide) HD.out.1 HD.out.2 (hW.box.cell rfl) (hW.box.frozen 4))
          have nx3 := nums_at3 w.heap.size kk vi
          have HN4 := hid (fun (W : World) (h : M.Hdr) (hW : PF w W h (.slice none 0 0)) => show Calls Tryz.prog 55 #[.agg #[.int .i64 136, .int .i64 12, .bool true, .int .i64 (-4611686018427387904), .int .i64 4611686018427387904, .pointer (some ⟨w.heap.size, 5, none⟩)], .slice (some ⟨b, off, none⟩) 512 c] W (NumTo zs 136 12 true (-M.most) M.most ⟨w.heap.size, 5, none⟩ W) from number_parse 136 12 true (-M.most) M.most w.heap.size 5 b off 512 c zs _ W w.heap.size (HRd.out W hW.below) hW.below.size (by decide) (by decide) HD.out.1 HD.out.2 (hW.box.cell rfl) (hW.box.frozen 5))
          have nx4 := nums_at4 w.heap.size kk vi
          have HN5 := hid (fun (W : World) (h : M.Hdr) (hW : PF w W h (.slice none 0 0)) => show Calls Tryz.prog 55 #[.agg #[.int .i64 329, .int .i64 8, .bool (vi != 0), .int .i64 0, .int .i64 4611686018427387904, .pointer (some ⟨w.heap.size, 11, none⟩)], .slice (some ⟨b, off, none⟩) 512 c] W (NumTo zs 329 8 (vi != 0) 0 M.most ⟨w.heap.size, 11, none⟩ W) from number_parse 329 8 (vi != 0) 0 M.most w.heap.size 11 b off 512 c zs _ W w.heap.size (HRd.out W hW.below) hW.below.size (by decide) (by decide) HD.out.1 HD.out.2 (hW.box.cell rfl) (hW.box.frozen 11))
          have nx5 := nums_at5 w.heap.size kk vi
          have HN6 := hid (fun (W : World) (h : M.Hdr) (hW : PF w W h (.slice none 0 0)) => show Calls Tryz.prog 55 #[.agg #[.int .i64 337, .int .i64 8, .bool (vi != 0), .int .i64 0, .int .i64 4611686018427387904, .pointer (some ⟨w.heap.size, 12, none⟩)], .slice (some ⟨b, off, none⟩) 512 c] W (NumTo zs 337 8 (vi != 0) 0 M.most ⟨w.heap.size, 12, none⟩ W) from number_parse 337 8 (vi != 0) 0 M.most w.heap.size 12 b off 512 c zs _ W w.heap.size (HRd.out W hW.below) hW.below.size (by decide) (by decide) HD.out.1 HD.out.2 (hW.box.cell rfl) (hW.box.frozen 12))
          have nx6 := nums_at6 w.heap.size kk vi
          have HN7 := hid (fun (W : World) (h : M.Hdr) (hW : PF w W h (.slice none 0 0)) => show Calls Tryz.prog 55 #[.agg #[.int .i64 483, .int .i64 12, .bool (kk == 83 && vi == 2), .int .i64 0, .int .i64 1099511627776, .pointer (some ⟨w.heap.size, 16, none⟩)], .slice (some ⟨b, off, none⟩) 512 c] W (NumTo zs 483 12 (kk == 83 && vi == 2) 0 M.maxSize ⟨w.heap.size, 16, none⟩ W) from number_parse 483 12 (kk == 83 && vi == 2) 0 M.maxSize w.heap.size 16 b off 512 c zs _ W w.heap.size (HRd.out W hW.below) hW.below.size (by decide) (by decide) HD.out.1 HD.out.2 (hW.box.cell rfl) (hW.box.frozen 16))
          have nx7 := nums_at7 w.heap.size kk vi
          go_wp2_with fail
          refine wp_loop_rounds 9 ?_
          rw [rounds_succ]
          go_wp2_with fail
          (with_reducible refine (HN0.out _ _ (P6.out.more _)).mono ?_)
          rintro e w7 t7
          have s7 := (P6.out.more _).num t7 (ok := M.rnOk zs kk vi 0) rfl (rn_step0 zs (M.rt zs ({ kind := kk, way := vi } : M.Hdr) 5) (.slice none 0 0)).1 (rn_step0 zs (M.rt zs ({ kind := kk, way := vi } : M.Hdr) 5) (.slice none 0 0)).2
          clear P6 t7
          cases hok0 : M.rnOk zs kk vi 0 with
          | false =>
            obtain ⟨rfl, p7⟩ := s7.1 hok0
            have hx := hid (show M.hparse zs = (32, {}) by simp [M.hparse, HLen.out, HF.out.1, HF.out.2.1, HF.out.2.2.1, HF.out.2.2.2.1, HF.out.2.2.2.2, M.allOk, hok0])
            exact stop_at hx.out p7 rfl rfl
          | true =>
            obtain ⟨rfl, p7⟩ := s7.2 hok0
            have P6 := hid p7
            clear p7 s7 HN0 nx0
            go_wp2_with fail
            rw [rounds_succ]
            go_wp2_with fail
            (with_reducible refine (HN1.out _ _ (P6.out.more _)).mono ?_)
            rintro e w7 t7
            have s7 := (P6.out.more _).num t7 (ok := M.rnOk zs kk vi 1) rfl (rn_step1 zs (M.rt zs ({ kind := kk, way := vi } : M.Hdr) 5) (.slice none 0 0)).1 (rn_step1 zs (M.rt zs ({ kind := kk, way := vi } : M.Hdr) 5) (.slice none 0 0)).2
            clear P6 t7
            cases hok1 : M.rnOk zs kk vi 1 with
            | false =>
              obtain ⟨rfl, p7⟩ := s7.1 hok1
              have hx := hid (show M.hparse zs = (32, {}) by simp [M.hparse, HLen.out, HF.out.1, HF.out.2.1, HF.out.2.2.1, HF.out.2.2.2.1, HF.out.2.2.2.2, M.allOk, hok0, hok1])
              exact stop_at hx.out p7 rfl rfl
            | true =>
              obtain ⟨rfl, p7⟩ := s7.2 hok1
              have P6 := hid p7
              clear p7 s7 HN1 nx1
              go_wp2_with fail
              rw [rounds_succ]
              go_wp2_with fail
              (with_reducible refine (HN2.out _ _ (P6.out.more _)).mono ?_)
              rintro e w7 t7
              have s7 := (P6.out.more _).num t7 (ok := M.rnOk zs kk vi 2) rfl (rn_step2 zs (M.rt zs ({ kind := kk, way := vi } : M.Hdr) 5) (.slice none 0 0)).1 (rn_step2 zs (M.rt zs ({ kind := kk, way := vi } : M.Hdr) 5) (.slice none 0 0)).2
              clear P6 t7
              cases hok2 : M.rnOk zs kk vi 2 with
              | false =>
                obtain ⟨rfl, p7⟩ := s7.1 hok2
                have hx := hid (show M.hparse zs = (32, {}) by simp [M.hparse, HLen.out, HF.out.1, HF.out.2.1, HF.out.2.2.1, HF.out.2.2.2.1, HF.out.2.2.2.2, M.allOk, hok0, hok1, hok2])
                exact stop_at hx.out p7 rfl rfl
              | true =>
                obtain ⟨rfl, p7⟩ := s7.2 hok2
                have P6 := hid p7
                clear p7 s7 HN2 nx2
                go_wp2_with fail
                rw [rounds_succ]
                go_wp2_with fail
                (with_reducible refine (HN3.out _ _ (P6.out.more _)).mono ?_)
                rintro e w7 t7
                have s7 := (P6.out.more _).num t7 (ok := M.rnOk zs kk vi 3) rfl (rn_step3 zs (M.rt zs ({ kind := kk, way := vi } : M.Hdr) 5) (.slice none 0 0)).1 (rn_step3 zs (M.rt zs ({ kind := kk, way := vi } : M.Hdr) 5) (.slice none 0 0)).2
                clear P6 t7
                cases hok3 : M.rnOk zs kk vi 3 with
                | false =>
                  obtain ⟨rfl, p7⟩ := s7.1 hok3
                  have hx := hid (show M.hparse zs = (32, {}) by simp [M.hparse, HLen.out, HF.out.1, HF.out.2.1, HF.out.2.2.1, HF.out.2.2.2.1, HF.out.2.2.2.2, M.allOk, hok0, hok1, hok2, hok3])
                  exact stop_at hx.out p7 rfl rfl
                | true =>
                  obtain ⟨rfl, p7⟩ := s7.2 hok3
                  have P6 := hid p7
                  clear p7 s7 HN3 nx3
                  go_wp2_with fail
                  rw [rounds_succ]
                  go_wp2_with fail
                  (with_reducible refine (HN4.out _ _ (P6.out.more _)).mono ?_)
                  rintro e w7 t7
                  have s7 := (P6.out.more _).num t7 (ok := M.rnOk zs kk vi 4) rfl (rn_step4 zs (M.rt zs ({ kind := kk, way := vi } : M.Hdr) 5) (.slice none 0 0)).1 (rn_step4 zs (M.rt zs ({ kind := kk, way := vi } : M.Hdr) 5) (.slice none 0 0)).2
                  clear P6 t7
                  cases hok4 : M.rnOk zs kk vi 4 with
                  | false =>
                    obtain ⟨rfl, p7⟩ := s7.1 hok4
                    have hx := hid (show M.hparse zs = (32, {}) by simp [M.hparse, HLen.out, HF.out.1, HF.out.2.1, HF.out.2.2.1, HF.out.2.2.2.1, HF.out.2.2.2.2, M.allOk, hok0, hok1, hok2, hok3, hok4])
                    exact stop_at hx.out p7 rfl rfl
                  | true =>
                    obtain ⟨rfl, p7⟩ := s7.2 hok4
                    have P6 := hid p7
                    clear p7 s7 HN4 nx4
                    go_wp2_with fail
                    rw [rounds_succ]
                    go_wp2_with fail
                    (with_reducible refine (HN5.out _ _ (P6.out.more _)).mono ?_)
                    rintro e w7 t7
                    have s7 := (P6.out.more _).num t7 (ok := M.rnOk zs kk vi 5) rfl (rn_step5 zs (M.rt zs ({ kind := kk, way := vi } : M.Hdr) 5) (.slice none 0 0)).1 (rn_step5 zs (M.rt zs ({ kind := kk, way := vi } : M.Hdr) 5) (.slice none 0 0)).2
                    clear P6 t7
                    cases hok5 : M.rnOk zs kk vi 5 with
                    | false =>
                      obtain ⟨rfl, p7⟩ := s7.1 hok5
                      have hx := hid (show M.hparse zs = (32, {}) by simp [M.hparse, HLen.out, HF.out.1, HF.out.2.1, HF.out.2.2.1, HF.out.2.2.2.1, HF.out.2.2.2.2, M.allOk, hok0, hok1, hok2, hok3, hok4, hok5])
                      exact stop_at hx.out p7 rfl rfl
                    | true =>
                      obtain ⟨rfl, p7⟩ := s7.2 hok5
                      have P6 := hid p7
                      clear p7 s7 HN5 nx5
                      go_wp2_with fail
                      rw [rounds_succ]
                      go_wp2_with fail
                      (with_reducible refine (HN6.out _ _ (P6.out.more _)).mono ?_)
                      rintro e w7 t7
                      have s7 := (P6.out.more _).num t7 (ok := M.rnOk zs kk vi 6) rfl (rn_step6 zs (M.rt zs ({ kind := kk, way := vi } : M.Hdr) 5) (.slice none 0 0)).1 (rn_step6 zs (M.rt zs ({ kind := kk, way := vi } : M.Hdr) 5) (.slice none 0 0)).2
                      clear P6 t7
                      cases hok6 : M.rnOk zs kk vi 6 with
                      | false =>
                        obtain ⟨rfl, p7⟩ := s7.1 hok6
                        have hx := hid (show M.hparse zs = (32, {}) by simp [M.hparse, HLen.out, HF.out.1, HF.out.2.1, HF.out.2.2.1, HF.out.2.2.2.1, HF.out.2.2.2.2, M.allOk, hok0, hok1, hok2, hok3, hok4, hok5, hok6])
                        exact stop_at hx.out p7 rfl rfl
                      | true =>
                        obtain ⟨rfl, p7⟩ := s7.2 hok6
                        have P6 := hid p7
                        clear p7 s7 HN6 nx6
                        go_wp2_with fail
                        rw [rounds_succ]
                        go_wp2_with fail
                        (with_reducible refine (HN7.out _ _ (P6.out.more _)).mono ?_)
                        rintro e w7 t7
                        have s7 := (P6.out.more _).num t7 (ok := M.rnOk zs kk vi 7) rfl (rn_step7 zs (M.rt zs ({ kind := kk, way := vi } : M.Hdr) 5) (.slice none 0 0)).1 (rn_step7 zs (M.rt zs ({ kind := kk, way := vi } : M.Hdr) 5) (.slice none 0 0)).2
                        clear P6 t7
                        cases hok7 : M.rnOk zs kk vi 7 with
                        | false =>
                          obtain ⟨rfl, p7⟩ := s7.1 hok7
                          have hx := hid (show M.hparse zs = (32, {}) by simp [M.hparse, HLen.out, HF.out.1, HF.out.2.1, HF.out.2.2.1, HF.out.2.2.2.1, HF.out.2.2.2.2, M.allOk, hok0, hok1, hok2, hok3, hok4, hok5, hok6, hok7])
                          exact stop_at hx.out p7 rfl rfl
                        | true =>
                          obtain ⟨rfl, p7⟩ := s7.2 hok7
                          have P6 := hid p7
                          clear p7 s7 HN7 nx7
                          have hall : M.allOk zs kk vi = true := by simp [M.allOk, hok0, hok1, hok2, hok3, hok4, hok5, hok6, hok7]
                          have HF2 := hid (⟨HF.out.1, HF.out.2.1, HF.out.2.2.1, HF.out.2.2.2.1, HF.out.2.2.2.2, hall⟩ : M.right zs = true ∧ M.kind zs = kk ∧ M.known kk = true ∧ M.way zs = some v ∧ (v : Int) = vi ∧ M.allOk zs kk vi = true)
                          clear HF hall hok0 hok1 hok2 hok3 hok4 hok5 hok6 hok7
                          have HE := hid (show M.told zs v = M.rn zs (M.rt zs ({ kind := kk, way := vi } : M.Hdr) 5) 8 by unfold M.told; rw [HF2.out.2.1, HF2.out.2.2.2.2.1])
                          have HRT := hid (show (M.rn zs (M.rt zs ({ kind := kk, way := vi } : M.Hdr) 5) 8).parts = [] from rfl)
                          have c6 : w7.cell? ⟨w.heap.size, 6, none⟩ = some (.int .u8 kk) := P6.out.box.cell rfl
                          have c8 : w7.cell? ⟨w.heap.size, 8, none⟩ = some (.int .i64 vi) := P6.out.box.cell rfl
                          have P7 := hid (show PF w w7 (M.rn zs (M.rt zs ({ kind := kk, way := vi } : M.Hdr) 5) 8) (.slice none 0 0) from P6.out)
                          clear P6
                          generalize M.rn zs (M.rt zs ({ kind := kk, way := vi } : M.Hdr) 5) 8 = H at *
                          go_wp2_with fail
                          rw [rounds_succ]
                          go_wp2_with fail
                          (with_reducible refine (may_any kk vi _).mono ?_)
                          rintro e w9 ⟨rfl, rfl⟩
                          cases hmay : M.may kk vi with
                          | false =>
                            have hx := hid (show M.hparse zs = (31, {}) by simp [M.hparse, HLen.out, HF2.out.1, HF2.out.2.1, HF2.out.2.2.1, HF2.out.2.2.2.1, HF2.out.2.2.2.2.1, HF2.out.2.2.2.2.2, hmay])
                            go_wp2_with (go_at_call 48; (with_reducible refine (demand_no _ _).mono ?_); rintro e w9 ⟨rfl, rfl⟩)
                            exact stop_at hx.out P7.out rfl rfl
                          | true =>
                            by_cases hS : kk = 83
                            · have e83 : (kk == 83) = true := by simpa using hS
                              go_wp2_with (go_at_call 48; (with_reducible refine (demand_yes _ _).mono ?_); rintro e w9 ⟨rfl, rfl⟩)
                              refine (show Calls Tryz.prog 57 #[.slice (some ⟨b, off, none⟩) 512 c, .int .i64 386, .int .i64 4] w7 (PartsTo (M.parts zs 386 4) w7) from parts_any (some ⟨b, off, none⟩) 512 c zs 386 4 w7 w.heap.size (HRd.out _ P7.out.below) P7.out.below.size HD.out.1 HD.out.2 (by decide)).mono ?_
                              rintro e wq ⟨hq, bq⟩
                              have PQ := hid (P7.out.later bq)
                              have cq14 : wq.cell? ⟨w.heap.size, 14, none⟩ = some (.slice none 0 0) := PQ.out.box.cell rfl
                              have fq14 := PQ.out.box.frozen 14
                              cases hp : M.parts zs 386 4 with
                              | none =>
                                rw [hp] at hq
                                obtain rfl := hq
                                have hx := hid (show M.hparse zs = (32, {}) by simp [M.hparse, HLen.out, HF2.out.1, HF2.out.2.1, HF2.out.2.2.1, HF2.out.2.2.2.1, HF2.out.2.2.2.2.1, HF2.out.2.2.2.2.2, hmay, eq_true hS, hp])
                                clear hS hp
                                go_wp2_with (go_at_call 48; (with_reducible refine (demand_no _ _).mono ?_); rintro e w9 ⟨rfl, rfl⟩)
                                exact stop_at hx.out (PQ.out.set 14 _ (hcells_parts _ _ (.slice none 0 0) [])) rfl rfl
                              | some l =>
                                rw [hp] at hq
                                obtain ⟨pv, rfl, hpi⟩ := hq
                                have hx := hid (show M.hparse zs = (0, { H with parts := l, more := M.byt zs 482 != 0 }) by simp [M.hparse, HLen.out, HF2.out.1, HF2.out.2.1, HF2.out.2.2.1, HF2.out.2.2.2.1, HF2.out.2.2.2.2.1, HF2.out.2.2.2.2.2, hmay, eq_true hS, hp, HE.out])
                                have hpi2 := hid (hpi.lower (show w.heap.size + 2 ≤ w7.heap.size from (Array.getElem?_eq_some_iff.1 P7.out.err).1))
                                obtain ⟨A2, c2, rfl, _⟩ := hpi
                                obtain ⟨zz, hz, hzb⟩ := HBy.out
                                rw [hzb] at hx
                                have cz : wq.cell? ⟨b, off + 482, none⟩ = some (.int .u8 zz) := (PQ.out.below.cell (p := ⟨b, off + 482, none⟩) hbB).trans hz
                                have hbne : b ≠ w.heap.size := Nat.ne_of_lt hbB
                                have PR := hid (PQ.out.set 14 (.slice A2 l.length c2) (hcells_parts _ _ (.slice A2 l.length c2) l))
                                have cr : (wq.setCell ⟨w.heap.size, 14, none⟩ (.slice A2 l.length c2)).cell? ⟨b, off + 482, none⟩ = some (.int .u8 zz) := (World.cell?_setCell_other _ _ _ _ (fun e => by injection e with e _; exact hbne e.symm)).trans cz
                                have cr15 : (wq.setCell ⟨w.heap.size, 14, none⟩ (.slice A2 l.length c2)).cell? ⟨w.heap.size, 15, none⟩ = some (.bool H.more) := PR.out.box.cell rfl
                                have fr15 := PR.out.box.frozen 15
                                have PS2 := hid (PR.out.set 15 (.bool (zz != 0)) (hcells_more _ _ (zz != 0)))
                                have hps2 := hid ((hpi2.out.set ⟨w.heap.size, 14, none⟩ (by simp) (.slice A2 l.length c2)).set ⟨w.heap.size, 15, none⟩ (by simp) (.bool (zz != 0)))
                                have g1 : (((wq.setCell ⟨w.heap.size, 14, none⟩ (.slice A2 l.length c2)).setCell ⟨w.heap.size, 15, none⟩ (.bool (zz != 0))).setRow w.heap.size (hcells { H with parts := l, more := zz != 0 } (.slice A2 l.length c2))).cell? ⟨w.heap.size + 1, 0, none⟩ = some (.int .u16 0) := by rw [cell_of_row _ _ 0 _ _ _ PS2.out.whole.err]; rfl
                                have g2 := frozen_of_row _ _ 0 _ _ PS2.out.whole.err
                                clear hS hp cz hz hzb bq
                                go_wp2_with (first | (refine wpList_load_row rfl 33 (.tmp 2) rfl w.heap.size (by rfl) 33 (hcells { H with parts := l, more := zz != 0 } (.slice A2 l.length c2)) (0, 0) _ PS2.out.box Tryz.underlying33 rfl hdr_size ?_) | (refine wpList_store_row rfl 33 (.tmp 2) (.tmp 72) rfl w.heap.size (hcells { H with parts := l, more := zz != 0 } (.slice A2 l.length c2)) (by rfl) (by rfl) 33 (hcells { H with parts := l, more := zz != 0 } (.slice A2 l.length c2)) PS2.out.box hdr_size rfl (hcells_one _ rfl) ?_) | (go_at_call 48; (with_reducible refine (demand_yes _ _).mono ?_); rintro e w9 ⟨rfl, rfl⟩))
                                exact end_at hx.out PS2.out.whole.err0 (((hps2.out.row w.heap.size (by omega) _).set ⟨w.heap.size + 1, 0, none⟩ (by simp) _).lower (by omega)) rfl rfl
                            · have e83 : (kk == 83) = false := by simpa using hS
                              have hx := hid (show M.hparse zs = (0, H) by simp [M.hparse, HLen.out, HF2.out.1, HF2.out.2.1, HF2.out.2.2.1, HF2.out.2.2.2.1, HF2.out.2.2.2.2.1, HF2.out.2.2.2.2.2, hmay, hS, HE.out])
                              have g1 : (w7.setRow w.heap.size (hcells H (.slice none 0 0))).cell? ⟨w.heap.size + 1, 0, none⟩ = some (.int .u16 0) := by rw [cell_of_row _ _ 0 _ _ _ P7.out.whole.err]; rfl
                              have g2 := frozen_of_row _ _ 0 _ _ P7.out.whole.err
                              clear hS
                              go_wp2_with (first | (refine wpList_load_row rfl 33 (.tmp 2) rfl w.heap.size (by rfl) 33 (hcells H (.slice none 0 0)) (0, 0) _ P7.out.box Tryz.underlying33 rfl hdr_size ?_) | (refine wpList_store_row rfl 33 (.tmp 2) (.tmp 72) rfl w.heap.size (hcells H (.slice none 0 0)) (by rfl) (by rfl) 33 (hcells H (.slice none 0 0)) P7.out.box hdr_size rfl (hcells_one _ rfl) ?_) | (go_at_call 48; (with_reducible refine (demand_yes _ _).mono ?_); rintro e w9 ⟨rfl, rfl⟩))
                              exact end_at hx.out P7.out.whole.err0 (HRT.out ▸ PartsIs.nil _ _) rfl rfl
end Go.Proofs.YtkpnhggpcpjddaaGreatDoor
