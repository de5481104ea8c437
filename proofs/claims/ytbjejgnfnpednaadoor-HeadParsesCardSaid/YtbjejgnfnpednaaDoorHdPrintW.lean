/-
  head.Print: the walk.
-/
import Derived.Test.YtbjejgnfnpednaaDoorHMh
namespace Go.Proofs.YtbjejgnfnpednaaDoor
open Go.RowKit Go.Lib
attribute [local go_sem ↓] run_make512

/-- A header that may come in. -/
structure HIn (w : World) (h : M.Hdr) (pv : Value) : Prop where
  parts : PartsB w w.heap.size pv h.parts
  nums : i64p h.parts
  kind : 0 ≤ h.kind ∧ h.kind ≤ 255
  ints : (-9223372036854775808 ≤ h.mode ∧ h.mode ≤ 9223372036854775807) ∧ (-9223372036854775808 ≤ h.uid ∧ h.uid ≤ 9223372036854775807) ∧ (-9223372036854775808 ≤ h.gid ∧ h.gid ≤ 9223372036854775807) ∧ (-9223372036854775808 ≤ h.size ∧ h.size ≤ 9223372036854775807) ∧ (-9223372036854775808 ≤ h.mtime ∧ h.mtime ≤ 9223372036854775807) ∧
    (-9223372036854775808 ≤ h.major ∧ h.major ≤ 9223372036854775807) ∧ (-9223372036854775808 ≤ h.minor ∧ h.minor ≤ 9223372036854775807) ∧ (-9223372036854775808 ≤ h.real ∧ h.real ≤ 9223372036854775807)
  texts : h.name.size ≤ 100000 ∧ h.link.size ≤ 100000 ∧ h.user.size ≤ 100000 ∧ h.group.size ≤ 100000 ∧ h.pre.size ≤ 100000

theorem print_done {r : Int × List Int} {ys : List Int} {tmps : Array Value} {w0 w : World} {h : M.Hdr} {pv v : Value} {g : Nat} (hr : r = (0, ys)) (q : QF w0 w h pv v) (hg : w0.heap.size + 3 ≤ g) (ha : Arr w g 86 ys)
    (h2 : tmps.getD 2 undef = .pointer (some ⟨w0.heap.size + 1, 0, none⟩)) (h3 : tmps.getD 3 undef = .pointer (some ⟨w0.heap.size + 2, 0, none⟩)) :
    bodyPostD Tryd.prog Tryd.f11 (PrintIs r w0) .ret
      { tmps := tmps, defers := [{ target := .fn (.func 24) #[.pointer (some ⟨w0.heap.size + 1, 0, none⟩), .pointer (some ⟨w0.heap.size + 2, 0, none⟩)], args := #[] }] }
      ((w.setCell ⟨w0.heap.size + 1, 0, none⟩ (.slice (some ⟨g, 0, none⟩) 512 512)).setCell ⟨w0.heap.size + 2, 0, none⟩ (.int .u16 0)) := by
  have hb1 := heap_setCell_same w _ 0 _ _ (.slice (some ⟨g, 0, none⟩) 512 512) q.bytes
  have hb2 := (heap_setCell_other (w.setCell ⟨w0.heap.size + 1, 0, none⟩ (.slice (some ⟨g, 0, none⟩) 512 512)) ⟨w0.heap.size + 2, 0, none⟩ (w0.heap.size + 1) (.int .u16 0) (by simp)).trans hb1
  have he1 := (heap_setCell_other w ⟨w0.heap.size + 1, 0, none⟩ (w0.heap.size + 2) (.slice (some ⟨g, 0, none⟩) 512 512) (by simp)).trans q.err
  have he2 := heap_setCell_same _ _ 0 _ _ (.int .u16 0) he1
  have hbl := (q.below.setCell (p := ⟨w0.heap.size + 1, 0, none⟩) (by simp) (.slice (some ⟨g, 0, none⟩) 512 512)).setCell (p := ⟨w0.heap.size + 2, 0, none⟩) (by simp) (.int .u16 0)
  have ha2 := (ha.setOther (a := ⟨w0.heap.size + 1, 0, none⟩) (by simp; omega) (.slice (some ⟨g, 0, none⟩) 512 512)).setOther (a := ⟨w0.heap.size + 2, 0, none⟩) (by simp; omega) (.int .u16 0)
  exact print_end hr (by omega) ha2 (by simpa using hb2) (by simpa using he2) hbl h2 h3
theorem magic_len (k : Nat) : (M.magic k).length = 8 := by
  match k with
  | 0 => rfl
  | 1 => rfl
  | k + 2 => rfl
theorem PartsB.mono {w : World} {B B' : Nat} {pv : Value} {l : List (Int × Int)} (h : PartsB w B pv l) (hb : B ≤ B') : PartsB w B' pv l := by
  obtain ⟨A, c, rfl, h1, h2⟩ := h
  exact ⟨A, c, rfl, h1, fun hl => let ⟨b, off, e, h4, h5⟩ := h2 hl; ⟨b, off, e, Nat.lt_of_lt_of_le h4 hb, h5⟩⟩
theorem mg_cell {W : World} (h : MG W) {k : Nat} (hk : k < 3) : W.cell? ⟨0, k, none⟩ = some (.string (mgs k)) := by
  have : k = 0 ∨ k = 1 ∨ k = 2 := by omega
  rcases this with rfl | rfl | rfl
  · exact h.1
  · exact h.2.1
  · exact h.2.2
theorem magic_row (k : Nat) (hk : k < 3) : Lib.byteCells (mgs k).data.toList = bcells (M.magic k) ∧ (mgs k).size = 8 := by
  have : k = 0 ∨ k = 1 ∨ k = 2 := by omega
  rcases this with rfl | rfl | rfl <;> exact ⟨rfl, rfl⟩
theorem copy_magic (W : World) (gb : Nat) (zs : List Int) (k : Nat) (hk : k < 3) (ty : TypeId) (ha : Arr W gb 5 zs) (hz : zs.length = 512) :
    (Builtin.copy_ #[22, 9] ty #[.slice (some ⟨gb, 257, none⟩) 255 255, .string (mgs k)]).run Tryd.prog W = .ok (.int .i64 8) (laid W gb (splice zs 257 (M.magic k))) := by
  obtain ⟨h1, h2⟩ := magic_row k hk
  have h := Lib.run_copy_row_string (P := Tryd.prog) W 22 9 ty 5 gb 257 255 255 (mgs k) _ _ Tryd.underlying22 u8_size ha.out (by omega) (by rw [bcells_size, hz]; omega)
  rw [h1, h2] at h
  have e := splice_cells zs (M.magic k) 257
  have hm : (bcells (M.magic k)).length = 8 := by rw [← h1, Lib.byteCells_length, ← h2]; rfl
  rw [hm] at e
  rw [List.append_assoc, e] at h
  exact h

set_option maxRecDepth 100000 in
set_option maxHeartbeats 4000000 in
theorem hprint_any (h : M.Hdr) (pv : Value) (w : World) (hi : HIn w h pv) (hmg : MG w) :
    Calls Tryd.prog 11 #[.agg (hcells h pv)] w (PrintIs (M.hprint h) w) := by
  have hmf : ∀ (fn : Fn) (first cap : Array Value) (w : World), (Instr.makeFunc fn first cap).run Tryd.prog w = .ok (.func fn first cap) w := fun _ _ _ _ => rfl
  have HI := hid hi
  have HMG := hid (fun (W : World) (hW : Below w.heap.size w W) => hmg.later hW)
  obtain ⟨Ap, cp, rfl, _, _⟩ := hi.parts
  clear hi hmg
  generalize hkk : h.kind = kk
  generalize hvi : h.way = vi
  generalize hpv : (.slice Ap h.parts.length cp : Value) = pv at *
  have HPV := hid hpv
  have HK := hid hkk
  have HV := hid hvi
  have hc6 : (hcells h pv)[6]? = some (.int .u8 kk) := by rw [← hkk]; rfl
  have hc8 : (hcells h pv)[8]? = some (.int .i64 vi) := by rw [← hvi]; rfl
  have QS := hid (QF.start w h pv)
  cases hkn : M.known kk with
  | false =>
    have hx := hid (show M.hprint h = (31, []) by simp [M.hprint, M.chk, hkk, hkn])
    go_enter_defers Tryd.func11, Tryd.ntmps11
    go_wp2_with fail
    (with_reducible refine (known_any kk _).mono ?_)
    rintro e w9 ⟨rfl, rfl⟩
    rw [hkn]
    go_wp2_with (go_at_call 25; (with_reducible refine (demand_no _ _).mono ?_); rintro e w9 ⟨rfl, rfl⟩)
    exact print_stop hx.out (by decide) QS.out rfl rfl
  | true =>
    go_enter_defers Tryd.func11, Tryd.ntmps11
    go_wp2_with fail
    (with_reducible refine (known_any kk _).mono ?_)
    rintro e w9 ⟨rfl, rfl⟩
    rw [hkn]
    go_wp2_with fail
    (with_reducible refine (may_any kk vi _).mono ?_)
    rintro e w9 ⟨rfl, rfl⟩
    cases hmy : M.may kk vi with
    | false =>
      have hx := hid (show M.hprint h = (31, []) by simp [M.hprint, M.chk, hkk, hvi, hkn, hmy])
      go_wp2_with (go_at_call 25; (with_reducible refine (demand_no _ _).mono ?_); rintro e w9 ⟨rfl, rfl⟩)
      exact print_stop hx.out (by decide) QS.out rfl rfl
    | true =>
      go_wp2_with (go_at_call 25; (with_reducible refine (demand_yes _ _).mono ?_); rintro e w9 ⟨rfl, rfl⟩)
      have hkb : 0 ≤ kk ∧ kk ≤ 255 := by rw [← hkk]; exact HI.out.kind
      refine (show Calls Tryd.prog 27 #[.pointer (some ⟨w.heap.size, 0, none⟩)] _ (fun e w' => e = .returned (.agg (textsV w.heap.size vi)) ∧ Below (World.heap _).size _ w') from hvi ▸ texts_any _ _ _ _ (RF.start w h pv kk hkb).q.box).mono ?_
      rintro e w4 ⟨rfl, b4⟩
      have R4 := hid ((RF.start w h pv kk hkb).later b4)
      clear b4 QS hc6 hc8
      have HF := hid (⟨hkk, hvi, hkn, hmy⟩ : h.kind = kk ∧ h.way = vi ∧ M.known kk = true ∧ M.may kk vi = true)
      generalize hz0 : (nils 512).set 156 kk = z0 at *
      have HZ0 := hid hz0
      clear hz0 hkn hmy hkk hvi
      have HT0 := hid (fun (W : World) (ys : List Int) (hW : RF w W h pv ys) => show Calls Tryd.prog 28 #[.agg #[.int .i64 0, .int .i64 100, .bool true, .pointer (some ⟨w.heap.size, 0, none⟩)], .slice (some ⟨w.heap.size + 3, 0, none⟩) 512 512] W (TxtPut ys 0 100 h.name (w.heap.size + 3) W) from text_print 0 100 true w.heap.size 0 (w.heap.size + 3) ys h.name W (by decide) (by decide) HI.out.texts.1 hW.len hW.arr (hW.q.box.cell rfl))
      have tx0 := texts_at0 w.heap.size vi
      have HT1 := hid (fun (W : World) (ys : List Int) (hW : RF w W h pv ys) => show Calls Tryd.prog 28 #[.agg #[.int .i64 157, .int .i64 100, .bool true, .pointer (some ⟨w.heap.size, 7, none⟩)], .slice (some ⟨w.heap.size + 3, 0, none⟩) 512 512] W (TxtPut ys 157 100 h.link (w.heap.size + 3) W) from text_print 157 100 true w.heap.size 7 (w.heap.size + 3) ys h.link W (by decide) (by decide) HI.out.texts.2.1 hW.len hW.arr (hW.q.box.cell rfl))
      have tx1 := texts_at1 w.heap.size vi
      have HT2 := hid (fun (W : World) (ys : List Int) (hW : RF w W h pv ys) => show Calls Tryd.prog 28 #[.agg #[.int .i64 265, .int .i64 32, .bool (vi != 0), .pointer (some ⟨w.heap.size, 9, none⟩)], .slice (some ⟨w.heap.size + 3, 0, none⟩) 512 512] W (TxtPut ys 265 32 h.user (w.heap.size + 3) W) from text_print 265 32 (vi != 0) w.heap.size 9 (w.heap.size + 3) ys h.user W (by decide) (by decide) HI.out.texts.2.2.1 hW.len hW.arr (hW.q.box.cell rfl))
      have tx2 := texts_at2 w.heap.size vi
      have HT3 := hid (fun (W : World) (ys : List Int) (hW : RF w W h pv ys) => show Calls Tryd.prog 28 #[.agg #[.int .i64 297, .int .i64 32, .bool (vi != 0), .pointer (some ⟨w.heap.size, 10, none⟩)], .slice (some ⟨w.heap.size + 3, 0, none⟩) 512 512] W (TxtPut ys 297 32 h.group (w.heap.size + 3) W) from text_print 297 32 (vi != 0) w.heap.size 10 (w.heap.size + 3) ys h.group W (by decide) (by decide) HI.out.texts.2.2.2.1 hW.len hW.arr (hW.q.box.cell rfl))
      have tx3 := texts_at3 w.heap.size vi
      have HT4 := hid (fun (W : World) (ys : List Int) (hW : RF w W h pv ys) => show Calls Tryd.prog 28 #[.agg #[.int .i64 345, .int .i64 155, .bool (vi == 1), .pointer (some ⟨w.heap.size, 13, none⟩)], .slice (some ⟨w.heap.size + 3, 0, none⟩) 512 512] W (TxtPut ys 345 155 h.pre (w.heap.size + 3) W) from text_print 345 155 (vi == 1) w.heap.size 13 (w.heap.size + 3) ys h.pre W (by decide) (by decide) HI.out.texts.2.2.2.2 hW.len hW.arr (hW.q.box.cell rfl))
      have tx4 := texts_at4 w.heap.size vi
      go_wp2_with fail
      refine wp_loop_rounds 6 ?_
      rw [rounds_succ]
      have cb := fun o => (R4.out.more o).cb
      go_wp2_with fail
      (with_reducible refine (HT0.out _ _ (R4.out.more _)).mono ?_)
      rintro e w5 t5
      have s5 := (R4.out.more _).text (by decide) t5
      clear R4 t5 cb
      cases hpt0 : M.putT z0 0 100 h.name with
      | none =>
        obtain ⟨rfl, q5⟩ := s5.1 hpt0
        have hx := hid (show M.hprint h = (33, []) by simp [M.hprint, M.chk, M.bnd, HF.out.1, HF.out.2.1, HF.out.2.2.1, HF.out.2.2.2, HZ0.out, hpt0])
        exact print_stop hx.out (by decide) q5 rfl rfl
      | some z1 =>
        obtain ⟨rfl, r5⟩ := s5.2 _ hpt0
        have R4 := hid r5
        clear r5 s5 HT0 tx0
        go_wp2_with fail
        rw [rounds_succ]
        have cb := fun o => (R4.out.more o).cb
        go_wp2_with fail
        (with_reducible refine (HT1.out _ _ (R4.out.more _)).mono ?_)
        rintro e w5 t5
        have s5 := (R4.out.more _).text (by decide) t5
        clear R4 t5 cb
        cases hpt1 : M.putT z1 157 100 h.link with
        | none =>
          obtain ⟨rfl, q5⟩ := s5.1 hpt1
          have hx := hid (show M.hprint h = (33, []) by simp [M.hprint, M.chk, M.bnd, HF.out.1, HF.out.2.1, HF.out.2.2.1, HF.out.2.2.2, HZ0.out, hpt0, hpt1])
          exact print_stop hx.out (by decide) q5 rfl rfl
        | some z2 =>
          obtain ⟨rfl, r5⟩ := s5.2 _ hpt1
          have R4 := hid r5
          clear r5 s5 HT1 tx1
          go_wp2_with fail
          rw [rounds_succ]
          have cb := fun o => (R4.out.more o).cb
          go_wp2_with fail
          (with_reducible refine (HT2.out _ _ (R4.out.more _)).mono ?_)
          rintro e w5 t5
          have s5 := (R4.out.more _).text (by decide) t5
          clear R4 t5 cb
          cases hpt2 : M.putT z2 265 32 h.user with
          | none =>
            obtain ⟨rfl, q5⟩ := s5.1 hpt2
            have hx := hid (show M.hprint h = (33, []) by simp [M.hprint, M.chk, M.bnd, HF.out.1, HF.out.2.1, HF.out.2.2.1, HF.out.2.2.2, HZ0.out, hpt0, hpt1, hpt2])
            exact print_stop hx.out (by decide) q5 rfl rfl
          | some z3 =>
            obtain ⟨rfl, r5⟩ := s5.2 _ hpt2
            have R4 := hid r5
            clear r5 s5 HT2 tx2
            go_wp2_with fail
            rw [rounds_succ]
            have cb := fun o => (R4.out.more o).cb
            go_wp2_with fail
            (with_reducible refine (HT3.out _ _ (R4.out.more _)).mono ?_)
            rintro e w5 t5
            have s5 := (R4.out.more _).text (by decide) t5
            clear R4 t5 cb
            cases hpt3 : M.putT z3 297 32 h.group with
            | none =>
              obtain ⟨rfl, q5⟩ := s5.1 hpt3
              have hx := hid (show M.hprint h = (33, []) by simp [M.hprint, M.chk, M.bnd, HF.out.1, HF.out.2.1, HF.out.2.2.1, HF.out.2.2.2, HZ0.out, hpt0, hpt1, hpt2, hpt3])
              exact print_stop hx.out (by decide) q5 rfl rfl
            | some z4 =>
              obtain ⟨rfl, r5⟩ := s5.2 _ hpt3
              have R4 := hid r5
              clear r5 s5 HT3 tx3
              go_wp2_with fail
              rw [rounds_succ]
              have cb := fun o => (R4.out.more o).cb
              go_wp2_with fail
              (with_reducible refine (HT4.out _ _ (R4.out.more _)).mono ?_)
              rintro e w5 t5
              have s5 := (R4.out.more _).text (by decide) t5
              clear R4 t5 cb
              cases hpt4 : M.putT z4 345 155 h.pre with
              | none =>
                obtain ⟨rfl, q5⟩ := s5.1 hpt4
                have hx := hid (show M.hprint h = (33, []) by simp [M.hprint, M.chk, M.bnd, HF.out.1, HF.out.2.1, HF.out.2.2.1, HF.out.2.2.2, HZ0.out, hpt0, hpt1, hpt2, hpt3, hpt4])
                exact print_stop hx.out (by decide) q5 rfl rfl
              | some z5 =>
                obtain ⟨rfl, r5⟩ := s5.2 _ hpt4
                have R4 := hid r5
                clear r5 s5 HT4 tx4
                go_wp2_with fail
                rw [rounds_succ]
                have HF5 := hid (⟨hpt0, hpt1, hpt2, hpt3, hpt4⟩ : M.putT z0 0 100 h.name = some z1 ∧ M.putT z1 157 100 h.link = some z2 ∧ M.putT z2 265 32 h.user = some z3 ∧ M.putT z3 297 32 h.group = some z4 ∧ M.putT z4 345 155 h.pre = some z5)
                clear hpt0 hpt1 hpt2 hpt3 hpt4
                go_wp2_with fail
                refine (show Calls Tryd.prog 27 #[.pointer (some ⟨w.heap.size, 0, none⟩)] _ (fun e w' => e = .returned (.agg (textsV w.heap.size vi)) ∧ Below (World.heap _).size _ w') from HV.out ▸ texts_any _ _ _ _ R4.out.q.box).mono ?_
                rintro e w6 ⟨rfl, b6⟩
                have R6 := hid (R4.out.later b6)
                clear b6 R4
                have tx0 := texts_at0 w.heap.size vi
                have tx1 := texts_at1 w.heap.size vi
                have tx2 := texts_at2 w.heap.size vi
                have tx3 := texts_at3 w.heap.size vi
                have tx4 := texts_at4 w.heap.size vi
                go_wp2_with fail
                go_loopw [36] (fun i wr => BareAt w h pv z5 i wr) (fun i _ => 5 - (RowKit.intOf i).toNat)
                case atStart => exact ⟨0, rfl, by decide, hid (fun j hj => absurd hj (by omega)), R6⟩
                case round =>
                  clear R6
                  obtain ⟨k, rfl, hk, HJ, R⟩ := hrel
                  have h6 : k = 0 ∨ k = 1 ∨ k = 2 ∨ k = 3 ∨ k = 4 ∨ k = 5 := by omega
                  rcases h6 with rfl | rfl | rfl | rfl | rfl | rfl
                  · have HJ2 := hid (M.bare_more HJ.out rfl)
                    go_wp2_with (go_at_call 25; (with_reducible refine (demand_yes _ _).mono ?_); rintro e w9 ⟨rfl, rfl⟩)
                    go_round
                    case rel => exact ⟨1, rfl, by decide, HJ2, hid (R.out.more _)⟩
                    case measure => simp [RowKit.intOf]
                  · have HJ2 := hid (M.bare_more HJ.out rfl)
                    go_wp2_with (go_at_call 25; (with_reducible refine (demand_yes _ _).mono ?_); rintro e w9 ⟨rfl, rfl⟩)
                    go_round
                    case rel => exact ⟨2, rfl, by decide, HJ2, hid (R.out.more _)⟩
                    case measure => simp [RowKit.intOf]
                  · have hck : M.bareAt h 2 = ((vi != 0) || M.blank h.user) := by rw [← HV.out]; rfl
                    cases ht : (vi != 0) with
                    | true =>
                      have HJ2 := hid (M.bare_more HJ.out (by rw [hck, ht]; rfl))
                      clear hck
                      go_wp2_with (go_at_call 25; (with_reducible refine (demand_yes _ _).mono ?_); rintro e w9 ⟨rfl, rfl⟩)
                      go_round
                      case rel => exact ⟨3, rfl, by decide, HJ2, hid (R.out.more _)⟩
                      case measure => simp [RowKit.intOf]
                    | false =>
                      have cs := fun o => (R.out.more o).q.box.cell (i := 9) (v := .string h.user) rfl
                      cases hb : M.blank h.user with
                      | true =>
                        have HJ2 := hid (M.bare_more HJ.out (by rw [hck, ht, hb]; rfl))
                        have hb2 : (h.user.toList == []) = true := hb
                        clear hck hb
                        go_wp2_with (go_at_call 25; (with_reducible refine (demand_yes _ _).mono ?_); rintro e w9 ⟨rfl, rfl⟩)
                        go_round
                        case rel => exact ⟨3, rfl, by decide, HJ2, hid (R.out.more _)⟩
                        case measure => simp [RowKit.intOf]
                      | false =>
                        have hbb := M.bare_not (h := h) (j := 2) (by rw [hck, ht, hb]; rfl)
                        have hb2 : (h.user.toList == []) = false := hb
                        have hx := hid (show M.hprint h = (32, []) by simp [M.hprint, M.chk, M.bnd, HF.out.1, HF.out.2.1, HF.out.2.2.1, HF.out.2.2.2, HZ0.out, HF5.out.1, HF5.out.2.1, HF5.out.2.2.1, HF5.out.2.2.2.1, HF5.out.2.2.2.2, hbb])
                        clear hck hb hbb
                        go_wp2_with (go_at_call 25; (with_reducible refine (demand_no _ _).mono ?_); rintro e w9 ⟨rfl, rfl⟩)
                        exact print_stop hx.out (by decide) (R.out.more _).q rfl rfl
                  · have hck : M.bareAt h 3 = ((vi != 0) || M.blank h.group) := by rw [← HV.out]; rfl
                    cases ht : (vi != 0) with
                    | true =>
                      have HJ2 := hid (M.bare_more HJ.out (by rw [hck, ht]; rfl))
                      clear hck
                      go_wp2_with (go_at_call 25; (with_reducible refine (demand_yes _ _).mono ?_); rintro e w9 ⟨rfl, rfl⟩)
                      go_round
                      case rel => exact ⟨4, rfl, by decide, HJ2, hid (R.out.more _)⟩
                      case measure => simp [RowKit.intOf]
                    | false =>
                      have cs := fun o => (R.out.more o).q.box.cell (i := 10) (v := .string h.group) rfl
                      cases hb : M.blank h.group with
                      | true =>
                        have HJ2 := hid (M.bare_more HJ.out (by rw [hck, ht, hb]; rfl))
                        have hb2 : (h.group.toList == []) = true := hb
                        clear hck hb
                        go_wp2_with (go_at_call 25; (with_reducible refine (demand_yes _ _).mono ?_); rintro e w9 ⟨rfl, rfl⟩)
                        go_round
                        case rel => exact ⟨4, rfl, by decide, HJ2, hid (R.out.more _)⟩
                        case measure => simp [RowKit.intOf]
                      | false =>
                        have hbb := M.bare_not (h := h) (j := 3) (by rw [hck, ht, hb]; rfl)
                        have hb2 : (h.group.toList == []) = false := hb
                        have hx := hid (show M.hprint h = (32, []) by simp [M.hprint, M.chk, M.bnd, HF.out.1, HF.out.2.1, HF.out.2.2.1, HF.out.2.2.2, HZ0.out, HF5.out.1, HF5.out.2.1, HF5.out.2.2.1, HF5.out.2.2.2.1, HF5.out.2.2.2.2, hbb])
                        clear hck hb hbb
                        go_wp2_with (go_at_call 25; (with_reducible refine (demand_no _ _).mono ?_); rintro e w9 ⟨rfl, rfl⟩)
                        exact print_stop hx.out (by decide) (R.out.more _).q rfl rfl
                  · have hck : M.bareAt h 4 = ((vi == 1) || M.blank h.pre) := by rw [← HV.out]; rfl
                    cases ht : (vi == 1) with
                    | true =>
                      have HJ2 := hid (M.bare_more HJ.out (by rw [hck, ht]; rfl))
                      clear hck
                      go_wp2_with (go_at_call 25; (with_reducible refine (demand_yes _ _).mono ?_); rintro e w9 ⟨rfl, rfl⟩)
                      go_round
                      case rel => exact ⟨5, rfl, by decide, HJ2, hid (R.out.more _)⟩
                      case measure => simp [RowKit.intOf]
                    | false =>
                      have cs := fun o => (R.out.more o).q.box.cell (i := 13) (v := .string h.pre) rfl
                      cases hb : M.blank h.pre with
                      | true =>
                        have HJ2 := hid (M.bare_more HJ.out (by rw [hck, ht, hb]; rfl))
                        have hb2 : (h.pre.toList == []) = true := hb
                        clear hck hb
                        go_wp2_with (go_at_call 25; (with_reducible refine (demand_yes _ _).mono ?_); rintro e w9 ⟨rfl, rfl⟩)
                        go_round
                        case rel => exact ⟨5, rfl, by decide, HJ2, hid (R.out.more _)⟩
                        case measure => simp [RowKit.intOf]
                      | false =>
                        have hbb := M.bare_not (h := h) (j := 4) (by rw [hck, ht, hb]; rfl)
                        have hb2 : (h.pre.toList == []) = false := hb
                        have hx := hid (show M.hprint h = (32, []) by simp [M.hprint, M.chk, M.bnd, HF.out.1, HF.out.2.1, HF.out.2.2.1, HF.out.2.2.2, HZ0.out, HF5.out.1, HF5.out.2.1, HF5.out.2.2.1, HF5.out.2.2.2.1, HF5.out.2.2.2.2, hbb])
                        clear hck hb hbb
                        go_wp2_with (go_at_call 25; (with_reducible refine (demand_no _ _).mono ?_); rintro e w9 ⟨rfl, rfl⟩)
                        exact print_stop hx.out (by decide) (R.out.more _).q rfl rfl
                  · have HBR := hid (M.bare_all HJ.out)
                    clear HJ tx0 tx1 tx2 tx3 tx4
                    have c8 : wr.cell? ⟨w.heap.size, 8, none⟩ = some (.int .i64 vi) := HV.out ▸ R.out.q.box.cell rfl
                    cases hw0 : decide (0 ≤ vi) with
                    | false =>
                      have hiw : M.isWay vi = false := by unfold M.isWay; rw [hw0]; rfl
                      have hx := hid (show M.hprint h = (32, []) by simp [M.hprint, M.chk, M.bnd, HF.out.1, HF.out.2.1, HF.out.2.2.1, HF.out.2.2.2, HZ0.out, HF5.out.1, HF5.out.2.1, HF5.out.2.2.1, HF5.out.2.2.2.1, HF5.out.2.2.2.2, HBR.out, hiw])
                      clear hiw
                      go_wp2_with (go_at_call 25; (with_reducible refine (demand_no _ _).mono ?_); rintro e w9 ⟨rfl, rfl⟩)
                      exact print_stop hx.out (by decide) R.out.q rfl rfl
                    | true =>
                      cases hw3 : decide (vi < 3) with
                      | false =>
                        have hiw : M.isWay vi = false := by unfold M.isWay; rw [hw0, hw3]; rfl
                        have hx := hid (show M.hprint h = (32, []) by simp [M.hprint, M.chk, M.bnd, HF.out.1, HF.out.2.1, HF.out.2.2.1, HF.out.2.2.2, HZ0.out, HF5.out.1, HF5.out.2.1, HF5.out.2.2.1, HF5.out.2.2.2.1, HF5.out.2.2.2.2, HBR.out, hiw])
                        clear hiw
                        go_wp2_with (go_at_call 25; (with_reducible refine (demand_no _ _).mono ?_); rintro e w9 ⟨rfl, rfl⟩)
                        exact print_stop hx.out (by decide) R.out.q rfl rfl
                      | true =>
                        have HIW := hid (show M.isWay vi = true by unfold M.isWay; rw [hw0, hw3]; rfl)
                        go_wp2_with (go_at_call 25; (with_reducible refine (demand_yes _ _).mono ?_); rintro e w9 ⟨rfl, rfl⟩)
                        have hv0 : 0 ≤ vi := of_decide_eq_true hw0
                        have hv3 : vi < 3 := of_decide_eq_true hw3
                        have hvn : vi.toNat < 3 := by omega
                        have RV := hid R.out.drew
                        have hgm : wr.drew.cell? ⟨0, vi.toNat, none⟩ = some (.string (mgs vi.toNat)) := mg_cell (HMG.out _ R.out.drew.q.below) hvn
                        unfold World.drew at RV hgm
                        clear c8 R
                        refine wp_region_still_tail 6 (by kernel_rfl) (by kernel_rfl) ?_
                        simp only [List.take_succ_cons, List.take_zero, List.drop_succ_cons, List.drop_zero]
                        generalize ({ wr with drawn := wr.drawn + 1 } : World) = V at *
                        have cb := RV.out.cb
                        have c8 : V.cell? ⟨w.heap.size, 8, none⟩ = some (.int .i64 vi) := HV.out ▸ RV.out.q.box.cell rfl
                        have hcp := fun ty => copy_magic V (w.heap.size + 3) z5 vi.toNat hvn ty RV.out.arr RV.out.len
                        generalize mgs vi.toNat = ms at *
                        clear hw0 hw3
                        repeat still_step
                        try refine wpStill_nil ?_
                        go_wp2_with fail
                        have R7 := hid (RV.out.laid (ys := splice z5 257 (M.magic vi.toNat)) (splice_len (n := 8) RV.out.len (magic_len _) (by decide)) (splice_bd RV.out.bd (magic_bd _)))
                        clear RV hcp hgm cb c8
                        generalize hy0 : splice z5 257 (M.magic vi.toNat) = y0 at *
                        have HY0 := hid hy0
                        generalize laid V _ _ = w7 at *
                        clear hy0 hv0 hv3 hvn
                        refine (show Calls Tryd.prog 29 #[.pointer (some ⟨w.heap.size, 0, none⟩)] _ (fun e w' => e = .returned (.agg (numbersV w.heap.size kk vi)) ∧ Below (World.heap _).size _ w') from HK.out ▸ HV.out ▸ numbers_any _ _ _ _ R7.out.q.box).mono ?_
                        rintro e w8 ⟨rfl, b8⟩
                        have R8 := hid (R7.out.later b8)
                        clear b8 R7
                        have HN0 := hid (fun (W : World) (ys : List Int) (hW : RF w W h pv ys) => show Calls Tryd.prog 30 #[.agg #[.int .i64 100, .int .i64 8, .bool true, .int .i64 0, .int .i64 4611686018427387904, .pointer (some ⟨w.heap.size, 1, none⟩)], .slice (some ⟨w.heap.size + 3, 0, none⟩) 512 512] W (NumPut ys 100 8 true 0 M.most h.mode (w.heap.size + 3) W) from number_print 100 8 true 0 M.most w.heap.size 1 (w.heap.size + 3) ys h.mode W (by decide) (by decide) HI.out.ints.1 hW.len hW.arr (hW.q.box.cell rfl))
                        have nx0 := nums_at0 w.heap.size kk vi
                        have HN1 := hid (fun (W : World) (ys : List Int) (hW : RF w W h pv ys) => show Calls Tryd.prog 30 #[.agg #[.int .i64 108, .int .i64 8, .bool true, .int .i64 0, .int .i64 4611686018427387904, .pointer (some ⟨w.heap.size, 2, none⟩)], .slice (some ⟨w.heap.size + 3, 0, none⟩) 512 512] W (NumPut ys 108 8 true 0 M.most h.uid (w.heap.size + 3) W) from number_print 108 8 true 0 M.most w.heap.size 2 (w.heap.size + 3) ys h.uid W (by decide) (by decide) HI.out.ints.2.1 hW.len hW.arr (hW.q.box.cell rfl))
                        have nx1 := nums_at1 w.heap.size kk vi
                        have HN2 := hid (fun (W : World) (ys : List Int) (hW : RF w W h pv ys) => show Calls Tryd.prog 30 #[.agg #[.int .i64 116, .int .i64 8, .bool true, .int .i64 0, .int .i64 4611686018427387904, .pointer (some ⟨w.heap.size, 3, none⟩)], .slice (some ⟨w.heap.size + 3, 0, none⟩) 512 512] W (NumPut ys 116 8 true 0 M.most h.gid (w.heap.size + 3) W) from number_print 116 8 true 0 M.most w.heap.size 3 (w.heap.size + 3) ys h.gid W (by decide) (by decide) HI.out.ints.2.2.1 hW.len hW.arr (hW.q.box.cell rfl))
                        have nx2 := nums_at2 w.heap.size kk vi
                        have HN3 := hid (fun (W : World) (ys : List Int) (hW : RF w W h pv ys) => show Calls Tryd.prog 30 #[.agg #[.int .i64 124, .int .i64 12, .bool true, .int .i64 0, .int .i64 1099511627776, .pointer (some ⟨w.heap.size, 4, none⟩)], .slice (some ⟨w.heap.size + 3, 0, none⟩) 512 512] W (NumPut ys 124 12 true 0 M.maxSize h.size (w.heap.size + 3) W) from number_print 124 12 true 0 M.maxSize w.heap.size 4 (w.heap.size + 3) ys h.size W (by decide) (by decide) HI.out.ints.2.2.2.1 hW.len hW.arr (hW.q.box.cell rfl))
                        have nx3 := nums_at3 w.heap.size kk vi
                        have HN4 := hid (fun (W : World) (ys : List Int) (hW : RF w W h pv ys) => show Calls Tryd.prog 30 #[.agg #[.int .i64 136, .int .i64 12, .bool true, .int .i64 (-4611686018427387904), .int .i64 4611686018427387904, .pointer (some ⟨w.heap.size, 5, none⟩)], .slice (some ⟨w.heap.size + 3, 0, none⟩) 512 512] W (NumPut ys 136 12 true (-M.most) M.most h.mtime (w.heap.size + 3) W) from number_print 136 12 true (-M.most) M.most w.heap.size 5 (w.heap.size + 3) ys h.mtime W (by decide) (by decide) HI.out.ints.2.2.2.2.1 hW.len hW.arr (hW.q.box.cell rfl))
                        have nx4 := nums_at4 w.heap.size kk vi
                        have HN5 := hid (fun (W : World) (ys : List Int) (hW : RF w W h pv ys) => show Calls Tryd.prog 30 #[.agg #[.int .i64 329, .int .i64 8, .bool (vi != 0), .int .i64 0, .int .i64 4611686018427387904, .pointer (some ⟨w.heap.size, 11, none⟩)], .slice (some ⟨w.heap.size + 3, 0, none⟩) 512 512] W (NumPut ys 329 8 (vi != 0) 0 M.most h.major (w.heap.size + 3) W) from number_print 329 8 (vi != 0) 0 M.most w.heap.size 11 (w.heap.size + 3) ys h.major W (by decide) (by decide) HI.out.ints.2.2.2.2.2.1 hW.len hW.arr (hW.q.box.cell rfl))
                        have nx5 := nums_at5 w.heap.size kk vi
                        have HN6 := hid (fun (W : World) (ys : List Int) (hW : RF w W h pv ys) => show Calls Tryd.prog 30 #[.agg #[.int .i64 337, .int .i64 8, .bool (vi != 0), .int .i64 0, .int .i64 4611686018427387904, .pointer (some ⟨w.heap.size, 12, none⟩)], .slice (some ⟨w.heap.size + 3, 0, none⟩) 512 512] W (NumPut ys 337 8 (vi != 0) 0 M.most h.minor (w.heap.size + 3) W) from number_print 337 8 (vi != 0) 0 M.most w.heap.size 12 (w.heap.size + 3) ys h.minor W (by decide) (by decide) HI.out.ints.2.2.2.2.2.2.1 hW.len hW.arr (hW.q.box.cell rfl))
                        have nx6 := nums_at6 w.heap.size kk vi
                        have HN7 := hid (fun (W : World) (ys : List Int) (hW : RF w W h pv ys) => show Calls Tryd.prog 30 #[.agg #[.int .i64 483, .int .i64 12, .bool (kk == 83 && vi == 2), .int .i64 0, .int .i64 1099511627776, .pointer (some ⟨w.heap.size, 16, none⟩)], .slice (some ⟨w.heap.size + 3, 0, none⟩) 512 512] W (NumPut ys 483 12 (kk == 83 && vi == 2) 0 M.maxSize h.real (w.heap.size + 3) W) from number_print 483 12 (kk == 83 && vi == 2) 0 M.maxSize w.heap.size 16 (w.heap.size + 3) ys h.real W (by decide) (by decide) HI.out.ints.2.2.2.2.2.2.2 hW.len hW.arr (hW.q.box.cell rfl))
                        have nx7 := nums_at7 w.heap.size kk vi
                        go_wp2_with fail
                        refine wp_loop_rounds 9 ?_
                        rw [rounds_succ]
                        have cb := fun o => (R8.out.more o).cb
                        go_wp2_with fail
                        (with_reducible refine (HN0.out _ _ (R8.out.more _)).mono ?_)
                        rintro e w9 t9
                        have s9 := (R8.out.more _).num (by decide) t9
                        clear R8 t9 cb
                        cases hpn0 : M.putN y0 100 8 true 0 M.most h.mode with
                        | none =>
                          obtain ⟨rfl, q9⟩ := s9.1 hpn0
                          have hx := hid (show M.hprint h = (32, []) by simp [M.hprint, M.chk, M.bnd, HF.out.1, HF.out.2.1, HF.out.2.2.1, HF.out.2.2.2, HZ0.out, HF5.out.1, HF5.out.2.1, HF5.out.2.2.1, HF5.out.2.2.2.1, HF5.out.2.2.2.2, HBR.out, HIW.out, HY0.out, hpn0])
                          exact print_stop hx.out (by decide) q9 rfl rfl
                        | some y1 =>
                          obtain ⟨rfl, r9⟩ := s9.2 _ hpn0
                          have R8 := hid r9
                          clear r9 s9 HN0 nx0
                          go_wp2_with fail
                          rw [rounds_succ]
                          have cb := fun o => (R8.out.more o).cb
                          go_wp2_with fail
                          (with_reducible refine (HN1.out _ _ (R8.out.more _)).mono ?_)
                          rintro e w9 t9
                          have s9 := (R8.out.more _).num (by decide) t9
                          clear R8 t9 cb
                          cases hpn1 : M.putN y1 108 8 true 0 M.most h.uid with
                          | none =>
                            obtain ⟨rfl, q9⟩ := s9.1 hpn1
                            have hx := hid (show M.hprint h = (32, []) by simp [M.hprint, M.chk, M.bnd, HF.out.1, HF.out.2.1, HF.out.2.2.1, HF.out.2.2.2, HZ0.out, HF5.out.1, HF5.out.2.1, HF5.out.2.2.1, HF5.out.2.2.2.1, HF5.out.2.2.2.2, HBR.out, HIW.out, HY0.out, hpn0, hpn1])
                            exact print_stop hx.out (by decide) q9 rfl rfl
                          | some y2 =>
                            obtain ⟨rfl, r9⟩ := s9.2 _ hpn1
                            have R8 := hid r9
                            clear r9 s9 HN1 nx1
                            go_wp2_with fail
                            rw [rounds_succ]
                            have cb := fun o => (R8.out.more o).cb
                            go_wp2_with fail
                            (with_reducible refine (HN2.out _ _ (R8.out.more _)).mono ?_)
                            rintro e w9 t9
                            have s9 := (R8.out.more _).num (by decide) t9
                            clear R8 t9 cb
                            cases hpn2 : M.putN y2 116 8 true 0 M.most h.gid with
                            | none =>
                              obtain ⟨rfl, q9⟩ := s9.1 hpn2
                              have hx := hid (show M.hprint h = (32, []) by simp [M.hprint, M.chk, M.bnd, HF.out.1, HF.out.2.1, HF.out.2.2.1, HF.out.2.2.2, HZ0.out, HF5.out.1, HF5.out.2.1, HF5.out.2.2.1, HF5.out.2.2.2.1, HF5.out.2.2.2.2, HBR.out, HIW.out, HY0.out, hpn0, hpn1, hpn2])
                              exact print_stop hx.out (by decide) q9 rfl rfl
                            | some y3 =>
                              obtain ⟨rfl, r9⟩ := s9.2 _ hpn2
                              have R8 := hid r9
                              clear r9 s9 HN2 nx2
                              go_wp2_with fail
                              rw [rounds_succ]
                              have cb := fun o => (R8.out.more o).cb
                              go_wp2_with fail
                              (with_reducible refine (HN3.out _ _ (R8.out.more _)).mono ?_)
                              rintro e w9 t9
                              have s9 := (R8.out.more _).num (by decide) t9
                              clear R8 t9 cb
                              cases hpn3 : M.putN y3 124 12 true 0 M.maxSize h.size with
                              | none =>
                                obtain ⟨rfl, q9⟩ := s9.1 hpn3
                                have hx := hid (show M.hprint h = (32, []) by simp [M.hprint, M.chk, M.bnd, HF.out.1, HF.out.2.1, HF.out.2.2.1, HF.out.2.2.2, HZ0.out, HF5.out.1, HF5.out.2.1, HF5.out.2.2.1, HF5.out.2.2.2.1, HF5.out.2.2.2.2, HBR.out, HIW.out, HY0.out, hpn0, hpn1, hpn2, hpn3])
                                exact print_stop hx.out (by decide) q9 rfl rfl
                              | some y4 =>
                                obtain ⟨rfl, r9⟩ := s9.2 _ hpn3
                                have R8 := hid r9
                                clear r9 s9 HN3 nx3
                                go_wp2_with fail
                                rw [rounds_succ]
                                have cb := fun o => (R8.out.more o).cb
                                go_wp2_with fail
                                (with_reducible refine (HN4.out _ _ (R8.out.more _)).mono ?_)
                                rintro e w9 t9
                                have s9 := (R8.out.more _).num (by decide) t9
                                clear R8 t9 cb
                                cases hpn4 : M.putN y4 136 12 true (-M.most) M.most h.mtime with
                                | none =>
                                  obtain ⟨rfl, q9⟩ := s9.1 hpn4
                                  have hx := hid (show M.hprint h = (32, []) by simp [M.hprint, M.chk, M.bnd, HF.out.1, HF.out.2.1, HF.out.2.2.1, HF.out.2.2.2, HZ0.out, HF5.out.1, HF5.out.2.1, HF5.out.2.2.1, HF5.out.2.2.2.1, HF5.out.2.2.2.2, HBR.out, HIW.out, HY0.out, hpn0, hpn1, hpn2, hpn3, hpn4])
                                  exact print_stop hx.out (by decide) q9 rfl rfl
                                | some y5 =>
                                  obtain ⟨rfl, r9⟩ := s9.2 _ hpn4
                                  have R8 := hid r9
                                  clear r9 s9 HN4 nx4
                                  go_wp2_with fail
                                  rw [rounds_succ]
                                  have cb := fun o => (R8.out.more o).cb
                                  go_wp2_with fail
                                  (with_reducible refine (HN5.out _ _ (R8.out.more _)).mono ?_)
                                  rintro e w9 t9
                                  have s9 := (R8.out.more _).num (by decide) t9
                                  clear R8 t9 cb
                                  cases hpn5 : M.putN y5 329 8 (vi != 0) 0 M.most h.major with
                                  | none =>
                                    obtain ⟨rfl, q9⟩ := s9.1 hpn5
                                    have hx := hid (show M.hprint h = (32, []) by simp [M.hprint, M.chk, M.bnd, HF.out.1, HF.out.2.1, HF.out.2.2.1, HF.out.2.2.2, HZ0.out, HF5.out.1, HF5.out.2.1, HF5.out.2.2.1, HF5.out.2.2.2.1, HF5.out.2.2.2.2, HBR.out, HIW.out, HY0.out, hpn0, hpn1, hpn2, hpn3, hpn4, hpn5])
                                    exact print_stop hx.out (by decide) q9 rfl rfl
                                  | some y6 =>
                                    obtain ⟨rfl, r9⟩ := s9.2 _ hpn5
                                    have R8 := hid r9
                                    clear r9 s9 HN5 nx5
                                    go_wp2_with fail
                                    rw [rounds_succ]
                                    have cb := fun o => (R8.out.more o).cb
                                    go_wp2_with fail
                                    (with_reducible refine (HN6.out _ _ (R8.out.more _)).mono ?_)
                                    rintro e w9 t9
                                    have s9 := (R8.out.more _).num (by decide) t9
                                    clear R8 t9 cb
                                    cases hpn6 : M.putN y6 337 8 (vi != 0) 0 M.most h.minor with
                                    | none =>
                                      obtain ⟨rfl, q9⟩ := s9.1 hpn6
                                      have hx := hid (show M.hprint h = (32, []) by simp [M.hprint, M.chk, M.bnd, HF.out.1, HF.out.2.1, HF.out.2.2.1, HF.out.2.2.2, HZ0.out, HF5.out.1, HF5.out.2.1, HF5.out.2.2.1, HF5.out.2.2.2.1, HF5.out.2.2.2.2, HBR.out, HIW.out, HY0.out, hpn0, hpn1, hpn2, hpn3, hpn4, hpn5, hpn6])
                                      exact print_stop hx.out (by decide) q9 rfl rfl
                                    | some y7 =>
                                      obtain ⟨rfl, r9⟩ := s9.2 _ hpn6
                                      have R8 := hid r9
                                      clear r9 s9 HN6 nx6
                                      go_wp2_with fail
                                      rw [rounds_succ]
                                      have cb := fun o => (R8.out.more o).cb
                                      go_wp2_with fail
                                      (with_reducible refine (HN7.out _ _ (R8.out.more _)).mono ?_)
                                      rintro e w9 t9
                                      have s9 := (R8.out.more _).num (by decide) t9
                                      clear R8 t9 cb
                                      cases hpn7 : M.putN y7 483 12 (kk == 83 && vi == 2) 0 M.maxSize h.real with
                                      | none =>
                                        obtain ⟨rfl, q9⟩ := s9.1 hpn7
                                        have hx := hid (show M.hprint h = (32, []) by simp [M.hprint, M.chk, M.bnd, HF.out.1, HF.out.2.1, HF.out.2.2.1, HF.out.2.2.2, HZ0.out, HF5.out.1, HF5.out.2.1, HF5.out.2.2.1, HF5.out.2.2.2.1, HF5.out.2.2.2.2, HBR.out, HIW.out, HY0.out, hpn0, hpn1, hpn2, hpn3, hpn4, hpn5, hpn6, hpn7])
                                        exact print_stop hx.out (by decide) q9 rfl rfl
                                      | some y8 =>
                                        obtain ⟨rfl, r9⟩ := s9.2 _ hpn7
                                        have R8 := hid r9
                                        clear r9 s9 HN7 nx7
                                        have HFN := hid (⟨hpn0, hpn1, hpn2, hpn3, hpn4, hpn5, hpn6, hpn7⟩ : M.putN y0 100 8 true 0 M.most h.mode = some y1 ∧ M.putN y1 108 8 true 0 M.most h.uid = some y2 ∧ M.putN y2 116 8 true 0 M.most h.gid = some y3 ∧ M.putN y3 124 12 true 0 M.maxSize h.size = some y4 ∧ M.putN y4 136 12 true (-M.most) M.most h.mtime = some y5 ∧ M.putN y5 329 8 (vi != 0) 0 M.most h.major = some y6 ∧ M.putN y6 337 8 (vi != 0) 0 M.most h.minor = some y7 ∧ M.putN y7 483 12 (kk == 83 && vi == 2) 0 M.maxSize h.real = some y8)
                                        clear hpn0 hpn1 hpn2 hpn3 hpn4 hpn5 hpn6 hpn7
                                        subst hpv
                                        have c6 : w9.cell? ⟨w.heap.size, 6, none⟩ = some (.int .u8 kk) := HK.out ▸ R8.out.q.box.cell rfl
                                        have c14 : w9.cell? ⟨w.heap.size, 14, none⟩ = some (.slice Ap h.parts.length cp) := R8.out.q.box.cell rfl
                                        have c15 : w9.cell? ⟨w.heap.size, 15, none⟩ = some (.bool h.more) := R8.out.q.box.cell rfl
                                        have cb := R8.out.cb
                                        have HPP := hid (printParts_any (w.heap.size + 3) y8 h.parts (.slice Ap h.parts.length cp) w9 R8.out.arr R8.out.len ((HI.out.parts.below R8.out.q.below).mono (by omega)) HI.out.nums)
                                        go_wp2_with fail
                                        rw [rounds_succ]
                                        cases hfl : M.flat h with
                                        | false =>
                                          have hx := hid (show M.hprint h = (32, []) by simp [M.hprint, M.chk, M.bnd, HF.out.1, HF.out.2.1, HF.out.2.2.1, HF.out.2.2.2, HZ0.out, HF5.out.1, HF5.out.2.1, HF5.out.2.2.1, HF5.out.2.2.2.1, HF5.out.2.2.2.2, HBR.out, HIW.out, HY0.out, HFN.out.1, HFN.out.2.1, HFN.out.2.2.1, HFN.out.2.2.2.1, HFN.out.2.2.2.2.1, HFN.out.2.2.2.2.2.1, HFN.out.2.2.2.2.2.2.1, HFN.out.2.2.2.2.2.2.2, hfl])
                                          have hfl2 : ((kk == 83) || (decide (h.parts.length = 0) && !h.more)) = false := by rw [← HK.out]; exact hfl
                                          rw [Bool.or_eq_false_iff] at hfl2
                                          obtain ⟨e83, hfl3⟩ := hfl2
                                          by_cases hl0 : h.parts.length = 0
                                          · have em : h.more = true := by simpa [hl0] using hfl3
                                            have el : ((h.parts.length : Int) == 0) = true := by simp [hl0]
                                            clear hfl hfl3 hl0
                                            go_wp2_with (go_at_call 25; (with_reducible refine (demand_no _ _).mono ?_); rintro e w9 ⟨rfl, rfl⟩)
                                            exact print_stop hx.out (by decide) R8.out.q rfl rfl
                                          · have el : ((h.parts.length : Int) == 0) = false := by simp; exact fun e => hl0 (by rw [e]; rfl)
                                            clear hfl hfl3 hl0
                                            go_wp2_with (go_at_call 25; (with_reducible refine (demand_no _ _).mono ?_); rintro e w9 ⟨rfl, rfl⟩)
                                            exact print_stop hx.out (by decide) R8.out.q rfl rfl
                                        | true =>
                                          have HX := hid (fun (o : Option (List Int)) (ho : M.putP y8 h.parts = o) => (show M.hprint h = M.bnd o 32 (fun x => (0, M.sld (if h.more = true then x.set 482 1 else x))) by simp [M.hprint, M.chk, M.bnd, HF.out.1, HF.out.2.1, HF.out.2.2.1, HF.out.2.2.2, HZ0.out, HF5.out.1, HF5.out.2.1, HF5.out.2.2.1, HF5.out.2.2.2.1, HF5.out.2.2.2.2, HBR.out, HIW.out, HY0.out, HFN.out.1, HFN.out.2.1, HFN.out.2.2.1, HFN.out.2.2.2.1, HFN.out.2.2.2.2.1, HFN.out.2.2.2.2.2.1, HFN.out.2.2.2.2.2.2.1, HFN.out.2.2.2.2.2.2.2, hfl, ho]))
                                          have hfl2 : ((kk == 83) || (decide (h.parts.length = 0) && !h.more)) = true := by rw [← HK.out]; exact hfl
                                          cases e83 : kk == 83 with
                                          | true =>
                                            clear hfl hfl2
                                            go_wp2_with (go_at_call 25; (with_reducible refine (demand_yes _ _).mono ?_); rintro e w9 ⟨rfl, rfl⟩)
                                            (with_reducible refine HPP.out.mono ?_)
                                            rintro e w10 ⟨t10, b10⟩
                                            have q10 := R8.out.q.keep b10
                                            cases hpp : M.putP y8 h.parts with
                                            | none =>
                                              rw [hpp] at t10
                                              obtain rfl := t10
                                              exact print_stop (HX.out _ hpp) (by decide) q10 rfl rfl
                                            | some x =>
                                              rw [hpp] at t10
                                              obtain ⟨rfl, a10, l10⟩ := t10
                                              have HXS := hid (HX.out _ hpp)
                                              have R10 := hid (⟨q10, a10, l10, putP_bd R8.out.bd hpp⟩ : RF w w10 h (.slice Ap h.parts.length cp) x)
                                              clear hpp a10 l10 q10 HX HPP R8 b10 c6 c14 c15 cb
                                              have c15 : w10.cell? ⟨w.heap.size, 15, none⟩ = some (.bool h.more) := R10.out.q.box.cell rfl
                                              have cb := R10.out.cb
                                              cases hm : h.more with
                                              | true =>
                                                rw [hm] at c15
                                                obtain ⟨zz, hz⟩ : ∃ zz, x[482]? = some zz := ⟨_, List.getElem?_eq_getElem (by rw [R10.out.len]; decide)⟩
                                                have cz := R10.out.arr.cell hz
                                                have fz := R10.out.arr.frozen 482
                                                have R11 := hid (⟨R10.out.q.keep ((Below.refl _ _).setCell (p := ⟨w.heap.size + 3, 482, none⟩) (Nat.le_refl _) (.int .u8 1)), R10.out.arr.set 482 1, by rw [List.length_set, R10.out.len], set_bd R10.out.bd (by decide)⟩ : RF w (w10.setCell ⟨w.heap.size + 3, 482, none⟩ (.int .u8 1)) h (.slice Ap h.parts.length cp) (x.set 482 1))
                                                have hx := hid (show M.hprint h = (0, M.sld (x.set 482 1)) by rw [HXS.out, M.bnd_some, hm, if_pos rfl])
                                                clear hz hm R10 HXS
                                                go_wp2_with fail
                                                (with_reducible refine (seal_any (some ⟨w.heap.size + 3, 0, none⟩) 512 512 (x.set 482 1) _ _ (R11.out.len ▸ R11.out.arr.rd R11.out.bd R11.out.arr.lt) (Nat.le_refl _)).mono ?_)
                                                rintro e w12 ⟨g12, rfl, hg12, a12, b12⟩
                                                have q12 := R11.out.q.later b12
                                                have hsz := R11.out.q.size
                                                have cb2 : w12.cell? ⟨w.heap.size + 1, 0, none⟩ = some (.slice (some ⟨w.heap.size + 3, 0, none⟩) 512 512) := by rw [cell_of_row _ _ 0 _ _ _ q12.bytes]; rfl
                                                have ce2 : w12.cell? ⟨w.heap.size + 1 + 1, 0, none⟩ = some (.int .u16 0) := by rw [cell_of_row _ _ 0 _ _ _ q12.err]; rfl
                                                have fb2 := frozen_of_row _ _ 0 _ _ q12.bytes
                                                have fe2 : w12.frozen? ⟨w.heap.size + 1 + 1, 0, none⟩ = false := frozen_of_row _ _ 0 _ _ q12.err
                                                have HG := hid hg12
                                                have HS := hid hsz
                                                have HA := hid a12
                                                have HQ := hid q12
                                                clear hg12 hsz a12 q12 b12 R11
                                                go_wp2_with fail
                                                exact print_done hx.out HQ.out (Nat.le_trans HS.out (by have := HG.out; simpa using this)) HA.out rfl rfl
                                              | false =>
                                                rw [hm] at c15
                                                have R11 := hid R10.out
                                                have hx := hid (show M.hprint h = (0, M.sld x) by rw [HXS.out, M.bnd_some, hm, if_neg (by decide)])
                                                clear hm R10 HXS
                                                go_wp2_with fail
                                                (with_reducible refine (seal_any (some ⟨w.heap.size + 3, 0, none⟩) 512 512 x _ _ (R11.out.len ▸ R11.out.arr.rd R11.out.bd R11.out.arr.lt) (Nat.le_refl _)).mono ?_)
                                                rintro e w12 ⟨g12, rfl, hg12, a12, b12⟩
                                                have q12 := R11.out.q.later b12
                                                have hsz := R11.out.q.size
                                                have cb2 : w12.cell? ⟨w.heap.size + 1, 0, none⟩ = some (.slice (some ⟨w.heap.size + 3, 0, none⟩) 512 512) := by rw [cell_of_row _ _ 0 _ _ _ q12.bytes]; rfl
                                                have ce2 : w12.cell? ⟨w.heap.size + 1 + 1, 0, none⟩ = some (.int .u16 0) := by rw [cell_of_row _ _ 0 _ _ _ q12.err]; rfl
                                                have fb2 := frozen_of_row _ _ 0 _ _ q12.bytes
                                                have fe2 : w12.frozen? ⟨w.heap.size + 1 + 1, 0, none⟩ = false := frozen_of_row _ _ 0 _ _ q12.err
                                                have HG := hid hg12
                                                have HS := hid hsz
                                                have HA := hid a12
                                                have HQ := hid q12
                                                clear hg12 hsz a12 q12 b12 R11
                                                go_wp2_with fail
                                                exact print_done hx.out HQ.out (Nat.le_trans HS.out (by have := HG.out; simpa using this)) HA.out rfl rfl
                                          | false =>
                                            rw [e83, Bool.false_or, Bool.and_eq_true] at hfl2
                                            have hl0 : h.parts.length = 0 := of_decide_eq_true hfl2.1
                                            have el : ((h.parts.length : Int) == 0) = true := by simp [hl0]
                                            have em : h.more = false := by simpa using hfl2.2
                                            clear hfl hfl2 hl0
                                            go_wp2_with (go_at_call 25; (with_reducible refine (demand_yes _ _).mono ?_); rintro e w9 ⟨rfl, rfl⟩)
                                            clear el em
                                            (with_reducible refine HPP.out.mono ?_)
                                            rintro e w10 ⟨t10, b10⟩
                                            have q10 := R8.out.q.keep b10
                                            cases hpp : M.putP y8 h.parts with
                                            | none =>
                                              rw [hpp] at t10
                                              obtain rfl := t10
                                              exact print_stop (HX.out _ hpp) (by decide) q10 rfl rfl
                                            | some x =>
                                              rw [hpp] at t10
                                              obtain ⟨rfl, a10, l10⟩ := t10
                                              have HXS := hid (HX.out _ hpp)
                                              have R10 := hid (⟨q10, a10, l10, putP_bd R8.out.bd hpp⟩ : RF w w10 h (.slice Ap h.parts.length cp) x)
                                              clear hpp a10 l10 q10 HX HPP R8 b10 c6 c14 c15 cb
                                              have c15 : w10.cell? ⟨w.heap.size, 15, none⟩ = some (.bool h.more) := R10.out.q.box.cell rfl
                                              have cb := R10.out.cb
                                              cases hm : h.more with
                                              | true =>
                                                rw [hm] at c15
                                                obtain ⟨zz, hz⟩ : ∃ zz, x[482]? = some zz := ⟨_, List.getElem?_eq_getElem (by rw [R10.out.len]; decide)⟩
                                                have cz := R10.out.arr.cell hz
                                                have fz := R10.out.arr.frozen 482
                                                have R11 := hid (⟨R10.out.q.keep ((Below.refl _ _).setCell (p := ⟨w.heap.size + 3, 482, none⟩) (Nat.le_refl _) (.int .u8 1)), R10.out.arr.set 482 1, by rw [List.length_set, R10.out.len], set_bd R10.out.bd (by decide)⟩ : RF w (w10.setCell ⟨w.heap.size + 3, 482, none⟩ (.int .u8 1)) h (.slice Ap h.parts.length cp) (x.set 482 1))
                                                have hx := hid (show M.hprint h = (0, M.sld (x.set 482 1)) by rw [HXS.out, M.bnd_some, hm, if_pos rfl])
                                                clear hz hm R10 HXS
                                                go_wp2_with fail
                                                (with_reducible refine (seal_any (some ⟨w.heap.size + 3, 0, none⟩) 512 512 (x.set 482 1) _ _ (R11.out.len ▸ R11.out.arr.rd R11.out.bd R11.out.arr.lt) (Nat.le_refl _)).mono ?_)
                                                rintro e w12 ⟨g12, rfl, hg12, a12, b12⟩
                                                have q12 := R11.out.q.later b12
                                                have hsz := R11.out.q.size
                                                have cb2 : w12.cell? ⟨w.heap.size + 1, 0, none⟩ = some (.slice (some ⟨w.heap.size + 3, 0, none⟩) 512 512) := by rw [cell_of_row _ _ 0 _ _ _ q12.bytes]; rfl
                                                have ce2 : w12.cell? ⟨w.heap.size + 1 + 1, 0, none⟩ = some (.int .u16 0) := by rw [cell_of_row _ _ 0 _ _ _ q12.err]; rfl
                                                have fb2 := frozen_of_row _ _ 0 _ _ q12.bytes
                                                have fe2 : w12.frozen? ⟨w.heap.size + 1 + 1, 0, none⟩ = false := frozen_of_row _ _ 0 _ _ q12.err
                                                have HG := hid hg12
                                                have HS := hid hsz
                                                have HA := hid a12
                                                have HQ := hid q12
                                                clear hg12 hsz a12 q12 b12 R11
                                                go_wp2_with fail
                                                exact print_done hx.out HQ.out (Nat.le_trans HS.out (by have := HG.out; simpa using this)) HA.out rfl rfl
                                              | false =>
                                                rw [hm] at c15
                                                have R11 := hid R10.out
                                                have hx := hid (show M.hprint h = (0, M.sld x) by rw [HXS.out, M.bnd_some, hm, if_neg (by decide)])
                                                clear hm R10 HXS
                                                go_wp2_with fail
                                                (with_reducible refine (seal_any (some ⟨w.heap.size + 3, 0, none⟩) 512 512 x _ _ (R11.out.len ▸ R11.out.arr.rd R11.out.bd R11.out.arr.lt) (Nat.le_refl _)).mono ?_)
                                                rintro e w12 ⟨g12, rfl, hg12, a12, b12⟩
                                                have q12 := R11.out.q.later b12
                                                have hsz := R11.out.q.size
                                                have cb2 : w12.cell? ⟨w.heap.size + 1, 0, none⟩ = some (.slice (some ⟨w.heap.size + 3, 0, none⟩) 512 512) := by rw [cell_of_row _ _ 0 _ _ _ q12.bytes]; rfl
                                                have ce2 : w12.cell? ⟨w.heap.size + 1 + 1, 0, none⟩ = some (.int .u16 0) := by rw [cell_of_row _ _ 0 _ _ _ q12.err]; rfl
                                                have fb2 := frozen_of_row _ _ 0 _ _ q12.bytes
                                                have fe2 : w12.frozen? ⟨w.heap.size + 1 + 1, 0, none⟩ = false := frozen_of_row _ _ 0 _ _ q12.err
                                                have HG := hid hg12
                                                have HS := hid hsz
                                                have HA := hid a12
                                                have HQ := hid q12
                                                clear hg12 hsz a12 q12 b12 R11
                                                go_wp2_with fail
                                                exact print_done hx.out HQ.out (Nat.le_trans HS.out (by have := HG.out; simpa using this)) HA.out rfl rfl
end Go.Proofs.YtbjejgnfnpednaaDoor
