/-
  The document's holes.
-/
import Derived.Test.YtbjejgnfnpednaaDoorHdFieldsR
import Derived.Test.YtbjejgnfnpednaaDoorHdPartsL
namespace Go.Proofs.YtbjejgnfnpednaaDoor
open Go.RowKit Go.Lib
namespace M
/-- What a sparse one alone has. -/
def holed3 (zs : List Int) (h : Hdr) : Hdr := { h with parts := (parts zs 386 4).getD [], more := byt zs 482 != 0, real := num zs 483 12 }
def holesOk (zs : List Int) : Bool := (parts zs 386 4).isSome && numOk zs 483 12 0 maxSize
end M
theorem PartsTo.is_ {o : Option (List (Int × Int))} {w w' : World} {e : Ending} (h : PartsTo o w e w') : ∃ A c, e = .returned (.tuple #[.slice A (o.getD []).length c, .bool o.isSome]) ∧ PartsIs w' w.heap.size (.slice A (o.getD []).length c) (o.getD []) ∧ Below w.heap.size w w' := by
  obtain ⟨h, hb⟩ := h
  cases o with
  | none => exact ⟨none, 0, h, PartsIs.nil w' w.heap.size, hb⟩
  | some l =>
    obtain ⟨pv, rfl, hp⟩ := h
    obtain ⟨A, c, rfl, h1, h2⟩ := hp
    exact ⟨A, c, rfl, ⟨A, c, rfl, h1, h2⟩, hb⟩
/-- What holes answers. -/
def HolesTo (zs : List Int) (h : M.Hdr) (w : World) (e : Ending) (w' : World) : Prop :=
  ∃ A c, e = .returned (.tuple #[.agg (hcells (M.holed3 zs h) (.slice A (M.holed3 zs h).parts.length c)), .bool (M.holesOk zs)]) ∧ PartsIs w' w.heap.size (.slice A (M.holed3 zs h).parts.length c) (M.holed3 zs h).parts ∧ Below w.heap.size w w'
theorem results_holes {tmps : Array Value} {g : Nat} {h : M.Hdr} {pv : Value} {b : Bool} {w : World} (hb : HB w g h pv) (h2 : tmps.getD 4 undef = .pointer (some ⟨g, 0, none⟩)) (h3 : tmps.getD 5 undef = .bool b) :
    (results Tryd.f61 tmps).run Tryd.prog w = .ok (.tuple #[.agg (hcells h pv), .bool b]) w := by
  rw [Array.getD_eq_getD_getElem?] at h2 h3
  have hl := run_loadVar_row (P := Tryd.prog) w g 25 25 (hcells h pv) (0, 0) _ hb Tryd.underlying25 rfl hdr_size
  simp [results, Tryd.results61, h2, h3, asAddr, hl]
/-- The header's variable and the result's. -/
structure HL (w W : World) (h : M.Hdr) (pv : Value) : Prop where
  box : HB W w.heap.size h pv
  res : HB W (w.heap.size + 1) {} (.slice none 0 0)
  below : Below w.heap.size w W
theorem HL.new (w : World) (h : M.Hdr) (pv : Value) : HL w ((w.alloc (.cells (hcells h pv) 25)).alloc (.cells (hcells {} (.slice none 0 0)) 25)) h pv :=
  ⟨HB.alloc (HB.new w h pv) _, by have := HB.new (w.alloc (.cells (hcells h pv) 25)) {} (.slice none 0 0); rwa [World.size_alloc] at this, ((Below.refl _ _).alloc (Nat.le_refl _) _).alloc (by simp) _⟩
theorem HL.later {w W W' : World} {h : M.Hdr} {pv : Value} (s : HL w W h pv) (hb : Below W.heap.size W W') : HL w W' h pv :=
  ⟨HB.below s.box hb (HB.lt s.box), HB.below s.res hb (HB.lt s.res), s.below.trans (hb.mono s.below.size)⟩
theorem HL.set {w W : World} {h h' : M.Hdr} {pv pv' : Value} (s : HL w W h pv) (i : Nat) (v : Value) (e : (hcells h pv).set! i v = hcells h' pv') : HL w (W.setCell ⟨w.heap.size, i, none⟩ v) h' pv' :=
  ⟨HB.set s.box i v e, HB.other s.res (by show w.heap.size + 1 ≠ w.heap.size; omega) v, s.below.setCell (p := ⟨w.heap.size, i, none⟩) (Nat.le_refl _) v⟩
theorem holes_end {tmps : Array Value} {w w6 : World} {zs : List Int} {h h2 : M.Hdr} {A1 : Option Addr} {c1 nl : Nat} {b : Bool} (e1 : M.holed3 zs h = h2) (e2 : M.holesOk zs = b) (H7 : HL w w6 h2 (.slice A1 nl c1)) (hn : h2.parts.length = nl)
    (P6 : PartsIs w6 (w.heap.size + 2) (.slice A1 nl c1) h2.parts) (h4 : tmps.getD 4 undef = .pointer (some ⟨w.heap.size + 1, 0, none⟩)) (h5 : tmps.getD 5 undef = .bool b) :
    bodyPost Tryd.prog Tryd.f61 (HolesTo zs h w) .ret { tmps := tmps, defers := [] } (w6.setRow (w.heap.size + 1) (hcells h2 (.slice A1 nl c1))) := by
  have hb : HB (w6.setRow (w.heap.size + 1) (hcells h2 (.slice A1 nl c1))) (w.heap.size + 1) h2 (.slice A1 nl c1) := setRow_heap w6 _ _ _ _ _ H7.res
  refine bodyPost_ret (results_holes hb h4 h5) rfl ⟨A1, c1, ?_, ?_, ?_⟩
  · rw [e1, e2, hn]
  · rw [e1, hn]; exact PartsIs.lower (PartsIs.row P6 _ (Nat.lt_succ_self _) _) (by omega)
  · exact below_setRow H7.below (Nat.le_succ _) _

set_option maxRecDepth 100000 in
set_option maxHeartbeats 4000000 in
theorem refHoles_any (h : M.Hdr) (Ah : Option Addr) (nh ch : Nat) (A : Option Addr) (c : Nat) (zs : List Int) (w : World) (hr : Rd w w.heap.size A 512 zs) (hc : 512 ≤ c) (hcm : c ≤ maxLen) :
    Calls Tryd.prog 61 #[.agg (hcells h (.slice Ah nh ch)), .slice A 512 c] w (HolesTo zs h w) := by
  obtain ⟨b, off, rfl, hbw, _⟩ := hr.2.2 (by decide)
  have HR := hid (⟨hr, hc, hcm⟩ : _ ∧ _ ∧ _)
  have HPt := hid (fun (W : World) (hW : Below w.heap.size w W) => refParts_any (some ⟨b, off, none⟩) 512 c zs 386 4 W ((hr.below hW).more hW.size) hc hcm (by decide))
  have HPr := hid (fun (V : World) (hV : Below w.heap.size w V) => (by
    have hrd := (hr.below hV).sub (a := 483) (m := 12) (by decide)
    exact parseRef_any (some ⟨b, off + 483, none⟩) 12 (c - 483) (M.sub zs 483 12) V _ hrd (by omega) (by omega) : Calls Tryd.prog 68 #[.slice (some ⟨b, off + 483, none⟩) 12 (c - 483)] V (fun e w' => e = .returned (.tuple #[.int .i64 (M.num zs 483 12), .bool (M.parOk (M.sub zs 483 12))]) ∧ V = w')))
  have HBy := hid (show ∃ z, w.cell? ⟨b, off + 482, none⟩ = some (.int .u8 z) ∧ M.byt zs 482 = z by
    obtain ⟨b', off', z, e, _, _, _, hz, hcell⟩ := hr.at_ (k := 482) (by decide)
    injection e with e
    injection e with e1 e2
    subst e1 e2
    exact ⟨z, hcell, by unfold M.byt; rw [List.getD_eq_getElem?_getD, hz]; rfl⟩)
  have HBw := hid hbw
  have S1 := hid (show (495 : Int) ≤ (c : Int) by omega)
  have S2 := hid (show ¬ (c = 483) by omega)
  clear hr hc hcm hbw
  go_enter Tryd.func61, Tryd.ntmps61
  go_wp2_with fail
  have HH : Hid (HL w _ h (.slice Ah nh ch)) := hid (HL.new w h (.slice Ah nh ch))
  have ecl : M.clip 386 512 = 386 ∧ M.clip 4 21 = 4 := by decide
  rw [ecl.1, ecl.2] at HPt
  clear ecl
  unfold hcells at HH
  have HH2 : Hid (HL w ((w.alloc (.cells (hcells h (.slice Ah nh ch)) 25)).alloc (.cells #[.string ⟨#[]⟩, .int .i64 0, .int .i64 0, .int .i64 0, .int .i64 0, .int .i64 0, .int .u8 0, .string ⟨#[]⟩, .int .i64 0, .string ⟨#[]⟩, .string ⟨#[]⟩, .int .i64 0, .int .i64 0, .string ⟨#[]⟩, .slice none 0 0, .bool false, .int .i64 0] 25)) h (.slice Ah nh ch)) := hid (HL.new w h (.slice Ah nh ch))
  clear HH
  generalize World.alloc (World.alloc w _) _ = W2 at *
  (with_reducible refine (HPt.out W2 HH2.out.below).mono ?_)
  intro e w3 ht
  obtain ⟨A1, c1, rfl, hp1, b1⟩ := ht.is_
  have H3 := hid (HH2.out.later b1)
  have P3 := hid (PartsIs.lower hp1 (show w.heap.size + 2 ≤ W2.heap.size from HB.lt HH2.out.res))
  clear ht hp1 b1 HH2 HPt
  have HO : Hid (M.holesOk zs = ((M.parts zs 386 4).isSome && (M.parOk (M.sub zs 483 12) && (decide (0 ≤ M.num zs 483 12) && decide (M.num zs 483 12 ≤ M.maxSize))))) := hid rfl
  have HHd : Hid (M.holed3 zs h = { h with parts := (M.parts zs 386 4).getD [], more := M.byt zs 482 != 0, real := M.num zs 483 12 }) := hid rfl
  generalize hh1 : M.holesOk zs = ok2 at *
  have HO2 := hid hh1
  clear hh1
  generalize hh2 : M.holed3 zs h = h2 at *
  have HH2 := hid hh2
  clear hh2
  generalize (M.parts zs 386 4).isSome = ok1 at *
  generalize (M.parts zs 386 4).getD [] = L at *
  generalize hnl : L.length = nl at *
  have HNL := hid hnl
  clear hnl
  have s1 := S1.out
  have s2 := S2.out
  go_wp2_with fail
  (with_reducible refine (HPr.out w3 H3.out.below).mono ?_)
  rintro e w4 ⟨rfl, rfl⟩
  clear s1 s2 HPr
  generalize M.num zs 483 12 = rl at *
  generalize M.parOk (M.sub zs 483 12) = ok3 at *
  have k14 := HB.cell H3.out.box (i := 14) (v := .slice Ah nh ch) rfl
  have f14 := HB.frozen H3.out.box 14
  have H4 := hid (H3.out.set 14 (.slice A1 nl c1) (hcells_parts h _ _ L))
  have P4 := hid (PartsIs.set P3.out ⟨w.heap.size, 14, none⟩ (by show w.heap.size < _; omega) (.slice A1 nl c1))
  clear H3 P3
  go_upto_region 4 with fail
  generalize w3.setCell _ _ = w4 at *
  clear k14 f14
  obtain ⟨z, hz, hzb⟩ := HBy.out
  have kz : w4.cell? ⟨b, off + 482, none⟩ = some (.int .u8 z) := (H4.out.below.cell (p := ⟨b, off + 482, none⟩) HBw.out).trans hz
  have HZb := hid hzb
  clear hz hzb HBy
  have k15 := HB.cell H4.out.box (i := 15) (v := .bool h.more) rfl
  have f15 := HB.frozen H4.out.box 15
  have H5 := hid (H4.out.set 15 (.bool (z != 0)) (hcells_more _ _ (z != 0)))
  have P5 := hid (PartsIs.set P4.out ⟨w.heap.size, 15, none⟩ (by show w.heap.size < _; omega) (.bool (z != 0)))
  clear H4 P4
  go_upto_region 5 with fail
  generalize w4.setCell _ _ = w5 at *
  clear kz k15 f15
  have k16 := HB.cell H5.out.box (i := 16) (v := .int .i64 h.real) rfl
  have f16 := HB.frozen H5.out.box 16
  have H6 := hid (H5.out.set 16 (.int .i64 rl) (h' := { h with parts := L, more := (z != 0), real := rl }) rfl)
  have P6 := hid (PartsIs.set P5.out ⟨w.heap.size, 16, none⟩ (by show w.heap.size < _; omega) (.int .i64 rl))
  clear H5 P5
  go_upto_region 6 with fail
  generalize w5.setCell _ _ = w6 at *
  clear k16 f16
  have E2 := hid (show h2 = { h with parts := L, more := (z != 0), real := rl } by rw [HHd.out, HZb.out])
  have H7 : Hid (HL w w6 h2 (.slice A1 nl c1)) := hid (by rw [E2.out]; exact H6.out)
  clear H6 HHd HZb
  have HN7 := hid (show h2.parts.length = nl by rw [E2.out]; exact HNL.out)
  have P7 : Hid (PartsIs w6 (w.heap.size + 2) (.slice A1 nl c1) h2.parts) := hid (by rw [E2.out]; exact P6.out)
  clear E2 P6
  cases ok1
  case' true =>
    cases ok3
    case' true =>
      by_cases hr0 : 0 ≤ rl
  all_goals
    go_wp2_with (first
      | (refine wpList_load_row rfl 25 (.tmp 2) rfl w.heap.size (by rfl) 25 (hcells h2 (.slice A1 nl c1)) (0, 0) _ H7.out.box Tryd.underlying25 rfl hdr_size ?_)
      | (refine wpList_store_row rfl 25 (.tmp 4) (.tmp 30) rfl (w.heap.size + 1) (hcells h2 (.slice A1 nl c1)) (by simp [Act.eval]) (by simp [Act.eval]) 25 (hcells {} (.slice none 0 0)) H7.out.res hdr_size rfl (hcells_one _ rfl) ?_))
    exact holes_end HH2.out (HO2.out.trans (HO.out.trans (by first | (simp [M.maxSize, *]; done) | (rw [decide_eq_false (show ¬ 0 ≤ rl by omega)]; rfl) | (rw [Bool.eq_iff_iff]; simp [M.maxSize, *]; exact ⟨of_decide_eq_true, decide_eq_true⟩)))) H7.out HN7.out P7.out rfl rfl
end Go.Proofs.YtbjejgnfnpednaaDoor
