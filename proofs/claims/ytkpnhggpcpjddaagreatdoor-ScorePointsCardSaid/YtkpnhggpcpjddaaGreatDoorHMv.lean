/-
  Texts of one chapter, merged.
-/
import Derived.Test.YtkpnhggpcpjddaaGreatDoorHdRefParts
import Derived.Test.YtkpnhggpcpjddaaGreatDoorHMe
import Derived.Test.YtkpnhggpcpjddaaGreatDoorHdFieldsR
import Derived.Test.YtkpnhggpcpjddaaGreatDoorHdParseW
import Derived.Test.YtkpnhggpcpjddaaGreatDoorHdRef
import Derived.Test.YtkpnhggpcpjddaaGreatDoorHSumRefB
set_option linter.unusedVariables false
set_option linter.unusedSimpArgs false
/-! How many parts a block may have. -/
namespace Go.Proofs.YtkpnhggpcpjddaaGreatDoor
open Go.RowKit Go.Lib

theorem PartsTo.one {o : Option (List (Int × Int))} {w w' : World} {e : Ending} (h : PartsTo o w e w') : ∃ A c, e = .returned (.tuple #[.slice A (o.getD []).length c, .bool o.isSome]) ∧ PartsB w' w'.heap.size (.slice A (o.getD []).length c) (o.getD []) ∧ Below w.heap.size w w' := by
  obtain ⟨h, hb⟩ := h
  cases o with
  | none => exact ⟨none, 0, h, PartsIs.in_ (PartsIs.nil w' w.heap.size), hb⟩
  | some l =>
    obtain ⟨pv, rfl, hp⟩ := h
    obtain ⟨A, c, rfl, h1, h2⟩ := hp
    exact ⟨A, c, rfl, PartsIs.in_ ⟨A, c, rfl, h1, h2⟩, hb⟩

theorem parts_le (zs : List Int) : ∀ (n a : Nat), ((M.parts zs a n).getD []).length ≤ n
  | 0, a => by simp [M.parts]
  | n + 1, a => by
    unfold M.parts
    split
    · exact Nat.zero_le _
    · split
      · split
        · exact Nat.zero_le _
        · have := parts_le zs n (a + 24)
          cases h : M.parts zs (a + 24) n with
          | none => exact Nat.zero_le _
          | some l => rw [h] at this; simpa using this
      · exact Nat.zero_le _
end Go.Proofs.YtkpnhggpcpjddaaGreatDoor

/-! The document's holes. -/
namespace Go.Proofs.YtkpnhggpcpjddaaGreatDoor
open Go.RowKit Go.Lib
namespace M
/-- What a sparse one alone has. -/
def holed3 (zs : List Int) (h : Hdr) : Hdr := { h with parts := (parts zs 386 4).getD [], more := byt zs 482 != 0, real := num zs 483 12 }
def holesOk (zs : List Int) : Bool := (parts zs 386 4).isSome && numOk zs 483 12 0 maxSize
end M
theorem PartsTo.is_ {o : Option (List (Int × Int))} {w w' : World} {e : Ending} (h : PartsTo o w e w') : ∃ A c, e = .returned (.tuple #[.slice A (o.getD []).length c, .bool o.isSome]) ∧ PartsIs w' w.heap.size (.slice A (o.getD []).length c) (o.getD []) ∧ Below w.heap.size w w' := by
  obtain ⟨h, hb⟩ := h
  cases o with
  | none => exact ⟨none, 0, h, PartsIs.nil w' w.heap.size, hb⟩
  | some l =>
    obtain ⟨pv, rfl, hp⟩ := h
    obtain ⟨A, c, rfl, h1, h2⟩ := hp
    exact ⟨A, c, rfl, ⟨A, c, rfl, h1, h2⟩, hb⟩
/-- What holes answers. -/
def HolesTo (zs : List Int) (h : M.Hdr) (w : World) (e : Ending) (w' : World) : Prop :=
  ∃ A c, e = .returned (.tuple #[.agg (hcells (M.holed3 zs h) (.slice A (M.holed3 zs h).parts.length c)), .bool (M.holesOk zs)]) ∧ PartsIs w' w.heap.size (.slice A (M.holed3 zs h).parts.length c) (M.holed3 zs h).parts ∧ Below w.heap.size w w'
theorem results_holes {tmps : Array Value} {g : Nat} {h : M.Hdr} {pv : Value} {b : Bool} {w : World} (hb : HB w g h pv) (h2 : tmps.getD 4 undef = .pointer (some ⟨g, 0, none⟩)) (h3 : tmps.getD 5 undef = .bool b) :
    (results Tryz.f64 tmps).run Tryz.prog w = .ok (.tuple #[.agg (hcells h pv), .bool b]) w := by
  rw [Array.getD_eq_getD_getElem?] at h2 h3
  have hl := run_loadVar_row (P := Tryz.prog) w g 33 33 (hcells h pv) (0, 0) _ hb Tryz.underlying33 rfl hdr_size
  simp [results, Tryz.results64, h2, h3, asAddr, hl]
/-- The header's variable and the result's. -/
structure HL (w W : World) (h : M.Hdr) (pv : Value) : Prop where
  box : HB W w.heap.size h pv
  res : HB W (w.heap.size + 1) {} (.slice none 0 0)
  below : Below w.heap.size w W
theorem HL.new (w : World) (h : M.Hdr) (pv : Value) : HL w ((w.alloc (.cells (hcells h pv) 33)).alloc (.cells (hcells {} (.slice none 0 0)) 33)) h pv :=
  ⟨HB.alloc (HB.new w h pv) _, by have := HB.new (w.alloc (.cells (hcells h pv) 33)) {} (.slice none 0 0); rwa [World.size_alloc] at this, ((Below.refl _ _).alloc (Nat.le_refl _) _).alloc (by simp) _⟩
theorem HL.later {w W W' : World} {h : M.Hdr} {pv : Value} (s : HL w W h pv) (hb : Below W.heap.size W W') : HL w W' h pv :=
  ⟨HB.below s.box hb (HB.lt s.box), HB.below s.res hb (HB.lt s.res), s.below.trans (hb.mono s.below.size)⟩
theorem HL.set {w W : World} {h h' : M.Hdr} {pv pv' : Value} (s : HL w W h pv) (i : Nat) (v : Value) (e : (hcells h pv).set! i v = hcells h' pv') : HL w (W.setCell ⟨w.heap.size, i, none⟩ v) h' pv' :=
  ⟨HB.set s.box i v e, HB.other s.res (by show w.heap.size + 1 ≠ w.heap.size; omega) v, s.below.setCell (p := ⟨w.heap.size, i, none⟩) (Nat.le_refl _) v⟩
theorem holes_end {tmps : Array Value} {w w6 : World} {zs : List Int} {h h2 : M.Hdr} {A1 : Option Addr} {c1 nl : Nat} {b : Bool} (e1 : M.holed3 zs h = h2) (e2 : M.holesOk zs = b) (H7 : HL w w6 h2 (.slice A1 nl c1)) (hn : h2.parts.length = nl)
    (P6 : PartsIs w6 (w.heap.size + 2) (.slice A1 nl c1) h2.parts) (h4 : tmps.getD 4 undef = .pointer (some ⟨w.heap.size + 1, 0, none⟩)) (h5 : tmps.getD 5 undef = .bool b) :
    bodyPost Tryz.prog Tryz.f64 (HolesTo zs h w) .ret { tmps := tmps, defers := [] } (w6.setRow (w.heap.size + 1) (hcells h2 (.slice A1 nl c1))) := by
  have hb : HB (w6.setRow (w.heap.size + 1) (hcells h2 (.slice A1 nl c1))) (w.heap.size + 1) h2 (.slice A1 nl c1) := setRow_heap w6 _ _ _ _ _ H7.res
  refine bodyPost_ret (results_holes hb h4 h5) rfl ⟨A1, c1, ?_, ?_, ?_⟩
  · rw [e1, e2, hn]
  · rw [e1, hn]; exact PartsIs.lower (PartsIs.row P6 _ (Nat.lt_succ_self _) _) (by omega)
  · exact below_setRow H7.below (Nat.le_succ _) _

set_option maxRecDepth 100000 in
set_option maxHeartbeats 4000000 in
theorem refHoles_any (h : M.Hdr) (Ah : Option Addr) (nh ch : Nat) (A : Option Addr) (c : Nat) (zs : List Int) (w : World) (hr : Rd w w.heap.size A 512 zs) (hc : 512 ≤ c) (hcm : c ≤ maxLen) :
    Calls Tryz.prog 64 #[.agg (hcells h (.slice Ah nh ch)), .slice A 512 c] w (HolesTo zs h w) := by
  obtain ⟨b, off, rfl, hbw, _⟩ := hr.2.2 (by decide)
  have HR := hid (⟨hr, hc, hcm⟩ : _ ∧ _ ∧ _)
  have HPt := hid (fun (W : World) (hW : Below w.heap.size w W) => refParts_any (some ⟨b, off, none⟩) 512 c zs 386 4 W ((hr.below hW).more hW.size) hc hcm (by decide))
  have HPr := hid (fun (V : World) (hV : Below w.heap.size w V) => (by
    have hrd := (hr.below hV).sub (a := 483) (m := 12) (by decide)
    exact parseRef_any (some ⟨b, off + 483, none⟩) 12 (c - 483) (M.sub zs 483 12) V _ hrd (by omega) (by omega) : Calls Tryz.prog 61 #[.slice (some ⟨b, off + 483, none⟩) 12 (c - 483)] V (fun e w' => e = .returned (.tuple #[.int .i64 (M.num zs 483 12), .bool (M.parOk (M.sub zs 483 12))]) ∧ V = w')))
  have HBy := hid (show ∃ z, w.cell? ⟨b, off + 482, none⟩ = some (.int .u8 z) ∧ M.byt zs 482 = z by
    obtain ⟨b', off', z, e, _, _, _, hz, hcell⟩ := hr.at_ (k := 482) (by decide)
    injection e with e
    injection e with e1 e2
    subst e1 e2
    exact ⟨z, hcell, by unfold M.byt; rw [List.getD_eq_getElem?_getD, hz]; rfl⟩)
  have HBw := hid hbw
  have S1 := hid (show (495 : Int) ≤ (c : Int) by omega)
  have S2 := hid (show ¬ (c = 483) by omega)
  clear hr hc hcm hbw
  go_enter Tryz.func64, Tryz.ntmps64
  go_wp2_with fail
  have HH : Hid (HL w _ h (.slice Ah nh ch)) := hid (HL.new w h (.slice Ah nh ch))
  have ecl : M.clip 386 512 = 386 ∧ M.clip 4 21 = 4 := by decide
  rw [ecl.1, ecl.2] at HPt
  clear ecl
  unfold hcells at HH
  have HH2 : Hid (HL w ((w.alloc (.cells (hcells h (.slice Ah nh ch)) 33)).alloc (.cells #[.string ⟨#[]⟩, .int .i64 0, .int .i64 0, .int .i64 0, .int .i64 0, .int .i64 0, .int .u8 0, .string ⟨#[]⟩, .int .i64 0, .string ⟨#[]⟩, .string ⟨#[]⟩, .int .i64 0, .int .i64 0, .string ⟨#[]⟩, .slice none 0 0, .bool false, .int .i64 0] 33)) h (.slice Ah nh ch)) := hid (HL.new w h (.slice Ah nh ch))
  clear HH
  generalize World.alloc (World.alloc w _) _ = W2 at *
  (with_reducible refine (HPt.out W2 HH2.out.below).mono ?_)
  intro e w3 ht
  obtain ⟨A1, c1, rfl, hp1, b1⟩ := ht.is_
  have H3 := hid (HH2.out.later b1)
  have P3 := hid (PartsIs.lower hp1 (show w.heap.size + 2 ≤ W2.heap.size from HB.lt HH2.out.res))
  clear ht hp1 b1 HH2 HPt
  have HO : Hid (M.holesOk zs = ((M.parts zs 386 4).isSome && (M.parOk (M.sub zs 483 12) && (decide (0 ≤ M.num zs 483 12) && decide (M.num zs 483 12 ≤ M.maxSize))))) := hid rfl
  have HHd : Hid (M.holed3 zs h = { h with parts := (M.parts zs 386 4).getD [], more := M.byt zs 482 != 0, real := M.num zs 483 12 }) := hid rfl
  generalize hh1 : M.holesOk zs = ok2 at *
  have HO2 := hid hh1
  clear hh1
  generalize hh2 : M.holed3 zs h = h2 at *
  have HH2 := hid hh2
  clear hh2
  generalize (M.parts zs 386 4).isSome = ok1 at *
  generalize (M.parts zs 386 4).getD [] = L at *
  generalize hnl : L.length = nl at *
  have HNL := hid hnl
  clear hnl
  have s1 := S1.out
  have s2 := S2.out
  go_wp2_with fail
  (with_reducible refine (HPr.out w3 H3.out.below).mono ?_)
  rintro e w4 ⟨rfl, rfl⟩
  clear s1 s2 HPr
  generalize M.num zs 483 12 = rl at *
  generalize M.parOk (M.sub zs 483 12) = ok3 at *
  have k14 := HB.cell H3.out.box (i := 14) (v := .slice Ah nh ch) rfl
  have f14 := HB.frozen H3.out.box 14
  have H4 := hid (H3.out.set 14 (.slice A1 nl c1) (hcells_parts h _ _ L))
  have P4 := hid (PartsIs.set P3.out ⟨w.heap.size, 14, none⟩ (by show w.heap.size < _; omega) (.slice A1 nl c1))
  clear H3 P3
  go_upto_region 4 with fail
  generalize w3.setCell _ _ = w4 at *
  clear k14 f14
  obtain ⟨z, hz, hzb⟩ := HBy.out
  have kz : w4.cell? ⟨b, off + 482, none⟩ = some (.int .u8 z) := (H4.out.below.cell (p := ⟨b, off + 482, none⟩) HBw.out).trans hz
  have HZb := hid hzb
  clear hz hzb HBy
  have k15 := HB.cell H4.out.box (i := 15) (v := .bool h.more) rfl
  have f15 := HB.frozen H4.out.box 15
  have H5 := hid (H4.out.set 15 (.bool (z != 0)) (hcells_more _ _ (z != 0)))
  have P5 := hid (PartsIs.set P4.out ⟨w.heap.size, 15, none⟩ (by show w.heap.size < _; omega) (.bool (z != 0)))
  clear H4 P4
  go_upto_region 5 with fail
  generalize w4.setCell _ _ = w5 at *
  clear kz k15 f15
  have k16 := HB.cell H5.out.box (i := 16) (v := .int .i64 h.real) rfl
  have f16 := HB.frozen H5.out.box 16
  have H6 := hid (H5.out.set 16 (.int .i64 rl) (h' := { h with parts := L, more := (z != 0), real := rl }) rfl)
  have P6 := hid (PartsIs.set P5.out ⟨w.heap.size, 16, none⟩ (by show w.heap.size < _; omega) (.int .i64 rl))
  clear H5 P5
  go_upto_region 6 with fail
  generalize w5.setCell _ _ = w6 at *
  clear k16 f16
  have E2 := hid (show h2 = { h with parts := L, more := (z != 0), real := rl } by rw [HHd.out, HZb.out])
  have H7 : Hid (HL w w6 h2 (.slice A1 nl c1)) := hid (by rw [E2.out]; exact H6.out)
  clear H6 HHd HZb
  have HN7 := hid (show h2.parts.length = nl by rw [E2.out]; exact HNL.out)
  have P7 : Hid (PartsIs w6 (w.heap.size + 2) (.slice A1 nl c1) h2.parts) := hid (by rw [E2.out]; exact P6.out)
  clear E2 P6
  cases ok1
  case' true =>
    cases ok3
    case' true =>
      by_cases hr0 : 0 ≤ rl
  all_goals
    go_wp2_with (first
      | (refine wpList_load_row rfl 33 (.tmp 2) rfl w.heap.size (by rfl) 33 (hcells h2 (.slice A1 nl c1)) (0, 0) _ H7.out.box Tryz.underlying33 rfl hdr_size ?_)
      | (refine wpList_store_row rfl 33 (.tmp 4) (.tmp 30) rfl (w.heap.size + 1) (hcells h2 (.slice A1 nl c1)) (by simp [Act.eval]) (by simp [Act.eval]) 33 (hcells {} (.slice none 0 0)) H7.out.res hdr_size rfl (hcells_one _ rfl) ?_))
    exact holes_end HH2.out (HO2.out.trans (HO.out.trans (by first | (simp [M.maxSize, *]; done) | (rw [decide_eq_false (show ¬ 0 ≤ rl by omega)]; rfl) | (rw [Bool.eq_iff_iff]; simp [M.maxSize, *]; exact ⟨of_decide_eq_true, decide_eq_true⟩)))) H7.out HN7.out P7.out rfl rfl
end Go.Proofs.YtkpnhggpcpjddaaGreatDoor

/-! The document's Parse. -/
namespace Go.Proofs.YtkpnhggpcpjddaaGreatDoor
open Go.RowKit Go.Lib
namespace M
def mj (zs : List Int) (v : Int) : Int := if v = 0 then 0 else num zs 329 8
def mn (zs : List Int) (v : Int) : Int := if v = 0 then 0 else num zs 337 8
def told0 (zs : List Int) (v : Int) : Hdr :=
  { name := txt zs 0 100, mode := num zs 100 8, uid := num zs 108 8, gid := num zs 116 8, size := num zs 124 12, mtime := num zs 136 12, kind := kind zs, link := txt zs 157 100, way := v, major := mj zs v, minor := mn zs v }
def told1 (zs : List Int) (v : Int) : Hdr := { told0 zs v with user := if v = 0 then ⟨#[]⟩ else txt zs 265 32, group := if v = 0 then ⟨#[]⟩ else txt zs 297 32 }
def told2 (zs : List Int) (v : Int) : Hdr := { told1 zs v with pre := if v = 1 then txt zs 345 155 else ⟨#[]⟩ }
theorem told_eq (zs : List Int) (v : Nat) : told zs v = { told2 zs (v : Int) with real := if kind zs == 83 && (v : Int) == 2 then num zs 483 12 else 0 } := by
  unfold told rn rt told2 told1 told0 holed mj mn
  by_cases h0 : (v : Int) = 0
  · simp [h0]
  · by_cases h1 : (v : Int) = 1
    · simp [h1]
    · simp [h1]
theorem way_lt {zs : List Int} {v : Nat} (h : way zs = some v) : v < 3 := by
  unfold way at h
  split at h
  · split at h
    · injection h with h; omega
    · split at h
      · injection h with h; omega
      · split at h
        · injection h with h; omega
        · cases h
  · cases h
theorem hparse_no (zs : List Int) (h1 : zs.length = 512) (h2 : right zs = true) (h3 : known (kind zs) = true) (h : way zs = none ∨ fOk zs (wayN zs) = false) : hparse zs = (32, {}) := by
  unfold hparse
  rw [if_neg (by simp [h1]), if_neg (by simp [h2]), if_neg (by simp [h3])]
  cases hw : way zs with
  | none => rfl
  | some v =>
    rcases h with h | h
    · rw [hw] at h; cases h
    · have e : wayN zs = (v : Int) := by unfold wayN; rw [hw]; rfl
      rw [e] at h
      have : allOk zs (kind zs) v = false := by rw [allOk_eq, h]; rfl
      simp only
      rw [if_pos this]
theorem hparse_at (zs : List Int) (v : Nat) (h1 : zs.length = 512) (h2 : right zs = true) (h3 : known (kind zs) = true) (hw : way zs = some v) (hf : fOk zs v = true) :
    hparse zs = if kind zs = 83 then if (v : Int) = 2 then if holesOk zs = true then (0, holed3 zs (told2 zs v)) else (32, {}) else (31, {}) else (0, told2 zs v) := by
  unfold hparse
  rw [if_neg (by simp [h1]), if_neg (by simp [h2]), if_neg (by simp [h3]), hw]
  simp only
  rw [allOk_eq, hf, Bool.true_and]
  by_cases hk : kind zs = 83
  · rw [if_pos hk]
    by_cases hv : (v : Int) = 2
    · rw [if_pos hv]
      have e7 : rnOk zs (kind zs) v 7 = numOk zs 483 12 0 maxSize := by unfold rnOk; simp [hk, hv]
      have em : may (kind zs) v = true := by unfold may; simp [hv]
      rw [e7, em, if_neg (show ¬ (true = false) by decide)]
      unfold holesOk
      cases hn : numOk zs 483 12 0 maxSize with
      | false => simp [hk]
      | true =>
        rw [if_neg (by decide), if_pos hk]
        cases hp : parts zs 386 4 with
        | none => simp
        | some l =>
          simp only [Option.isSome_some, Bool.and_self, if_true]
          rw [told_eq]
          unfold holed3
          simp [hk, hv, hp]
    · rw [if_neg hv]
      have e7 : rnOk zs (kind zs) v 7 = true := by unfold rnOk; simp [hv]
      have em : may (kind zs) v = false := by unfold may; simp [hk, hv]
      rw [e7, em, if_neg (by decide), if_pos rfl, if_pos hk]
  · rw [if_neg hk]
    have e7 : rnOk zs (kind zs) v 7 = true := by unfold rnOk; simp [hk]
    have em : may (kind zs) v = true := by unfold may; simp [hk]
    rw [e7, em, if_neg (by decide), if_neg (by decide), if_neg hk, told_eq]
    congr 1
    simp [hk]
    rfl
end M
/-- What the document's Parse answers. -/
def RefParseIs (zs : List Int) (w : World) (e : Ending) (w' : World) : Prop :=
  ∃ A c, e = .returned (.tuple #[.agg (hcells (M.hparse zs).2 (.slice A (M.hparse zs).2.parts.length c)), .int .i64 (M.hparse zs).1]) ∧ PartsB w' w'.heap.size (.slice A (M.hparse zs).2.parts.length c) (M.hparse zs).2.parts ∧ Below w.heap.size w w'
theorem results_refParse {tmps : Array Value} {g : Nat} {h : M.Hdr} {pv : Value} {n : Int} {w : World} (hb : HB w g h pv) (h2 : tmps.getD 2 undef = .pointer (some ⟨g, 0, none⟩)) (h3 : tmps.getD 3 undef = .int .i64 n) :
    (results Tryz.f29 tmps).run Tryz.prog w = .ok (.tuple #[.agg (hcells h pv), .int .i64 n]) w := by
  rw [Array.getD_eq_getD_getElem?] at h2 h3
  have hl := run_loadVar_row (P := Tryz.prog) w g 33 33 (hcells h pv) (0, 0) _ hb Tryz.underlying33 rfl hdr_size
  simp [results, Tryz.results29, h2, h3, asAddr, hl]
theorem below_set_new {B : Nat} {w5 V : World} (h : Below w5.heap.size w5 V) (o : Obj) (hB : w5.heap.size = B) : Below B w5 (V.alloc o) := hB ▸ h.alloc h.size o
/-- The header's variable in block g, the result's. -/
structure QL (w W : World) (g : Nat) (h : M.Hdr) (pv : Value) : Prop where
  box : HB W g h pv
  res : HB W w.heap.size {} (.slice none 0 0)
  low : w.heap.size < g
  below : Below w.heap.size w W
theorem QL.later {w W W' : World} {g : Nat} {h : M.Hdr} {pv : Value} (s : QL w W g h pv) (hb : Below W.heap.size W W') : QL w W' g h pv :=
  ⟨HB.below s.box hb (HB.lt s.box), HB.below s.res hb (HB.lt s.res), s.low, s.below.trans (hb.mono s.below.size)⟩
theorem QL.set {w W : World} {g : Nat} {h h' : M.Hdr} {pv pv' : Value} (s : QL w W g h pv) (i : Nat) (v : Value) (e : (hcells h pv).set! i v = hcells h' pv') : QL w (W.setCell ⟨g, i, none⟩ v) g h' pv' :=
  ⟨HB.set s.box i v e, HB.other s.res (by have := s.low; show w.heap.size ≠ g; omega) v, s.low, s.below.setCell (p := ⟨g, i, none⟩) (Nat.le_of_lt s.low) v⟩
theorem QL.row {w W : World} {g : Nat} {h h' : M.Hdr} {pv pv' : Value} (s : QL w W g h pv) : QL w (W.setRow g (hcells h' pv')) g h' pv' :=
  ⟨setRow_heap W _ _ _ _ _ s.box, (setRow_other W g w.heap.size _ (by have := s.low; omega)).trans s.res, s.low, below_setRow s.below (Nat.le_of_lt s.low) _⟩
namespace M
theorem told1_no {zs : List Int} {v : Int} (h : v = 0) : told1 zs v = told0 zs v := by subst h; rfl
theorem told1_yes {zs : List Int} {v : Int} (h : v ≠ 0) : told1 zs v = { told0 zs v with user := txt zs 265 32, group := txt zs 297 32 } := by unfold told1; rw [if_neg h, if_neg h]
theorem told2_no {zs : List Int} {v : Int} (h : v ≠ 1) : told2 zs v = told1 zs v := by unfold told2; rw [if_neg h]; rfl
theorem told2_yes {zs : List Int} {v : Int} (h : v = 1) : told2 zs v = { told1 zs v with pre := txt zs 345 155 } := by unfold told2; rw [if_pos h]
end M
/-- The result's variable. -/
structure RL (w W : World) : Prop where
  res : HB W w.heap.size {} (.slice none 0 0)
  below : Below w.heap.size w W
theorem RL.later {w W W' : World} (s : RL w W) (hb : Below W.heap.size W W') : RL w W' := ⟨HB.below s.res hb (HB.lt s.res), s.below.trans (hb.mono s.below.size)⟩
theorem parse_end {tmps : Array Value} {w W : World} {zs : List Int} {n : Int} {h : M.Hdr} {A : Option Addr} {nl c : Nat} (e : M.hparse zs = (n, h)) (s : RL w W) (hn : h.parts.length = nl) (hp : PartsIs W (w.heap.size + 1) (.slice A nl c) h.parts)
    (h2 : tmps.getD 2 undef = .pointer (some ⟨w.heap.size, 0, none⟩)) (h3 : tmps.getD 3 undef = .int .i64 n) :
    bodyPost Tryz.prog Tryz.f29 (RefParseIs zs w) .ret { tmps := tmps, defers := [] } (W.setRow w.heap.size (hcells h (.slice A nl c))) := by
  have hb : HB (W.setRow w.heap.size (hcells h (.slice A nl c))) w.heap.size h (.slice A nl c) := setRow_heap W _ _ _ _ _ s.res
  refine bodyPost_ret (results_refParse hb h2 h3) rfl ⟨A, c, ?_, ?_, ?_⟩
  · rw [e, hn]
  · rw [e, hn]; exact PartsIs.in_ (PartsIs.row hp _ (Nat.lt_succ_self _) _)
  · exact below_setRow s.below (Nat.le_refl _) _
theorem parse_err {tmps : Array Value} {w W : World} {zs : List Int} {n : Int} (e : M.hparse zs = (n, {})) (s : RL w W) (h2 : tmps.getD 2 undef = .pointer (some ⟨w.heap.size, 0, none⟩)) (h3 : tmps.getD 3 undef = .int .i64 n) :
    bodyPost Tryz.prog Tryz.f29 (RefParseIs zs w) .ret { tmps := tmps, defers := [] } (W.setRow w.heap.size (hcells {} (.slice none 0 0))) :=
  parse_end e s rfl (PartsIs.nil _ _) h2 h3

set_option maxRecDepth 100000 in
set_option maxHeartbeats 4000000 in
theorem refParse_any (A : Option Addr) (n c : Nat) (zs : List Int) (w : World) (hr : Rd w w.heap.size A n zs) (hc : n ≤ c) (hcm : c ≤ maxLen) (hs : n ≤ 65536) :
    Calls Tryz.prog 29 #[.slice A n c] w (RefParseIs zs w) := by
  have HLen := hid hr.len
  have S0 := hid (⟨HB.new w {} (.slice none 0 0), (Below.refl _ _).alloc (Nat.le_refl _) _⟩ : RL w (w.alloc (.cells (hcells {} (.slice none 0 0)) 33)))
  by_cases hn : n = 512
  case neg =>
    have hx := hid (show M.hparse zs = (21, {}) by unfold M.hparse; rw [if_pos (by rw [HLen.out]; exact hn)])
    have e1 : ((n : Int) != 512) = true := by simp; omega
    clear hr hn
    go_enter Tryz.func29, Tryz.ntmps29
    go_upto_region 2 with fail
    have S1 : Hid (RL w (w.alloc (.cells #[.string ⟨#[]⟩, .int .i64 0, .int .i64 0, .int .i64 0, .int .i64 0, .int .i64 0, .int .u8 0, .string ⟨#[]⟩, .int .i64 0, .string ⟨#[]⟩, .string ⟨#[]⟩, .int .i64 0, .int .i64 0, .string ⟨#[]⟩, .slice none 0 0, .bool false, .int .i64 0] 33))) := S0
    generalize World.alloc w _ = W at *
    go_wp2_with (refine wpList_store_row rfl 33 (.tmp 2) (.tmp 14) rfl w.heap.size (hcells {} (.slice none 0 0)) (by simp [Act.eval]) (by simp [Act.eval, hcells]) 33 (hcells {} (.slice none 0 0)) S1.out.res hdr_size rfl (hcells_one _ rfl) ?_)
    exact parse_err hx.out S1.out rfl rfl
  case pos =>
    subst hn
    obtain ⟨b, off, rfl, hbw, _⟩ := hr.2.2 (by decide)
    have HRt := hid (fun (V : World) (hV : Below w.heap.size w V) => refRight_any (some ⟨b, off, none⟩) 512 c zs V w.heap.size (hr.below hV) hc hcm (by decide))
    have HKd := hid (fun (V : World) (hV : Below w.heap.size w V) => refKind_any (some ⟨b, off, none⟩) 512 c zs V w.heap.size (hr.below hV) rfl)
    have HWy := hid (fun (V : World) (hV : Below w.heap.size w V) => refWay_any (some ⟨b, off, none⟩) 512 c zs V ((hr.below hV).more hV.size) hc hcm)
    have HFd := hid (fun (v : Int) (V : World) (hV : Below w.heap.size w V) => refFields_any (some ⟨b, off, none⟩) c zs v V ((hr.below hV).more hV.size) hc hcm)
    have HHl := hid (fun (h : M.Hdr) (Ah : Option Addr) (nh ch : Nat) (V : World) (hV : Below w.heap.size w V) => refHoles_any h Ah nh ch (some ⟨b, off, none⟩) c zs V ((hr.below hV).more hV.size) hc hcm)
    have HCt := hid (fun (a m : Nat) (ham : a + m ≤ 512) (V : World) (hV : Below w.heap.size w V) => (by
      have hrd := ((hr.below hV).more hV.size).sub (a := a) (m := m) ham
      have hl : S.ints (M.toB (M.sub zs a m)) = M.sub zs a m := M.ints_toB (M.sub_bd hr.bd)
      rw [← hl] at hrd
      exact S.refCut_any (some ⟨b, off + a, none⟩) m (c - a) (M.toB (M.sub zs a m)) V hrd (by omega) (by omega) : Calls Tryz.prog 23 #[.slice (some ⟨b, off + a, none⟩) m (c - a)] V (fun e w' => e = .returned (.string (M.txt zs a m)) ∧ V = w')))
    have HC0 := hid (fun (V : World) (hV : Below w.heap.size w V) => show Calls Tryz.prog 23 #[.slice (some ⟨b, off, none⟩) 100 c] V (fun e w' => e = .returned (.string (M.txt zs 0 100)) ∧ V = w') from HCt.out 0 100 (by decide) V hV)
    have HC157 := hid (fun (V : World) (hV : Below w.heap.size w V) => HCt.out 157 100 (by decide) V hV)
    have HC265 := hid (fun (V : World) (hV : Below w.heap.size w V) => HCt.out 265 32 (by decide) V hV)
    have HC297 := hid (fun (V : World) (hV : Below w.heap.size w V) => HCt.out 297 32 (by decide) V hV)
    have HC345 := hid (fun (V : World) (hV : Below w.heap.size w V) => HCt.out 345 155 (by decide) V hV)
    have HC := hid hc
    clear hr hc hcm hbw
    have hst := store_new
    go_enter Tryz.func29, Tryz.ntmps29
    go_upto_region 3 with fail
    have S1 : Hid (RL w (w.alloc (.cells #[.string ⟨#[]⟩, .int .i64 0, .int .i64 0, .int .i64 0, .int .i64 0, .int .i64 0, .int .u8 0, .string ⟨#[]⟩, .int .i64 0, .string ⟨#[]⟩, .string ⟨#[]⟩, .int .i64 0, .int .i64 0, .string ⟨#[]⟩, .slice none 0 0, .bool false, .int .i64 0] 33))) := S0
    clear S0
    generalize World.alloc w _ = W at *
    go_wp2_with fail
    (with_reducible refine (HRt.out W S1.out.below).mono ?_)
    rintro e w1 ⟨rfl, rfl⟩
    cases hR : M.right zs with
    | false =>
      have hx := hid (show M.hparse zs = (30, {}) by unfold M.hparse; rw [if_neg (by simp [HLen.out]), if_pos hR])
      clear hR
      go_wp2_with (refine wpList_store_row rfl 33 (.tmp 2) (.tmp 18) rfl w.heap.size (hcells {} (.slice none 0 0)) (by simp [Act.eval]) (by simp [Act.eval, hcells]) 33 (hcells {} (.slice none 0 0)) S1.out.res hdr_size rfl (hcells_one _ rfl) ?_)
      exact parse_err hx.out S1.out rfl rfl
    | true =>
      have HRr := hid hR
      clear hR
      go_wp2_with fail
      (with_reducible refine (HKd.out W S1.out.below).mono ?_)
      rintro e w1 ⟨rfl, rfl⟩
      generalize hkk : M.kind zs = kk at *
      have HK := hid hkk
      clear hkk
      go_wp2_with fail
      (with_reducible refine (refKnown_any kk W).mono ?_)
      rintro e w1 ⟨rfl, rfl⟩
      cases hkn : M.known kk with
      | false =>
        have hx := hid (show M.hparse zs = (31, {}) by unfold M.hparse; rw [if_neg (by simp [HLen.out]), if_neg (by simp [HRr.out]), HK.out, if_pos hkn])
        clear hkn
        go_wp2_with (refine wpList_store_row rfl 33 (.tmp 2) (.tmp 23) rfl w.heap.size (hcells {} (.slice none 0 0)) (by simp [Act.eval]) (by simp [Act.eval, hcells]) 33 (hcells {} (.slice none 0 0)) S1.out.res hdr_size rfl (hcells_one _ rfl) ?_)
        exact parse_err hx.out S1.out rfl rfl
      | true =>
        have HKn := hid (show M.known (M.kind zs) = true by rw [HK.out]; exact hkn)
        clear hkn
        go_wp2_with fail
        (with_reducible refine (HWy.out W S1.out.below).mono ?_)
        rintro e w2 ⟨rfl, b2⟩
        have S2 := hid (S1.out.later b2)
        clear b2 S1
        generalize hvi : wayN zs = vi at *
        have HVi := hid hvi
        clear hvi
        go_wp2_with fail
        (with_reducible refine (HFd.out vi w2 S2.out.below).mono ?_)
        rintro e w5 ⟨⟨A5, n5, c5, rfl, hcl⟩, b5⟩
        have S5 := hid (S2.out.later b5)
        clear b5 S2 HFd HWy HRt
        cases hW : M.way zs with
        | none =>
          have hx := hid (M.hparse_no zs HLen.out HRr.out HKn.out (.inl hW))
          clear hcl hW
          rw [show (none : Option Nat).isSome = false from rfl]
          go_wp2_with (refine wpList_store_row rfl 33 (.tmp 2) (.tmp 41) rfl w.heap.size (hcells {} (.slice none 0 0)) (by simp [Act.eval]) (by simp [Act.eval, hcells]) 33 (hcells {} (.slice none 0 0)) S5.out.res hdr_size rfl (hcells_one _ rfl) ?_)
          exact parse_err hx.out S5.out rfl rfl
        | some v =>
          have hv : (v : Int) = vi := by rw [← HVi.out]; unfold wayN; rw [hW]; rfl
          have HV := hid hv
          have hv3 : v < 3 := M.way_lt hW
          have HV3 := hid hv3
          have HWs := hid hW
          clear hW hv hv3
          rw [show (some v : Option Nat).isSome = true from rfl]
          cases hf : M.fOk zs vi with
          | false =>
            have hx := hid (M.hparse_no zs HLen.out HRr.out HKn.out (.inr (by rw [HVi.out]; exact hf)))
            clear hcl hf
            go_wp2_with (refine wpList_store_row rfl 33 (.tmp 2) (.tmp 41) rfl w.heap.size (hcells {} (.slice none 0 0)) (by simp [Act.eval]) (by simp [Act.eval, hcells]) 33 (hcells {} (.slice none 0 0)) S5.out.res hdr_size rfl (hcells_one _ rfl) ?_)
            exact parse_err hx.out S5.out rfl rfl
          | true =>
            obtain ⟨g5, rfl, rfl, hg5, _, hcell⟩ := hcl hf
            have HX := hid (M.hparse_at zs v HLen.out HRr.out HKn.out HWs.out (by rw [HV.out]; exact hf))
            rw [HV.out] at HX
            obtain rfl := HK.out
            clear HK
            clear hf hcl
            have hC : ∀ V, Below w5.heap.size w5 V → ∀ j z, (M.fl zs vi)[j]? = some z → V.cell? ⟨g5, j, none⟩ = some (.int .i64 z) := fun V hV j z hz => (hV.cell (p := ⟨g5, j, none⟩) hg5).trans (hcell j z hz)
            have C0 := hid (fun V hV => hC V hV 0 (M.num zs 100 8) rfl)
            have C1 := hid (fun V hV => hC V hV 1 (M.num zs 108 8) rfl)
            have C2 := hid (fun V hV => hC V hV 2 (M.num zs 116 8) rfl)
            have C3 := hid (fun V hV => hC V hV 3 (M.num zs 124 12) rfl)
            have C4 := hid (fun V hV => hC V hV 4 (M.num zs 136 12) rfl)
            have C5 := hid (fun V hV => hC V hV 5 (M.mj zs vi) rfl)
            have C6 := hid (fun V hV => hC V hV 6 (M.mn zs vi) rfl)
            clear hC hcell
            have F100 := hid (show (100 : Int) ≤ (c : Int) by have := HC.out; omega)
            have F257 := hid (show (257 : Int) ≤ (c : Int) by have := HC.out; omega)
            have F157 := hid (show ¬ (c = 157) by have := HC.out; omega)
            have HST := hid (show Sem.run Tryz.prog (storeCells ⟨w5.heap.size, 0, none⟩ (hcells (M.told0 zs vi) (.slice none 0 0)).toList)
              ((w5.alloc (.cells #[.string ⟨#[]⟩, .int .i64 0, .int .i64 0, .int .i64 0, .int .i64 0, .int .i64 0, .int .u8 0, .string ⟨#[]⟩, .int .i64 0, .string ⟨#[]⟩, .string ⟨#[]⟩, .int .i64 0, .int .i64 0, .string ⟨#[]⟩, .slice none 0 0, .bool false, .int .i64 0] 33)).drew) =
              .ok () ((w5.alloc (.cells (hcells (M.told0 zs vi) (.slice none 0 0)) 33)).drew) from store_new w5.drew (M.told0 zs vi) none 0 0)
            go_upto_region 11 with fail
            go_cut [8] from 42 to 72 (fun x wx => x = .pointer (some ⟨w5.heap.size, 0, none⟩) ∧ wx = (w5.alloc (.cells (hcells (M.told0 zs vi) (.slice none 0 0)) 33)).drew)
            case first =>
              refine wp_region_held_drew (S := fun U => Below w5.heap.size w5 U) (by kernel_rfl) (below_drwR (Below.refl _ _)) (fun hS => ?_)
              clear hst
              refine takeH (i := 0) (v := ?_) 42 rfl rfl (by kernel_rfl) (by kernel_rfl) (by kernel_rfl) (fun _ _ _ h => h) (by rfl) ?hy0 hS ?rest0
              case hy0 => (intro W hW; clear hW; go_simp; first | done | with_reducible rfl)
              try simp only [Act.put, List.setIfInBounds_toArray, List.set_cons_zero, List.set_cons_succ]
              refine takeH (i := 2) (v := ?_) 44 rfl rfl (by kernel_rfl) (by kernel_rfl) (by kernel_rfl) (fun _ _ _ h => h) (by rfl) ?hy2 hS ?rest2
              case hy2 => (intro W hW; clear hW; go_simp; first | done | with_reducible rfl)
              try simp only [Act.put, List.setIfInBounds_toArray, List.set_cons_zero, List.set_cons_succ]
              refine takeH (i := 3) (v := ?_) 45 rfl rfl (by kernel_rfl) (by kernel_rfl) (by kernel_rfl) (fun _ _ _ h => h) (by rfl) ?hy3 hS ?rest3
              case hy3 => (intro W hW; clear hW; go_simp; first | done | with_reducible rfl)
              try simp only [Act.put, List.setIfInBounds_toArray, List.set_cons_zero, List.set_cons_succ]
              refine takeH (i := 4) (v := ?_) 46 rfl rfl (by kernel_rfl) (by kernel_rfl) (by kernel_rfl) (fun _ _ _ h => h) (by rfl) ?hy4 hS ?rest4
              case hy4 => (intro W hW; clear hW; go_simp; first | done | with_reducible rfl)
              try simp only [Act.put, List.setIfInBounds_toArray, List.set_cons_zero, List.set_cons_succ]
              refine takeH (i := 5) (v := ?_) 47 rfl rfl (by kernel_rfl) (by kernel_rfl) (by kernel_rfl) (fun _ _ _ h => h) (by rfl) ?hy5 hS ?rest5
              case hy5 => (intro W hW; have f0 := C0.out W hW; clear hW; go_simp; first | done | with_reducible rfl)
              try simp only [Act.put, List.setIfInBounds_toArray, List.set_cons_zero, List.set_cons_succ]
              refine takeH (i := 6) (v := ?_) 48 rfl rfl (by kernel_rfl) (by kernel_rfl) (by kernel_rfl) (fun _ _ _ h => h) (by rfl) ?hy6 hS ?rest6
              case hy6 => (intro W hW; clear hW; go_simp; first | done | with_reducible rfl)
              try simp only [Act.put, List.setIfInBounds_toArray, List.set_cons_zero, List.set_cons_succ]
              refine takeH (i := 7) (v := ?_) 49 rfl rfl (by kernel_rfl) (by kernel_rfl) (by kernel_rfl) (fun _ _ _ h => h) (by rfl) ?hy7 hS ?rest7
              case hy7 => (intro W hW; clear hW; go_simp; first | done | with_reducible rfl)
              try simp only [Act.put, List.setIfInBounds_toArray, List.set_cons_zero, List.set_cons_succ]
              refine takeH (i := 8) (v := ?_) 50 rfl rfl (by kernel_rfl) (by kernel_rfl) (by kernel_rfl) (fun _ _ _ h => h) (by rfl) ?hy8 hS ?rest8
              case hy8 => (intro W hW; have f0 := C1.out W hW; clear hW; go_simp; first | done | with_reducible rfl)
              try simp only [Act.put, List.setIfInBounds_toArray, List.set_cons_zero, List.set_cons_succ]
              refine takeH (i := 9) (v := ?_) 51 rfl rfl (by kernel_rfl) (by kernel_rfl) (by kernel_rfl) (fun _ _ _ h => h) (by rfl) ?hy9 hS ?rest9
              case hy9 => (intro W hW; clear hW; go_simp; first | done | with_reducible rfl)
              try simp only [Act.put, List.setIfInBounds_toArray, List.set_cons_zero, List.set_cons_succ]
              refine takeH (i := 10) (v := ?_) 52 rfl rfl (by kernel_rfl) (by kernel_rfl) (by kernel_rfl) (fun _ _ _ h => h) (by rfl) ?hy10 hS ?rest10
              case hy10 => (intro W hW; clear hW; go_simp; first | done | with_reducible rfl)
              try simp only [Act.put, List.setIfInBounds_toArray, List.set_cons_zero, List.set_cons_succ]
              refine takeH (i := 11) (v := ?_) 53 rfl rfl (by kernel_rfl) (by kernel_rfl) (by kernel_rfl) (fun _ _ _ h => h) (by rfl) ?hy11 hS ?rest11
              case hy11 => (intro W hW; have f0 := C2.out W hW; clear hW; go_simp; first | done | with_reducible rfl)
              try simp only [Act.put, List.setIfInBounds_toArray, List.set_cons_zero, List.set_cons_succ]
              refine takeH (i := 12) (v := ?_) 54 rfl rfl (by kernel_rfl) (by kernel_rfl) (by kernel_rfl) (fun _ _ _ h => h) (by rfl) ?hy12 hS ?rest12
              case hy12 => (intro W hW; clear hW; go_simp; first | done | with_reducible rfl)
              try simp only [Act.put, List.setIfInBounds_toArray, List.set_cons_zero, List.set_cons_succ]
              refine takeH (i := 13) (v := ?_) 55 rfl rfl (by kernel_rfl) (by kernel_rfl) (by kernel_rfl) (fun _ _ _ h => h) (by rfl) ?hy13 hS ?rest13
              case hy13 => (intro W hW; clear hW; go_simp; first | done | with_reducible rfl)
              try simp only [Act.put, List.setIfInBounds_toArray, List.set_cons_zero, List.set_cons_succ]
              refine takeH (i := 14) (v := ?_) 56 rfl rfl (by kernel_rfl) (by kernel_rfl) (by kernel_rfl) (fun _ _ _ h => h) (by rfl) ?hy14 hS ?rest14
              case hy14 => (intro W hW; have f0 := C3.out W hW; clear hW; go_simp; first | done | with_reducible rfl)
              try simp only [Act.put, List.setIfInBounds_toArray, List.set_cons_zero, List.set_cons_succ]
              refine takeH (i := 15) (v := ?_) 57 rfl rfl (by kernel_rfl) (by kernel_rfl) (by kernel_rfl) (fun _ _ _ h => h) (by rfl) ?hy15 hS ?rest15
              case hy15 => (intro W hW; clear hW; go_simp; first | done | with_reducible rfl)
              try simp only [Act.put, List.setIfInBounds_toArray, List.set_cons_zero, List.set_cons_succ]
              refine takeH (i := 16) (v := ?_) 58 rfl rfl (by kernel_rfl) (by kernel_rfl) (by kernel_rfl) (fun _ _ _ h => h) (by rfl) ?hy16 hS ?rest16
              case hy16 => (intro W hW; clear hW; go_simp; first | done | with_reducible rfl)
              try simp only [Act.put, List.setIfInBounds_toArray, List.set_cons_zero, List.set_cons_succ]
              refine takeH (i := 17) (v := ?_) 59 rfl rfl (by kernel_rfl) (by kernel_rfl) (by kernel_rfl) (fun _ _ _ h => h) (by rfl) ?hy17 hS ?rest17
              case hy17 => (intro W hW; have f0 := C4.out W hW; clear hW; go_simp; first | done | with_reducible rfl)
              try simp only [Act.put, List.setIfInBounds_toArray, List.set_cons_zero, List.set_cons_succ]
              refine takeH (i := 18) (v := ?_) 60 rfl rfl (by kernel_rfl) (by kernel_rfl) (by kernel_rfl) (fun _ _ _ h => h) (by rfl) ?hy18 hS ?rest18
              case hy18 => (intro W hW; clear hW; go_simp; first | done | with_reducible rfl)
              try simp only [Act.put, List.setIfInBounds_toArray, List.set_cons_zero, List.set_cons_succ]
              refine takeH (i := 19) (v := ?_) 61 rfl rfl (by kernel_rfl) (by kernel_rfl) (by kernel_rfl) (fun _ _ _ h => h) (by rfl) ?hy19 hS ?rest19
              case hy19 => (intro W hW; clear hW; go_simp; first | done | with_reducible rfl)
              try simp only [Act.put, List.setIfInBounds_toArray, List.set_cons_zero, List.set_cons_succ]
              refine takeH (i := 20) (v := ?_) 62 rfl rfl (by kernel_rfl) (by kernel_rfl) (by kernel_rfl) (fun _ _ _ h => h) (by rfl) ?hy20 hS ?rest20
              case hy20 => (intro W hW; have f0 := C5.out W hW; clear hW; go_simp; first | done | with_reducible rfl)
              try simp only [Act.put, List.setIfInBounds_toArray, List.set_cons_zero, List.set_cons_succ]
              refine takeH (i := 21) (v := ?_) 63 rfl rfl (by kernel_rfl) (by kernel_rfl) (by kernel_rfl) (fun _ _ _ h => h) (by rfl) ?hy21 hS ?rest21
              case hy21 => (intro W hW; clear hW; go_simp; first | done | with_reducible rfl)
              try simp only [Act.put, List.setIfInBounds_toArray, List.set_cons_zero, List.set_cons_succ]
              refine takeH (i := 22) (v := ?_) 64 rfl rfl (by kernel_rfl) (by kernel_rfl) (by kernel_rfl) (fun _ _ _ h => h) (by rfl) ?hy22 hS ?rest22
              case hy22 => (intro W hW; clear hW; go_simp; first | done | with_reducible rfl)
              try simp only [Act.put, List.setIfInBounds_toArray, List.set_cons_zero, List.set_cons_succ]
              refine takeH (i := 23) (v := ?_) 65 rfl rfl (by kernel_rfl) (by kernel_rfl) (by kernel_rfl) (fun _ _ _ h => h) (by rfl) ?hy23 hS ?rest23
              case hy23 => (intro W hW; have f0 := C6.out W hW; clear hW; go_simp; first | done | with_reducible rfl)
              try simp only [Act.put, List.setIfInBounds_toArray, List.set_cons_zero, List.set_cons_succ]
              refine takeH (i := 24) (v := ?_) 66 rfl rfl (by kernel_rfl) (by kernel_rfl) (by kernel_rfl) (fun _ _ _ h => h) (by rfl) ?hy24 hS ?rest24
              case hy24 => (intro W hW; clear hW; go_simp; first | done | with_reducible rfl)
              try simp only [Act.put, List.setIfInBounds_toArray, List.set_cons_zero, List.set_cons_succ]
              refine takeH (i := 25) (v := ?_) 67 rfl rfl (by kernel_rfl) (by kernel_rfl) (by kernel_rfl) (fun _ _ _ h => h) (by rfl) ?hy25 hS ?rest25
              case hy25 => (intro W hW; have f0 := F100.out; clear hW; go_simp; first | done | with_reducible rfl)
              try simp only [Act.put, List.setIfInBounds_toArray, List.set_cons_zero, List.set_cons_succ]
              refine takeH (i := 27) (v := ?_) 69 rfl rfl (by kernel_rfl) (by kernel_rfl) (by kernel_rfl) (fun _ _ _ h => h) (by rfl) ?hy27 hS ?rest27
              case hy27 => (intro W hW; clear hW; go_simp; first | done | with_reducible rfl)
              try simp only [Act.put, List.setIfInBounds_toArray, List.set_cons_zero, List.set_cons_succ]
              refine takeH (i := 28) (v := ?_) 70 rfl rfl (by kernel_rfl) (by kernel_rfl) (by kernel_rfl) (fun _ _ _ h => h) (by rfl) ?hy28 hS ?rest28
              case hy28 => (intro W hW; have f0 := F257.out; have f1 := F157.out; clear hW; go_simp; first | done | with_reducible rfl)
              try simp only [Act.put, List.setIfInBounds_toArray, List.set_cons_zero, List.set_cons_succ]
              refine twoH (i := 1) (j := 31) 43 8 rfl rfl rfl rfl (by kernel_rfl) (by rfl) (by rfl) (fun K hK => ?_) (fun K hK => ?_)
              · go_simp
                (with_reducible refine (HKd.out _ (S5.out.below.trans (hS.mono S5.out.below.size))).mono ?_)
                rintro e w1 ⟨rfl, rfl⟩
                refine hK.out _ _ hS (fun hS => ?_)
                clear hK K
                try simp only [Act.put, List.setIfInBounds_toArray, List.set_cons_zero, List.set_cons_succ]
                refine twoH (i := 26) (j := 31) 68 8 rfl rfl rfl rfl (by kernel_rfl) (by rfl) (by rfl) (fun K hK => ?_) (fun K hK => ?_)
                · go_simp
                  (with_reducible refine (HC0.out _ (S5.out.below.trans (hS.mono S5.out.below.size))).mono ?_)
                  rintro e w1 ⟨rfl, rfl⟩
                  refine hK.out _ _ hS (fun hS => ?_)
                  clear hK K
                  try simp only [Act.put, List.setIfInBounds_toArray, List.set_cons_zero, List.set_cons_succ]
                  refine twoH (i := 29) (j := 31) 71 8 rfl rfl rfl rfl (by kernel_rfl) (by rfl) (by rfl) (fun K hK => ?_) (fun K hK => ?_)
                  · go_simp
                    (with_reducible refine (HC157.out _ (S5.out.below.trans (hS.mono S5.out.below.size))).mono ?_)
                    rintro e w1 ⟨rfl, rfl⟩
                    refine hK.out _ _ hS (fun hS => ?_)
                    clear hK K
                    try simp only [Act.put, List.setIfInBounds_toArray, List.set_cons_zero, List.set_cons_succ]
                    refine takeH (i := 30) (v := .agg (hcells (M.told0 zs vi) (.slice none 0 0))) 72 rfl rfl (by kernel_rfl) (by kernel_rfl) (by kernel_rfl) (fun _ _ _ h => h) (by rfl) ?hy30pccc hS ?rest30pccc
                    case hy30pccc => (intro W hW; clear hW; go_simp; first | done | rfl)
                    try simp only [Act.put, List.setIfInBounds_toArray, List.set_cons_zero, List.set_cons_succ]
                    refine loneH (i := 31) 8 rfl rfl (by kernel_rfl) (by rfl) (fun K hK => ?_)
                    go_simp
                    refine hK.out _ _ (below_drwR ((Below.refl _ _).alloc (Nat.le_refl _) _)) (fun hS => ?_)
                    clear hK K
                    try simp only [Act.put, List.setIfInBounds_toArray, List.set_cons_zero, List.set_cons_succ]
                    refine loneN (i := 32) rfl rfl (by kernel_rfl) (by rfl) (fun K hK => ?_)
                    have hst5 := HST.out
                    go_simp
                    refine hK.out _ _ (below_drwR ((Below.refl _ _).alloc (Nat.le_refl _) _)) (fun hS => ?_)
                    clear hK K hst5
                    try simp only [Act.put]
                    refine wpAnyH_done (by kernel_rfl) ?_ _
                    try simp only [Act.put, List.setIfInBounds_toArray, List.set_cons_zero, List.set_cons_succ]
                    go_wp2_with fail
                    go_meet
                    case rel => exact ⟨rfl, rfl⟩
                  · go_simp
                    refine hK.out _ _ (below_drwR ((Below.refl _ _).alloc (Nat.le_refl _) _)) (fun hS => ?_)
                    clear hK K
                    try simp only [Act.put, List.setIfInBounds_toArray, List.set_cons_zero, List.set_cons_succ]
                    refine loneH (i := 29) 71 rfl rfl (by kernel_rfl) (by rfl) (fun K hK => ?_)
                    go_simp
                    (with_reducible refine (HC157.out _ (S5.out.below.trans (hS.mono S5.out.below.size))).mono ?_)
                    rintro e w1 ⟨rfl, rfl⟩
                    refine hK.out _ _ hS (fun hS => ?_)
                    clear hK K
                    try simp only [Act.put, List.setIfInBounds_toArray, List.set_cons_zero, List.set_cons_succ]
                    refine takeH (i := 30) (v := .agg (hcells (M.told0 zs vi) (.slice none 0 0))) 72 rfl rfl (by kernel_rfl) (by kernel_rfl) (by kernel_rfl) (fun _ _ _ h => h) (by rfl) ?hy30pcca hS ?rest30pcca
                    case hy30pcca => (intro W hW; clear hW; go_simp; first | done | rfl)
                    try simp only [Act.put, List.setIfInBounds_toArray, List.set_cons_zero, List.set_cons_succ]
                    refine loneN (i := 32) rfl rfl (by kernel_rfl) (by rfl) (fun K hK => ?_)
                    have hst5 := HST.out
                    go_simp
                    refine hK.out _ _ (below_drwR ((Below.refl _ _).alloc (Nat.le_refl _) _)) (fun hS => ?_)
                    clear hK K hst5
                    try simp only [Act.put]
                    refine wpAnyH_done (by kernel_rfl) ?_ _
                    try simp only [Act.put, List.setIfInBounds_toArray, List.set_cons_zero, List.set_cons_succ]
                    go_wp2_with fail
                    go_meet
                    case rel => exact ⟨rfl, rfl⟩
                · go_simp
                  refine hK.out _ _ (below_drwR ((Below.refl _ _).alloc (Nat.le_refl _) _)) (fun hS => ?_)
                  clear hK K
                  try simp only [Act.put, List.setIfInBounds_toArray, List.set_cons_zero, List.set_cons_succ]
                  refine loneH (i := 26) 68 rfl rfl (by kernel_rfl) (by rfl) (fun K hK => ?_)
                  go_simp
                  (with_reducible refine (HC0.out _ (S5.out.below.trans (hS.mono S5.out.below.size))).mono ?_)
                  rintro e w1 ⟨rfl, rfl⟩
                  refine hK.out _ _ hS (fun hS => ?_)
                  clear hK K
                  try simp only [Act.put, List.setIfInBounds_toArray, List.set_cons_zero, List.set_cons_succ]
                  refine loneH (i := 29) 71 rfl rfl (by kernel_rfl) (by rfl) (fun K hK => ?_)
                  go_simp
                  (with_reducible refine (HC157.out _ (S5.out.below.trans (hS.mono S5.out.below.size))).mono ?_)
                  rintro e w1 ⟨rfl, rfl⟩
                  refine hK.out _ _ hS (fun hS => ?_)
                  clear hK K
                  try simp only [Act.put, List.setIfInBounds_toArray, List.set_cons_zero, List.set_cons_succ]
                  refine takeH (i := 30) (v := .agg (hcells (M.told0 zs vi) (.slice none 0 0))) 72 rfl rfl (by kernel_rfl) (by kernel_rfl) (by kernel_rfl) (fun _ _ _ h => h) (by rfl) ?hy30pca hS ?rest30pca
                  case hy30pca => (intro W hW; clear hW; go_simp; first | done | rfl)
                  try simp only [Act.put, List.setIfInBounds_toArray, List.set_cons_zero, List.set_cons_succ]
                  refine loneN (i := 32) rfl rfl (by kernel_rfl) (by rfl) (fun K hK => ?_)
                  have hst5 := HST.out
                  go_simp
                  refine hK.out _ _ (below_drwR ((Below.refl _ _).alloc (Nat.le_refl _) _)) (fun hS => ?_)
                  clear hK K hst5
                  try simp only [Act.put]
                  refine wpAnyH_done (by kernel_rfl) ?_ _
                  try simp only [Act.put, List.setIfInBounds_toArray, List.set_cons_zero, List.set_cons_succ]
                  go_wp2_with fail
                  go_meet
                  case rel => exact ⟨rfl, rfl⟩
              · go_simp
                refine hK.out _ _ (below_drwR ((Below.refl _ _).alloc (Nat.le_refl _) _)) (fun hS => ?_)
                clear hK K
                try simp only [Act.put, List.setIfInBounds_toArray, List.set_cons_zero, List.set_cons_succ]
                refine loneH (i := 1) 43 rfl rfl (by kernel_rfl) (by rfl) (fun K hK => ?_)
                go_simp
                (with_reducible refine (HKd.out _ (S5.out.below.trans (hS.mono S5.out.below.size))).mono ?_)
                rintro e w1 ⟨rfl, rfl⟩
                refine hK.out _ _ hS (fun hS => ?_)
                clear hK K
                try simp only [Act.put, List.setIfInBounds_toArray, List.set_cons_zero, List.set_cons_succ]
                refine loneH (i := 26) 68 rfl rfl (by kernel_rfl) (by rfl) (fun K hK => ?_)
                go_simp
                (with_reducible refine (HC0.out _ (S5.out.below.trans (hS.mono S5.out.below.size))).mono ?_)
                rintro e w1 ⟨rfl, rfl⟩
                refine hK.out _ _ hS (fun hS => ?_)
                clear hK K
                try simp only [Act.put, List.setIfInBounds_toArray, List.set_cons_zero, List.set_cons_succ]
                refine loneH (i := 29) 71 rfl rfl (by kernel_rfl) (by rfl) (fun K hK => ?_)
                go_simp
                (with_reducible refine (HC157.out _ (S5.out.below.trans (hS.mono S5.out.below.size))).mono ?_)
                rintro e w1 ⟨rfl, rfl⟩
                refine hK.out _ _ hS (fun hS => ?_)
                clear hK K
                try simp only [Act.put, List.setIfInBounds_toArray, List.set_cons_zero, List.set_cons_succ]
                refine takeH (i := 30) (v := .agg (hcells (M.told0 zs vi) (.slice none 0 0))) 72 rfl rfl (by kernel_rfl) (by kernel_rfl) (by kernel_rfl) (fun _ _ _ h => h) (by rfl) ?hy30pa hS ?rest30pa
                case hy30pa => (intro W hW; clear hW; go_simp; first | done | rfl)
                try simp only [Act.put, List.setIfInBounds_toArray, List.set_cons_zero, List.set_cons_succ]
                refine loneN (i := 32) rfl rfl (by kernel_rfl) (by rfl) (fun K hK => ?_)
                have hst5 := HST.out
                go_simp
                refine hK.out _ _ (below_drwR ((Below.refl _ _).alloc (Nat.le_refl _) _)) (fun hS => ?_)
                clear hK K hst5
                try simp only [Act.put]
                refine wpAnyH_done (by kernel_rfl) ?_ _
                try simp only [Act.put, List.setIfInBounds_toArray, List.set_cons_zero, List.set_cons_succ]
                go_wp2_with fail
                go_meet
                case rel => exact ⟨rfl, rfl⟩
            case rest =>
              obtain ⟨rfl, hwc⟩ := hcut
              have Q0 : Hid (QL w wc w5.heap.size (M.told0 zs vi) (.slice none 0 0)) := hid (by
                subst hwc
                exact ⟨HB.new w5 _ _, HB.alloc S5.out.res _, HB.lt S5.out.res, below_drwR (S5.out.below.alloc S5.out.below.size _)⟩)
              clear hwc HST C0 C1 C2 C3 C4 C5 C6 F100 F257 F157 HC0 HC157 HKd S5 hg5
              generalize w5.heap.size = g at *
              have HVp := hid (show 0 ≤ vi by have := HV.out; omega)
              have F297 := hid (show (297 : Int) ≤ (c : Int) by have := HC.out; omega)
              have F265 := hid (show ¬ (c = 265) by have := HC.out; omega)
              have F329 := hid (show (329 : Int) ≤ (c : Int) by have := HC.out; omega)
              have F2972 := hid (show ¬ (c = 297) by have := HC.out; omega)
              have F500 := hid (show (500 : Int) ≤ (c : Int) by have := HC.out; omega)
              have F345 := hid (show ¬ (c = 345) by have := HC.out; omega)
              go_upto_if 74 with fail
              obtain ⟨b1, hb1⟩ : ∃ b, b = decide (0 < vi) := ⟨_, rfl⟩
              rw [← hb1]
              have HF1 := hid (fun (e : b1 = false) => show vi = 0 by rw [e] at hb1; have := of_decide_eq_false hb1.symm; have := HVp.out; omega)
              have HT1 := hid (fun (e : b1 = true) => show vi ≠ 0 by rw [e] at hb1; have := of_decide_eq_true hb1.symm; omega)
              clear hb1
              go_cut [9] from 75 to 82 (fun _ wx => QL w wx g (M.told1 zs vi) (.slice none 0 0))
              case first =>
                cases b1 with
                | false =>
                  have h0 := HF1.out rfl
                  have Q1 : Hid (QL w wc g (M.told1 zs vi) (.slice none 0 0)) := hid (by rw [M.told1_no h0]; exact Q0.out)
                  clear h0 HF1 HT1
                  go_wp2_with fail
                  go_meet
                  case rel => exact Q1.out
                | true =>
                  have h0 := HT1.out rfl
                  have E1 := hid (M.told1_yes (zs := zs) h0)
                  clear h0 HF1 HT1
                  have s1 := F297.out
                  have s2 := F265.out
                  go_wp2_with fail
                  (with_reducible refine (HC265.out wc Q0.out.below).mono ?_)
                  rintro e w1 ⟨rfl, rfl⟩
                  clear s1 s2
                  have k9 := HB.cell Q0.out.box (i := 9) (v := .string (M.told0 zs vi).user) rfl
                  have f9 := HB.frozen Q0.out.box 9
                  have Q1 := hid (Q0.out.set 9 (.string (M.txt zs 265 32)) (h' := { M.told0 zs vi with user := M.txt zs 265 32 }) rfl)
                  clear Q0
                  go_upto_region 14 with fail
                  generalize wc.setCell _ _ = wd at *
                  clear k9 f9
                  have s1 := F329.out
                  have s2 := F2972.out
                  go_wp2_with fail
                  (with_reducible refine (HC297.out wd Q1.out.below).mono ?_)
                  rintro e w1 ⟨rfl, rfl⟩
                  clear s1 s2
                  have k10 := HB.cell Q1.out.box (i := 10) (v := .string (M.told0 zs vi).group) rfl
                  have f10 := HB.frozen Q1.out.box 10
                  have Q2 : Hid (QL w (wd.setCell ⟨g, 10, none⟩ (.string (M.txt zs 297 32))) g (M.told1 zs vi) (.slice none 0 0)) := hid (by rw [E1.out]; exact Q1.out.set 10 (.string (M.txt zs 297 32)) rfl)
                  clear Q1
                  go_wp2_with fail
                  go_meet
                  case rel => exact Q2.out
              case rest =>
                have Q1 := hid hcut
                clear hcut Q0 HF1 HT1 F297 F265 F329 F2972 HC265 HC297
                go_upto_if 84 with fail
                obtain ⟨b2, hb2⟩ : ∃ b, b = (vi == 1) := ⟨_, rfl⟩
                rw [← hb2]
                have HF1 := hid (fun (e : b2 = false) => show vi ≠ 1 by rw [e] at hb2; simpa using hb2.symm)
                have HT1 := hid (fun (e : b2 = true) => show vi = 1 by rw [e] at hb2; simpa using hb2.symm)
                clear hb2
                go_cut [9] from 85 to 88 (fun _ wx => QL w wx g (M.told2 zs vi) (.slice none 0 0))
                case first =>
                  cases b2 with
                  | false =>
                    have h0 := HF1.out rfl
                    have Q2 : Hid (QL w wc g (M.told2 zs vi) (.slice none 0 0)) := hid (by rw [M.told2_no h0]; exact Q1.out)
                    clear h0 HF1 HT1
                    go_wp2_with fail
                    go_meet
                    case rel => exact Q2.out
                  | true =>
                    have h0 := HT1.out rfl
                    have E1 := hid (M.told2_yes (zs := zs) h0)
                    clear h0 HF1 HT1
                    have s1 := F500.out
                    have s2 := F345.out
                    go_wp2_with fail
                    (with_reducible refine (HC345.out wc Q1.out.below).mono ?_)
                    rintro e w1 ⟨rfl, rfl⟩
                    clear s1 s2
                    have k13 := HB.cell Q1.out.box (i := 13) (v := .string (M.told1 zs vi).pre) rfl
                    have f13 := HB.frozen Q1.out.box 13
                    have Q2 : Hid (QL w (wc.setCell ⟨g, 13, none⟩ (.string (M.txt zs 345 155))) g (M.told2 zs vi) (.slice none 0 0)) := hid (by rw [E1.out]; exact Q1.out.set 13 (.string (M.txt zs 345 155)) rfl)
                    clear Q1
                    go_wp2_with fail
                    go_meet
                    case rel => exact Q2.out
                case rest =>
                  have Q2 := hid hcut
                  clear hcut Q1 HF1 HT1 F500 F345 HC345
                  have k6 : wc.cell? ⟨g, 6, none⟩ = some (.int .u8 (M.kind zs)) := HB.cell Q2.out.box (i := 6) rfl
                  generalize hh2 : M.told2 zs vi = h2 at *
                  have H2p := hid (show h2.parts.length = 0 by rw [← hh2]; rfl)
                  clear hh2
                  by_cases h83 : M.kind zs = 83
                  case neg =>
                    have e83 : (M.kind zs == 83) = false := by simpa using h83
                    have hx := hid (show M.hparse zs = (0, h2) by rw [HX.out, if_neg h83])
                    clear h83
                    go_wp2_with (first
                      | (refine wpList_load_row rfl 33 (.tmp 8) rfl g (by rfl) 33 (hcells h2 (.slice none 0 0)) (0, 0) _ Q2.out.box Tryz.underlying33 rfl hdr_size ?_)
                      | (refine wpList_store_row rfl 33 (.tmp 2) (.tmp 105) rfl w.heap.size (hcells h2 (.slice none 0 0)) (by simp [Act.eval, Act.put]) (by simp [Act.eval, Act.put]) 33 (hcells {} (.slice none 0 0)) Q2.out.res hdr_size rfl (hcells_one _ rfl) ?_))
                    exact parse_end hx.out ⟨Q2.out.res, Q2.out.below⟩ H2p.out (by rw [List.eq_nil_of_length_eq_zero H2p.out]; exact PartsIs.nil _ _) rfl rfl
                  case pos =>
                    have e83 : (M.kind zs == 83) = true := by simpa using h83
                    by_cases hv2 : vi = 2
                    case neg =>
                      have e2 : (vi != 2) = true := by simpa using hv2
                      have hx := hid (show M.hparse zs = (31, {}) by rw [HX.out, if_pos h83, if_neg hv2])
                      clear h83 hv2
                      go_wp2_with (refine wpList_store_row rfl 33 (.tmp 2) (.tmp 94) rfl w.heap.size (hcells {} (.slice none 0 0)) (by simp [Act.eval]) (by simp [Act.eval, hcells]) 33 (hcells {} (.slice none 0 0)) Q2.out.res hdr_size rfl (hcells_one _ rfl) ?_)
                      exact parse_err hx.out ⟨Q2.out.res, Q2.out.below⟩ rfl rfl
                    case pos =>
                      have e2 : (vi != 2) = false := by simpa using hv2
                      have HX2 := hid (show M.hparse zs = if M.holesOk zs = true then (0, M.holed3 zs h2) else (32, {}) by rw [HX.out, if_pos h83, if_pos hv2])
                      clear h83 hv2 HX
                      go_wp2_with (refine wpList_load_row rfl 33 (.tmp 8) rfl g (by rfl) 33 (hcells h2 (.slice none 0 0)) (0, 0) _ Q2.out.box Tryz.underlying33 rfl hdr_size ?_)
                      refine (HHl.out h2 none 0 0 wc Q2.out.below).mono ?_
                      rintro e w7 ⟨A7, c7, rfl, hp7, b7⟩
                      have Q3 := hid (Q2.out.later b7)
                      have P7 := hid (PartsIs.lower hp7 (show g + 1 ≤ wc.heap.size from HB.lt Q2.out.box))
                      clear hp7 b7 HHl Q2 k6
                      generalize M.holed3 zs h2 = h3 at *
                      generalize hn3 : h3.parts.length = n3 at *
                      have HN3 := hid hn3
                      clear hn3
                      have bA : Below w7.heap.size w7 (w7.alloc (.cells (hcells h3 (.slice A7 n3 c7)) 33)) := (Below.refl _ _).alloc (Nat.le_refl _) _
                      have Q4 := hid (Q3.out.later bA)
                      have P8 := hid (P7.out.later bA)
                      have B9 := hid (HB.new w7 h3 (.slice A7 n3 c7))
                      clear bA Q3 P7
                      go_upto_region 21 with fail
                      generalize w7.alloc _ = w8 at *
                      have HOk := hid HX2.out
                      clear HX2
                      generalize M.holesOk zs = ok at *
                      cases ok with
                      | false =>
                        have hx := hid (show M.hparse zs = (32, {}) by rw [HOk.out, if_neg (by decide)])
                        clear HOk
                        go_wp2_with (refine wpList_store_row rfl 33 (.tmp 2) (.tmp 103) rfl w.heap.size (hcells {} (.slice none 0 0)) (by simp [Act.eval]) (by simp [Act.eval, hcells]) 33 (hcells {} (.slice none 0 0)) Q4.out.res hdr_size rfl (hcells_one _ rfl) ?_)
                        exact parse_err hx.out ⟨Q4.out.res, Q4.out.below⟩ rfl rfl
                      | true =>
                        have hx := hid (show M.hparse zs = (0, h3) by rw [HOk.out, if_pos rfl])
                        clear HOk
                        have Q5 := hid (Q4.out.row (h' := h3) (pv' := .slice A7 n3 c7))
                        have P9 := hid (PartsIs.row P8.out g (Nat.lt_succ_self _) (hcells h3 (.slice A7 n3 c7)))
                        go_upto_region 24 with (first
                          | (refine wpList_load_row rfl 33 (.tmp 9) rfl w7.heap.size (by rfl) 33 (hcells h3 (.slice A7 n3 c7)) (0, 0) _ B9.out Tryz.underlying33 rfl hdr_size ?_)
                          | (refine wpList_store_row rfl 33 (.tmp 8) (.tmp 104) rfl g (hcells h3 (.slice A7 n3 c7)) (by simp [Act.eval, Act.put]) (by simp [Act.eval, Act.put]) 33 (hcells h2 (.slice none 0 0)) Q4.out.box hdr_size rfl (hcells_one _ rfl) ?_))
                        generalize w8.setRow g _ = w9 at *
                        go_wp2_with (first
                          | (refine wpList_load_row rfl 33 (.tmp 8) rfl g (by rfl) 33 (hcells h3 (.slice A7 n3 c7)) (0, 0) _ Q5.out.box Tryz.underlying33 rfl hdr_size ?_)
                          | (refine wpList_store_row rfl 33 (.tmp 2) (.tmp 105) rfl w.heap.size (hcells h3 (.slice A7 n3 c7)) (by simp [Act.eval, Act.put]) (by simp [Act.eval, Act.put]) 33 (hcells {} (.slice none 0 0)) Q5.out.res hdr_size rfl (hcells_one _ rfl) ?_))
                        exact parse_end hx.out ⟨Q5.out.res, Q5.out.below⟩ HN3.out (PartsIs.lower P9.out (by have := Q5.out.low; omega)) rfl rfl
end Go.Proofs.YtkpnhggpcpjddaaGreatDoor
