/-
  The program's reading of one line.
-/
import Derived.Test.YtefkgkdocglgaaaDoorPaxCut
import Derived.Test.YtefkgkdocglgaaaDoorPaxRight
import Derived.Test.YtefkgkdocglgaaaDoorPaxWidth
namespace Go.Proofs.YtefkgkdocglgaaaDoor
open Go.RowKit Go.Shelf

def recV : Option M.Rc → Value
  | none => .tuple #[.agg #[.string ⟨#[]⟩, .string ⟨#[]⟩], .bool false]
  | some r => .tuple #[.agg #[.string ⟨r.1.toArray⟩, .string ⟨r.2.toArray⟩], .bool true]
def RecIs (o : Option M.Rc) (w : World) (e : Ending) (w' : World) : Prop := e = .returned (recV o) ∧ Below w.heap.size w w'

theorem elemB : Tryd.prog.elem 22 = 5 := by kernel_rfl
theorem cellsB : (Tryd.prog.info? 5).map (·.size) = some 1 := by kernel_rfl
/-- 's[l:h]' of bytes, the address under one name. -/
theorem slice_two (w : World) (a : Option Addr) (len cap l h : Nat) (h1 : l ≤ h) (h2 : h ≤ cap) :
    (Instr.slice 22 (.slice a len cap) (some (.int .i64 l)) (some (.int .i64 h)) none).run Tryd.prog w = .ok (.slice (cutA a cap l) (h - l) (cap - l)) w := by
  have ht : Tryd.prog.underlying 22 = some (.slice (Tryd.prog.elem 22)) := by rw [elemB]; exact Tryd.underlying22
  rw [run_slice_lh w 22 a len cap ht .i64 .i64 l h (by omega) (by omega) (by omega), elemB]
  have hs : (sizeOf 5).run Tryd.prog w = .ok 1 w := by
    obtain ⟨i, hi, hz⟩ := Option.map_eq_some_iff.1 cellsB
    simp [sizeOf, typeInfo, hi, hz]
  rw [hs]
  simp [Result.andThen, sliced, cutA]

theorem BoxR.frozen {w : World} {g : Nat} {s t : ByteArray} (h : BoxR w g s t) (i : Nat) : w.frozen? ⟨g, i, none⟩ = false := by
  unfold BoxR at h
  simp [World.frozen?, h]
theorem BoxR.set {w : World} {g : Nat} {s t : ByteArray} (h : BoxR w g s t) (s' t' : ByteArray) : BoxR ((w.setCell ⟨g, 0, none⟩ (.string s')).setCell ⟨g, 1, none⟩ (.string t')) g s' t' := by
  unfold BoxR at h ⊢
  simp [World.setCell, Array.getElem?_modify, h]
theorem below_set2 {B g : Nat} {a w : World} (h : Below B a w) (hg : B ≤ g) (u v : Value) : Below B a ((w.setCell ⟨g, 0, none⟩ u).setCell ⟨g, 1, none⟩ v) :=
  (h.setCell (p := ⟨g, 0, none⟩) hg u).setCell (p := ⟨g, 1, none⟩) hg v

theorem lineLen_le' (r : M.Rc) (h : r.1.length + r.2.length ≤ 10000000) : M.lineLen r ≤ 100000000 := by
  unfold M.lineLen
  have := M.wid_pos (M.body r).length
  have e := M.body_length r
  omega
theorem cell_new {W : World} {z : Int} {g : Nat} (hg : g = W.heap.size) : (W.alloc (.cells #[.int .u8 z] 5)).cell? ⟨g, 0, none⟩ = some (.int .u8 z) := by
  subst hg; rw [World.cell?_alloc_mark]; rfl
theorem results_rec {tmps : Array Value} {g : Nat} {s t : ByteArray} {v : Value} {w : World} (h6 : tmps.getD 6 undef = .pointer (some ⟨g, 0, none⟩)) (h7 : tmps.getD 7 undef = v) (hb : BoxR w g s t) :
    (results Tryd.f28 tmps).run Tryd.prog w = .ok (.tuple #[.agg #[.string s, .string t], v]) w := by
  simp only [results, show Tryd.f28.results = #[ResultVar.cell 6 45, ResultVar.tmp 7] from rfl]
  rw [Array.getD_eq_getD_getElem?] at h6 h7
  have c0 := hb.cell0
  have c1 := hb.cell1
  simp [go_sem, h6, h7, c0, c1]

set_option maxRecDepth 100000 in
set_option maxHeartbeats 4000000 in
theorem record_any (A : Option Addr) (c : Nat) (l : List UInt8) (hl : l.length ≤ 1048576) (hc : l.length ≤ c) (i W : Nat) (hi : i < l.length) (hW : W ≤ 100000000) (B : Nat) (w : World) (hB : B ≤ w.heap.size) (ht : TB B w) (h : Rd w w.heap.size A l.length (ints l)) :
    Calls Tryd.prog 28 #[.slice A l.length c, .int .i64 ((i : Int) + 1), .int .i64 W] w (RecIs (M.recAt l i W) w) := by
  have hreq := M.recAt_eq l i W
  have ht' : TB w.heap.size w := fun w' hb => ht w' (hb.mono hB)
  have HT := Lib.hid ht'
  clear ht ht'
  have hbx0 := BoxR.new w ⟨#[]⟩ ⟨#[]⟩
  have hb0 : Below w.heap.size w (w.alloc (.cells #[.string ⟨#[]⟩, .string ⟨#[]⟩] 45)) := (Below.refl _ w).alloc (Nat.le_refl _) _
  by_cases hbad : W < i + 1 ∨ l.length < W
  · rw [if_pos hbad] at hreq
    rw [hreq]
    have c0 := hbx0.cell0
    have c1 := hbx0.cell1
    have f0 := hbx0.frozen 0
    have f1 := hbx0.frozen 1
    clear hreq h
    by_cases hlt : W < i + 1
    · have hd : decide ((W : Int) < (i : Int) + 1) = true := by rw [decide_eq_true_eq]; omega
      clear hbad
      go_enter Tryd.func28, Tryd.ntmps28
      go_wp2
      refine bodyPost_ret (results_rec rfl rfl hbx0) rfl ⟨rfl, hb0⟩
    · have hd : decide ((W : Int) < (i : Int) + 1) = false := by rw [decide_eq_false_iff_not]; omega
      have hgt : l.length < W := by omega
      clear hbad hlt
      go_enter Tryd.func28, Tryd.ntmps28
      go_wp2
      refine bodyPost_ret (results_rec rfl rfl hbx0) rfl ⟨rfl, hb0⟩
  · have hW1 : i + 1 ≤ W := by omega
    have hW2 : W ≤ l.length := by omega
    rw [if_neg hbad] at hreq
    clear hbad
    have hd : decide ((W : Int) < (i : Int) + 1) = false := by rw [decide_eq_false_iff_not]; omega
    obtain ⟨b, off, rfl, hbb, _⟩ := h.2.2 (by omega)
    have hA2 : cutA (some ⟨b, off, none⟩) c (i + 1) ≠ none := by unfold cutA; split <;> simp
    have hrx := (h.front hW2).cut (k := i + 1) (c := c) hW1 (by omega)
    rw [ints_take, ints_drop] at hrx
    have hsl := fun W' => slice_two W' (some ⟨b, off, none⟩) l.length c (i + 1) W hW1 (by omega)
    have ei : (((i + 1 : Nat)) : Int) = (i : Int) + 1 := by omega
    rw [ei] at hsl
    have hxl : ((l.take W).drop (i + 1)).length = W - (i + 1) := by rw [List.length_drop, List.length_take]; omega
    rw [← hxl] at hsl hrx
    obtain ⟨x, hx⟩ : ∃ x, (l.take W).drop (i + 1) = x := ⟨_, rfl⟩
    obtain ⟨a2, ha2⟩ : ∃ a2, cutA (some ⟨b, off, none⟩) c (i + 1) = a2 := ⟨_, rfl⟩
    have hcx : x.length ≤ c - (i + 1) := by rw [← hx, hxl]; omega
    have hx6 : x.length ≤ 10000000 := by rw [← hx, hxl]; omega
    rw [hx] at hsl hrx hreq
    rw [ha2] at hsl hrx hA2
    obtain ⟨cx, hcxe⟩ : ∃ cx, c - (i + 1) = cx := ⟨_, rfl⟩
    rw [hcxe] at hsl hcx
    clear hx ha2 hxl hcxe ei h
    obtain ⟨T, hT⟩ : ∃ T, M.trimmed x = T := ⟨_, rfl⟩
    have hTx : T.length ≤ x.length := by
      rw [← hT]; unfold M.trimmed
      split
      · rw [List.length_dropLast]; omega
      · exact Nat.le_refl _
    have hrT : Rd w w.heap.size a2 T.length (ints T) := by
      have := hrx.front hTx
      rw [ints_take] at this
      have e : x.take T.length = T := by
        rw [← hT]; unfold M.trimmed
        split
        · rw [List.dropLast_eq_take, List.length_take, Nat.min_eq_left (by omega)]
        · exact List.take_length
      rwa [e] at this
    have CS := fun (W' : World) (g : Nat) (h1 : Rd W' w.heap.size a2 x.length (ints x)) => cutSuffix_any (g := g) (c := cx) h1 hcx hx6 hA2
    have CC := fun (W' : World) (g : Nat) (h1 : Rd W' w.heap.size a2 T.length (ints T)) => cut_any (g := g) (c := cx) h1 (by omega) (by omega) hA2
    obtain ⟨e1, he1⟩ : ∃ e1, M.ended x = e1 := ⟨_, rfl⟩
    obtain ⟨p1, hp1⟩ : ∃ p1, decide ((M.keyOf T).length < T.length) = p1 := ⟨_, rfl⟩
    unfold CutIs at CC
    rw [hT] at CS hreq
    rw [he1] at CS hreq
    simp only [hp1] at CC
    have hkl : (M.keyOf T).length ≤ T.length := M.keyOf_le T
    have hvl : (M.keyOf T).length + (M.valOf T).length ≤ T.length := by unfold M.valOf; rw [List.length_drop]; omega
    have hp1' : (M.keyOf T).length < T.length ↔ p1 = true := by rw [← hp1, decide_eq_true_iff]
    simp only [hp1'] at hreq
    clear hT he1 hp1 hp1' hA2
    generalize M.keyOf T = key at *
    generalize M.valOf T = V at *
    have HCS := Lib.hid CS
    have HCC := Lib.hid CC
    have HX := Lib.hid hrx
    have HTT := Lib.hid hrT
    have HRQ := Lib.hid hreq
    have HB0 := Lib.hid hbx0
    clear CS CC hrx hrT hreq hbx0
    go_enter Tryd.func28, Tryd.ntmps28
    go_wp2_with fail
    refine (HCS.out _ _ ((HX.out.alloc (Nat.le_refl _) _).alloc (by simp) _) (cell_new (by simp))).mono ?_
    rintro e w' ⟨rfl, rfl⟩
    go_wp2_with fail
    refine (HCC.out _ _ (((HTT.out.alloc (Nat.le_refl _) _).alloc (by simp) _).alloc (by simp; omega) _) (cell_new (by simp))).mono ?_
    rintro e w1 ⟨A2, c2, rfl, hrv, hrk, hb1⟩
    have b1 : Below w.heap.size w w1 := (((hb0.alloc (by simp) _).alloc (by simp; omega) _)).trans (hb1.mono (by simp; omega))
    have bx1 : BoxR w1 w.heap.size ⟨#[]⟩ ⟨#[]⟩ := ((HB0.out.alloc _).alloc _).below hb1 (by simp; omega)
    have htk := run_text hrk cx
    have htv := run_text hrv c2
    clear hrk hrv hb1
    have hbl := bx1.lt
    have c0 := bx1.cell0
    have c1 := bx1.cell1
    have f0 := bx1.frozen 0
    have f1 := bx1.frozen 1
    cases e1 with
    | false =>
      have hreq := HRQ.out
      rw [if_neg (by decide)] at hreq
      have HRE := Lib.hid hreq
      clear hreq
      go_wp2
      refine bodyPost_ret (results_rec rfl rfl ((bx1.set ⟨#[]⟩ ⟨#[]⟩).alloc _)) rfl ⟨by rw [HRE.out]; rfl, (below_set2 b1 (Nat.le_refl _) _ _).alloc (by simpa [World.setCell] using b1.size) _⟩
    | true =>
      cases p1 with
      | false =>
        have hreq := HRQ.out
        rw [if_pos rfl, if_neg (by simp)] at hreq
        have HRE := Lib.hid hreq
        clear hreq
        go_wp2
        refine bodyPost_ret (results_rec rfl rfl ((bx1.set ⟨#[]⟩ ⟨#[]⟩).alloc _)) rfl ⟨by rw [HRE.out]; rfl, (below_set2 b1 (Nat.le_refl _) _ _).alloc (by simpa [World.setCell] using b1.size) _⟩
      | true =>
        have hreq := HRQ.out
        rw [if_pos rfl] at hreq
        simp only [true_and] at hreq
        have C1 := fun W => right_any' ⟨key.toArray⟩ ⟨V.toArray⟩ W
        have C2 := fun W h2 h3 => width_any (⟨key.toArray⟩, ⟨V.toArray⟩) (by show key.length + V.length ≤ 10000000; omega) w.heap.size W h2 h3
        have erc : rc ((⟨key.toArray⟩ : ByteArray), (⟨V.toArray⟩ : ByteArray)) = (key, V) := rfl
        rw [erc] at C1 C2
        have hL : M.lineLen (key, V) ≤ 100000000 := by
          have := lineLen_le' (key, V) (show key.length + V.length ≤ 10000000 by omega)
          exact this
        obtain ⟨L, hLL⟩ : ∃ L, M.lineLen (key, V) = L := ⟨_, rfl⟩
        rw [hLL] at hreq C2 hL
        cases hr : M.right (key, V) with
        | false =>
          rw [hr] at C1 hreq
          rw [if_neg (by simp)] at hreq
          have HRE := Lib.hid hreq
          have HC1 := Lib.hid C1
          clear hreq hr C1 C2 hLL erc
          go_wp2_with fail
          refine (HC1.out _).mono ?_
          rintro e w2 ⟨rfl, hb2⟩
          have b2 : Below w.heap.size w w2 := (b1.alloc b1.size _).trans (hb2.mono (by simp; omega))
          have bx2 : BoxR w2 w.heap.size ⟨#[]⟩ ⟨#[]⟩ := (bx1.alloc _).below hb2 (by simp; omega)
          have c0 := bx2.cell0
          have c1 := bx2.cell1
          have f0 := bx2.frozen 0
          have f1 := bx2.frozen 1
          go_wp2
          refine bodyPost_ret (results_rec rfl rfl (bx2.set ⟨#[]⟩ ⟨#[]⟩)) rfl ⟨by rw [HRE.out]; rfl, below_set2 b2 (Nat.le_refl _) _ _⟩
        | true =>
          rw [hr] at C1 hreq
          simp only [true_and] at hreq
          have HC1 := Lib.hid C1
          have HC2 := Lib.hid C2
          have HRQ2 := Lib.hid hreq
          clear hreq hr C1 C2 hLL erc
          go_wp2_with fail
          refine (HC1.out _).mono ?_
          rintro e w2 ⟨rfl, hb2⟩
          have b2 : Below w.heap.size w w2 := (b1.alloc b1.size _).trans (hb2.mono (by simp; omega))
          have bx2 : BoxR w2 w.heap.size ⟨#[]⟩ ⟨#[]⟩ := (bx1.alloc _).below hb2 (by simp; omega)
          have by2 : BoxR w2 w1.heap.size ⟨key.toArray⟩ ⟨V.toArray⟩ := (BoxR.new w1 _ _).below hb2 (by simp)
          have d0 := by2.cell0
          have d1 := by2.cell1
          clear c0 c1 f0 f1 hbl
          go_wp2_with fail
          refine (HC2.out _ b2.size (HT.out.on b2)).mono ?_
          rintro e w3 ⟨rfl, hb3⟩
          have b3 := b2.trans (hb3.mono b2.size)
          have bx3 := bx2.below hb3 bx2.lt
          have by3 := by2.below hb3 by2.lt
          clear d0 d1
          have d0 := by3.cell0
          have d1 := by3.cell1
          have c0 := bx3.cell0
          have c1 := bx3.cell1
          have f0 := bx3.frozen 0
          have f1 := bx3.frozen 1
          by_cases hq : L = W
          · have hreq := HRQ2.out
            rw [if_pos hq] at hreq
            have HRE := Lib.hid hreq
            have e1 : ((L : Int) != (W : Int)) = false := by simp; omega
            have e2 : (L != W) = false := by simp; omega
            clear hreq hq
            go_wp2
            refine bodyPost_ret (results_rec rfl rfl (bx3.set ⟨key.toArray⟩ ⟨V.toArray⟩)) rfl ⟨by rw [HRE.out]; rfl, below_set2 b3 (Nat.le_refl _) _ _⟩
          · have hreq := HRQ2.out
            rw [if_neg hq] at hreq
            have HRE := Lib.hid hreq
            have e1 : ((L : Int) != (W : Int)) = true := by simp; omega
            have e2 : (L != W) = true := by simp; omega
            clear hreq hq
            go_wp2
            refine bodyPost_ret (results_rec rfl rfl (bx3.set ⟨#[]⟩ ⟨#[]⟩)) rfl ⟨by rw [HRE.out]; rfl, below_set2 b3 (Nat.le_refl _) _ _⟩
end Go.Proofs.YtefkgkdocglgaaaDoor
