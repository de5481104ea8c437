/-
  WriteWrong as data.
-/
import Derived.Test.YtgbgngdakkiclaaGreatDoorWrZ
set_option linter.unusedVariables false
set_option linter.unusedSimpArgs false
namespace Go.Proofs.YtgbgngdakkiclaaGreatDoor
open Go.RowKit Go.Lib
open Px (R2 tl)

/-- One byte, in a row of its own. -/
theorem rd_byte (w : World) (z : Int) (hz : 0 ≤ z ∧ z ≤ 255) : Sp.Rd (w.alloc (.cells #[.int .u8 z] 5)) (w.heap.size + 1) (some ⟨w.heap.size, 0, none⟩) 1 [z] := by
  have hb : (w.alloc (.cells #[.int .u8 z] 5)).heap[w.heap.size]? = some (.cells #[.int .u8 z] 5 (0, 0)) := heap_alloc_new w _
  refine ⟨rfl, fun y hy => by rw [List.mem_singleton] at hy; subst hy; exact hz, fun _ => ⟨w.heap.size, 0, rfl, by omega, fun j y hj => ?_⟩⟩
  match j, hj with
  | 0, hj =>
    simp at hj
    subst hj
    rw [cell_of_row _ _ _ _ _ _ hb]; rfl
theorem rd_take {w : World} {B n k : Nat} {A : Option Addr} {zs : List Int} (h : Sp.Rd w B A n zs) (hk : k ≤ n) : Sp.Rd w B A k (zs.take k) := by
  refine ⟨by rw [List.length_take, h.1]; omega, fun z hz => h.2.1 z (List.mem_of_mem_take hz), fun h0 => ?_⟩
  obtain ⟨b, off, e, hb, hc⟩ := h.2.2 (by omega)
  refine ⟨b, off, e, hb, fun j z hz => hc j z ?_⟩
  rw [List.getElem?_take] at hz
  split at hz
  · exact hz
  · cases hz
/-- Members that lie somewhere, as cells. -/
theorem RdM.reads {w : World} {B : Nat} {A : Option Addr} {xs : List Mb} (h : RdM w B A xs) : Sp.Reads w B 18 A xs.length (mbCells xs) := by
  refine ⟨mbCells_len xs, fun hn => ?_⟩
  obtain ⟨b, off, e, hb, hc⟩ := h hn
  refine ⟨_, e, hb, fun j u hj => ?_⟩
  have hjl : j < xs.length * 18 := by rw [← mbCells_len]; exact (List.getElem?_eq_some_iff.1 hj).1
  have hq : j / 18 < xs.length := by omega
  have hx := List.getElem?_eq_getElem hq
  have hr : j % 18 < xs[j / 18].cells.toList.length := by
    rw [Array.length_toList, show xs[j / 18].cells.size = 18 from rfl]; omega
  have h1 := mbCells_at hx (j % 18) _ (List.getElem?_eq_getElem hr)
  have h2 := hc _ _ hx (j % 18) _ (List.getElem?_eq_getElem hr)
  rw [show j / 18 * 18 + j % 18 = j by omega] at h1
  rw [h1] at hj
  rw [Addr.add_mid, show off + j = off + j / 18 * 18 + j % 18 by omega, ← hj]
  exact h2
theorem wpList_appMs {W : World} {ops : Array Oper} {rest : List Oper} {o : Oper} {a : Act} {Q : Exit → Act → World → Prop} (hgd : o.guard = none) (s y : Operand)
    (ho : o.op = .call { callee := .builtin .append, args := #[s, y], argTypes := #[23, 23] }) (base : Nat) (B : Nat) (A : Option Addr) (c : Nat) (xs : List Mb) (hs : a.eval s = .slice none 0 0)
    (hy : a.eval y = .slice A xs.length c) (hr : RdM W B A xs) (h1 : ∀ x ∈ xs, x.cells.all (·.oneCell') = true) (hl : xs.length ≤ 1000) (hbase : base ≤ W.heap.size)
    (h : ∀ v' w', OwnM w' base v' xs → Hid (Below base W w') → wpList Tryz.prog ops Q rest (a.put o.dst v') w') : wpList Tryz.prog ops Q (o :: rest) a W := by
  obtain ⟨i, z, hi, hz, hz1, hz2, hb⟩ := mem_info
  refine Sp.wpList_append_any W hgd s y 23 ho base 37 i z 18 i.bytes Tryz.underlying23 hi hz hz1 rfl hz2 (by decide) (.slice none 0 0) 0 [] hs (World.ownsRow_nil _ _ _ _) B A xs.length c (mbCells xs) hy hr.reads ?_ (by unfold maxLen; omega) ?_ hbase ?_
  · intro u hu
    unfold mbCells at hu
    rw [List.mem_flatMap] at hu
    obtain ⟨x, hx, hu⟩ := hu
    exact Array.all_eq_true_iff_forall_mem.1 (h1 x hx) u (by simpa using hu)
  · have : (0 + xs.length) * i.bytes ≤ 1000 * 1000 := Nat.mul_le_mul (by omega) hb
    omega
  · intro v' w' h2 h3 h4
    refine h v' w' ?_ (hid (Sp.below_grown (Below.refl base W) h3 hbase (fun g hg => by simp [Value.ownBlock] at hg)))
    unfold OwnM
    rw [Nat.zero_add, List.nil_append] at h2
    exact h2

/-- What is wrong: another length than is told. -/
theorem wrongE {m : M.Met} {d d' : List Int} (h : M.oneE m d = 0) (hn : d'.length ≠ d.length) : M.oneE m d' = 11 := by
  have hE := M.oneE_toE h
  unfold M.oneE at h ⊢
  rw [if_neg (by rw [hE]; decide)] at h ⊢
  by_cases hd : (d.length : Int) ≠ m.size
  · rw [if_pos hd] at h; cases h
  · rw [if_pos (by intro e; apply hd; intro; omega)]
theorem writeE_wrong {ys : List Mb} {x : Mb} (h : ∀ y ∈ ys, M.oneE y.m y.d = 0) (hx : M.oneE x.m x.d = 11) : M.writeE (ys ++ [x]) = 11 := by
  induction ys with
  | nil =>
    show (if M.oneE x.m x.d ≠ 0 then M.oneE x.m x.d else 0) = 11
    rw [hx]; rfl
  | cons y l ih =>
    show (if M.oneE y.m y.d ≠ 0 then M.oneE y.m y.d else M.writeE (l ++ [x])) = 11
    rw [if_neg (by simpa using h y List.mem_cons_self)]
    exact ih fun z hz => h z (List.mem_cons_of_mem _ hz)

set_option maxRecDepth 100000 in
set_option maxHeartbeats 8000000 in
theorem lawWrong (A : Option Addr) (n c : Nat) (cs : List Int) (more : Bool) (w : World) (hr : Sp.Rd w w.heap.size A n cs) (hc : n ≤ c) (hcm : c ≤ maxLen) (hmg : Hd.MG w) (BE : Nat) (hBE : BE ≤ w.heap.size) (hev : Sp.EV BE w) :
    Calls Tryz.prog 4 #[.slice A n c, .bool more] w fun e w' => e = .returned (.bool true) ∧ Below w.heap.size w w' := by
  have HM := hid (members_few A n c cs w hr hc hcm)
  have HG := hid (fun V (hV : Below w.heap.size w V) => hmg.later hV)
  have HE := hid (fun V (hV : Below w.heap.size w V) => hev.on (hV.mono hBE))
  clear hr hmg hev hcm
  go_enter Tryz.func4, Tryz.ntmps4
  go_wp2_with fail
  refine HM.out.mono ?_
  rintro e w1 ⟨zs, A1, c1, rfl, hr1, hi1, hl1, hd1, hb1⟩
  have HB1 := hid hb1
  go_wp2_with fail
  refine (good_any A1 c1 zs w1 hr1 hi1 (by omega) BE (Nat.le_trans hBE hb1.size) (HE.out w1 hb1)).mono ?_
  rintro e w2 ⟨A2, c2, rfl, hr2, hi2, hb2⟩
  have hgl := Nat.le_trans (goodL_len zs) hl1
  have HOK := hid (fun x (hx : x ∈ goodL zs) => (goodL_mem hx).2)
  have HD4 := hid (fun x (hx : x ∈ goodL zs) => hd1 x (goodL_mem hx).1)
  generalize goodL zs = ys at *
  have HB2 := hid (HB1.out.trans (hb2.mono HB1.out.size))
  have HR := hid (fun V (hV : Below w2.heap.size w2 V) => hr2.keep fun p hp => hV.cell (p := p) hp)
  have HI := hid (fun V (hV : Below w2.heap.size w2 V) x (hx : x ∈ ys) => (hi2 x hx).later (Nat.le_refl _) hV)
  clear hr1 hi1 hr2 hi2 hb1 hb2 HM HB1 hd1
  by_cases h0 : ys.length = 0
  · have d0 : ((ys.length : Int) == 0) = true := by rw [h0]; rfl
    have HZ := hid h0
    clear h0
    go_wp2_with fail
    refine (wr_known BE w2 (HG.out w2 HB2.out) (Nat.le_trans hBE HB2.out.size) (HE.out w2 HB2.out)).mono ?_
    rintro e w8 ⟨rfl, hb8⟩
    have HB8 := hid (HB2.out.trans (hb8.mono HB2.out.size))
    go_wp2_with fail
    go_ret
    first
      | exact ⟨rfl, HB8.out⟩
      | exact HB8.out
  · obtain ⟨k, hk⟩ : ∃ k, ys.length = k + 1 := ⟨ys.length - 1, by omega⟩
    have d0 : ((ys.length : Int) == 0) = false := by rw [beq_eq_false_iff_ne]; omega
    have e1 : (ys.length : Int) - 1 = (k : Int) := by omega
    have e2 : IntKind.i64.wrap (k : Int) = (k : Int) := IntWalk.i64_in _ (by omega)
    have hkl : k < ys.length := by omega
    obtain ⟨bb, off, rfl, hbb, hrow⟩ := HR.out w2 (Below.refl _ _) (by omega)
    have hx := hrow k ys[k] (List.getElem?_eq_getElem hkl)
    have hmem : ys[k] ∈ ys := List.getElem_mem hkl
    have HIk := hid (HI.out w2 (Below.refl _ _) ys[k] hmem)
    have HEk := hid (HOK.out _ hmem)
    have HDk := hid (HD4.out _ hmem)
    obtain ⟨x, hxk⟩ : ∃ x, ys[k] = x := ⟨_, rfl⟩
    rw [hxk] at hx HIk HEk HDk
    clear hxk hrow hmem h0
    have HKK := hid hk
    clear hk
    have hms : (Tryz.prog.info? 37).map (·.size) = some x.cells.toList.length := mem_size
    have HONE := hid (mb_one HIk.out)
    have HX3 := hid (MX.new w2 x)
    have HB3 := hid ((Below.refl w2.heap.size w2).alloc (Nat.le_refl _) (.cells x.cells 37))
    go_upto_region 5 with (first
      | (refine wpList_load_mid rfl 37 (.tmp 24) rfl bb (off + k * 18) (by simp [Act.eval, Addr.add]) x.cells.toList _ hx Tryz.underlying37 rfl hms ?_; rw [Array.toArray_toList])
      | (refine wpList_store_row rfl 37 (.tmp 6) (.tmp 25) rfl w2.heap.size x.cells (by rfl) (by rfl) 37 (Mb.cells ⟨{}, .slice none 0 0, .slice none 0 0, .slice none 0 0, []⟩) (heap_alloc_new w2 _) mem_size rfl HONE.out ?_; rw [World.setRow_alloc_new]))
    generalize World.alloc w2 _ = w3 at *
    obtain ⟨g, hg⟩ : ∃ g, w2.heap.size = g := ⟨_, rfl⟩
    have HGG := hid hg
    obtain ⟨Ad, cd, hdv, hrd, hdlo⟩ := HIk.out.data
    have HRD := hid (hrd.keep fun p hp => HB3.out.cell (p := p) hp)
    have k17 : w3.cell? ⟨g, 17, none⟩ = some (.slice Ad x.d.length cd) := by
      have h1 := HX3.out.cell (i := 17) (v := x.dv) rfl
      rw [hdv, hg] at h1
      exact h1
    rw [hg]
    have HDU := hid hrd.2.1
    have h4k := HDk.out
    clear hx hms hrd hdlo hdv hg
    obtain ⟨D, hD⟩ : ∃ D, x.d.length = D := ⟨_, rfl⟩
    rw [hD] at k17 h4k
    have HDD := hid hD
    clear hD
    go_wp2_with (first
      | (refine Sp.wpList_app_bytes rfl (.tmp 26) (.tmp 28) rfl w3.heap.size (.slice none 0 0) [] (by rfl) (Sp.OwnY.nil _ _) w2.heap.size Ad D cd x.d (by rfl) (by rw [← HDD.out]; exact HRD.out) (by simp; omega) (Nat.le_refl _) ?_
         intro v4 w4 hO4 hg4 _
         rw [List.nil_append] at hO4
         obtain ⟨A4, c4, rfl, hc4, _⟩ := Sp.own_room hO4
         have HB4 := hid (Sp.below_grown (Below.refl w3.heap.size w3) hg4 (Nat.le_refl _) (fun g hg => by simp [Value.ownBlock] at hg))
         rw [HDD.out] at hO4 hc4 ⊢
         have HO4 := hid hO4
         clear hO4 hg4)
      | (refine Sp.wpList_app_bytes rfl (.tmp 30) (.tmp 31) rfl w3.heap.size (.slice A4 D c4) x.d (by rfl) (World.ownsRow.alloc HO4.out _) (w4.heap.size + 1) (some ⟨w4.heap.size, 0, none⟩) 1 1 [120] (by rfl) (rd_byte w4 120 (by decide)) (by rw [HDD.out]; omega) (by rw [World.size_alloc]; have := HB4.out.size; omega) ?_
         intro v5 w5 hO5 hg5 _
         apply Classical.byContradiction
         intro hgoal))
    have HGL := hid hgoal
    clear hgoal
    have HB5 := hid (Sp.below_grown (HB4.out.alloc HB4.out.size (.cells #[.int .u8 120] 5)) hg5 (by rw [World.size_alloc]; have := HB4.out.size; omega) (fun g hg => (World.ownsRow.lt HO4.out g hg).1))
    have hlen : (x.d ++ [120]).length = D + 1 := by rw [List.length_append, HDD.out]; rfl
    obtain ⟨A5, c5, hv5, hr5, hc5, hm5⟩ := hO5.rd (fun z hz => by rcases List.mem_append.1 hz with h | h; exact HDU.out z h; rw [List.mem_singleton.1 h]; decide)
    rw [hlen] at hv5 hr5 hc5
    subst hv5
    refine HGL.out ?_
    clear HGL
    have hgl3 : g < w3.heap.size := by have := HX3.out.lt; rw [HGG.out] at this; exact this
    have HX5 := hid (show MX w5 g x by have h := HX3.out.below HB5.out HX3.out.lt; rw [HGG.out] at h; exact h)
    have k17' : w5.cell? ⟨g, 17, none⟩ = some (.slice Ad D cd) := (HB5.out.cell (p := ⟨g, 17, none⟩) hgl3).trans k17
    have f17 : w5.frozen? ⟨g, 17, none⟩ = false := frozen_of_row _ _ 17 _ _ HX5.out
    have HRV := hid (fun v => show Sp.Rd (w5.setCell ⟨g, 17, none⟩ v) (w5.setCell ⟨g, 17, none⟩ v).heap.size A5 (D + 1) (x.d ++ [120]) ∧ (∀ a, A5 = some a → a.block < (w5.setCell ⟨g, 17, none⟩ v).heap.size) by
      have ho : Sp.OwnY (w5.setCell ⟨g, 17, none⟩ v) w3.heap.size (.slice A5 (D + 1) c5) (x.d ++ [120]) := ownsRow_setCell_below hO5 (a := ⟨g, 17, none⟩) hgl3 v
      obtain ⟨A6, c6, hv6, hr6, _, _⟩ := ho.rd (fun z hz => by rcases List.mem_append.1 hz with h | h; exact HDU.out z h; rw [List.mem_singleton.1 h]; decide)
      rw [hlen] at hv6 hr6
      cases hv6
      refine ⟨hr6, fun a ha => ?_⟩
      subst ha
      exact (World.ownsRow.lt ho a.block rfl).2)
    clear k17 hO5 hg5 hr5 hlen
    have HLO := hid (fun v => (HRV.out v).2)
    by_cases hw : more = false ∧ 0 < D
    case' pos =>
      obtain ⟨rfl, hD0⟩ := hw
      obtain ⟨dl, hdl⟩ : ∃ dl, D = dl + 1 := ⟨D - 1, by omega⟩
      have e5 : (D : Int) - 1 = (dl : Int) := by omega
      have e6 : IntKind.i64.wrap (dl : Int) = (dl : Int) := IntWalk.i64_in _ (by omega)
      have hne : dl ≠ D := by omega
      have hle : dl ≤ 4001 := by omega
      have hc6 : dl ≤ c5 := by omega
      have hn5 : ¬ c5 = dl := by omega
      obtain ⟨d', hd'⟩ : ∃ d', d' = (x.d ++ [120]).take dl := ⟨_, rfl⟩
      have HRW := hid (fun v => show Sp.Rd (w5.setCell ⟨g, 17, none⟩ v) (w5.setCell ⟨g, 17, none⟩ v).heap.size A5 dl d' by rw [hd']; exact rd_take (HRV.out v).1 (by omega))
      have HDL := hid hdl
      clear hdl hd'
      go_upto_region 10 with fail
    case' neg =>
      by_cases hm : more = true
      case' pos => subst hm
      case' neg =>
        obtain rfl : more = false := by simpa using hm
        have hD0 : ¬ 0 < D := fun h => hw ⟨rfl, h⟩
        have hD1 : decide (0 < D) = false := by rw [decide_eq_false_iff_not]; exact hD0
      all_goals
        obtain ⟨dl, hdl⟩ : ∃ dl, D + 1 = dl := ⟨_, rfl⟩
        have hne : dl ≠ D := by omega
        have hle : dl ≤ 4001 := by omega
        obtain ⟨d', hd'⟩ : ∃ d', d' = x.d ++ [120] := ⟨_, rfl⟩
        have HRW := hid (fun v => show Sp.Rd (w5.setCell ⟨g, 17, none⟩ v) (w5.setCell ⟨g, 17, none⟩ v).heap.size A5 dl d' by rw [hd', ← hdl]; exact (HRV.out v).1)
        rw [hdl]
        have HDL := hid hdl
        clear hdl hd'
        go_upto_region 10 with fail
    all_goals
      clear HRV
      obtain ⟨x', hx'⟩ : ∃ x' : Mb, x' = { x with dv := .slice A5 dl c5, d := d' } := ⟨_, rfl⟩
      have hdlen : d'.length = dl := (HRW.out (.slice A5 dl c5)).1
      have HX6 := hid (show MX (w5.setCell ⟨g, 17, none⟩ (.slice A5 dl c5)) g x' by
        unfold MX
        rw [heap_setCell_same w5 g 17 _ _ _ HX5.out, hx']
        rfl)
      have HB25 := hid (HB3.out.trans (HB5.out.mono HB3.out.size))
      have hgg2 : w2.heap.size ≤ g := by rw [HGG.out]; exact Nat.le_refl _
      have HB6 := hid (HB25.out.setCell (p := ⟨g, 17, none⟩) hgg2 (.slice A5 dl c5))
      have HXI := hid (show MbIn (w5.setCell ⟨g, 17, none⟩ (.slice A5 dl c5)) (w5.setCell ⟨g, 17, none⟩ (.slice A5 dl c5)).heap.size x' by
        subst hx'
        refine ⟨HIk.out.met.later HB6.out, ⟨A5, c5, by rw [hdlen], by rw [hdlen]; exact HRW.out _, HLO.out _⟩, by show d'.length ≤ 1048576; rw [hdlen]; omega⟩)
      have HXE := hid (show M.oneE x'.m x'.d = 11 by
        subst hx'
        exact wrongE HEk.out (by rw [hdlen, HDD.out]; exact hne))
      have HXQ := hid hx'
      clear hx' hdlen HRW
      go_upto_region 12 with fail
      generalize w5.setCell ⟨g, 17, none⟩ (.slice A5 dl c5) = w6 at *
      have HRM6 := hid (HR.out w6 HB6.out)
      have HON := hid (fun y (hy : y ∈ ys) => mb_one (HI.out w2 (Below.refl _ _) y hy))
      have hgl6 := HX6.out.lt
      go_upto_region 13 with (refine wpList_appMs rfl (.tmp 49) (.tmp 50) rfl w6.heap.size w2.heap.size (some ⟨bb, off, none⟩) c2 ys (by rfl) (by rfl) HRM6.out HON.out (by omega) (Nat.le_refl _) ?_
                              intro v7 w7 hO7 hb7
                              obtain ⟨A7, c7, rfl, _⟩ := hO7.form
                              have HO7 := hid hO7
                              have HB7 := hb7
                              clear hO7 hb7)
      have HX7 := hid (show MX w7 g x' from HX6.out.below HB7.out hgl6)
      have HONE' := hid (mb_one HXI.out)
      have hb8 := (Below.refl w7.heap.size w7).alloc (Nat.le_refl _) (.cells x'.cells 37)
      have HO8 := hid (HO7.out.later hb8)
      have HB8 := hid (HB7.out.trans (hb8.mono HB7.out.size))
      have HG8 := hid (heap_alloc_new w7 (.cells x'.cells 37))
      clear hb8
      have HWE := hid (writeE_wrong (ys := ys) (x := x') HOK.out HXE.out)
      have HLL := hid (show (ys ++ [x']).length ≤ 100 by rw [List.length_append, List.length_singleton]; omega)
      have HMM := hid (fun y (hy : y ∈ ys ++ [x']) => show y ∈ ys ∨ y = x' from (List.mem_append.1 hy).imp id List.mem_singleton.1)
      go_upto_region 14 with (first
        | (refine wpList_load_row rfl 37 (.tmp 6) rfl g (by rfl) 37 x'.cells (0, 0) _ HX7.out Tryz.underlying37 rfl mem_size ?_; rw [show x'.cells = _ from rfl]; unfold Mb.cells)
        | (refine wpList_appM rfl (.tmp 52) (.tmp 54) rfl w6.heap.size (.slice A7 ys.length c7) ys x' w7.heap.size (by rfl) HO8.out (by rfl) HG8.out HONE'.out (by omega) HB8.out.size ?_
           intro v9 w9 hO9 hb9
           obtain ⟨A9, c9, rfl, _⟩ := hO9.form
           generalize ys ++ [x'] = zs9 at *
           have HO9 := hid hO9
           have HB9 := hid (HB8.out.trans hb9.out)
           clear hO9 hb9))
      have HX9 := hid (show MX w9 g x' from HX6.out.below HB9.out hgl6)
      have HI9 := hid ((HXI.out.later (Nat.le_refl _) HB9.out).more HB9.out.size)
      have HB29 := hid (HB6.out.trans (HB9.out.mono HB6.out.size))
      have HBw9 := hid (HB2.out.trans (HB29.out.mono HB2.out.size))
      clear HX7 HX6 HO7 HO8 HB7 HB8 HG8
      go_wp2_with (refine wpList_load_row rfl 37 (.tmp 6) rfl g (by rfl) 37 x'.cells (0, 0) _ HX9.out Tryz.underlying37 rfl mem_size ?_)
      refine (one_any x' w9 HI9.out (HG.out w9 HBw9.out) BE (Nat.le_trans hBE HBw9.out.size) (HE.out w9 HBw9.out)).mono ?_
      rintro e w10 ⟨v10, rfl, _, hv10, hb10⟩
      rw [HXE.out]
      obtain rfl := hv10 (by rw [HXE.out]; decide)
      have HB210 := hid (HB29.out.trans (hb10.mono HB29.out.size))
      have HBw10 := hid (HBw9.out.trans (hb10.mono HBw9.out.size))
      have HR10 := hid ((HO9.out.later hb10).rd)
      have HI10 := hid (show ∀ y ∈ zs9, MbIn w10 w10.heap.size y from fun y hy => by
        rcases HMM.out y hy with h | h
        · exact (HI.out w10 HB210.out y h).more HB210.out.size
        · rw [h]; exact (HI9.out.later (Nat.le_refl _) hb10).more hb10.size)
      clear hv10 hb10
      go_wp2_with fail
      refine (write_any A9 c9 zs9 w10 HR10.out HI10.out HLL.out (HG.out w10 HBw10.out) BE (Nat.le_trans hBE HBw10.out.size) (HE.out w10 HBw10.out)).mono ?_
      rintro e w11 ⟨v11, rfl, _, hv11, hb11⟩
      rw [HWE.out]
      obtain rfl := hv11 (by rw [HWE.out]; decide)
      have HBw11 := hid (HBw10.out.trans (hb11.mono HBw10.out.size))
      clear hv11 hb11
      go_wp2_with fail
      refine (wr_known BE w11 (HG.out w11 HBw11.out) (Nat.le_trans hBE HBw11.out.size) (HE.out w11 HBw11.out)).mono ?_
      rintro e w12 ⟨rfl, hb12⟩
      have HBw12 := hid (HBw11.out.trans (hb12.mono HBw11.out.size))
      clear hb12
      go_wp2_with fail
      go_ret
      first
        | exact ⟨rfl, HBw12.out⟩
        | exact HBw12.out
end Go.Proofs.YtgbgngdakkiclaaGreatDoor
