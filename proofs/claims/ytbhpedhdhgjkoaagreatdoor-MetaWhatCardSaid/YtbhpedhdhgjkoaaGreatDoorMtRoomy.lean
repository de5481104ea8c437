/-
  A header with all of what is known; the text of parts.
-/
import Derived.Test.YtbhpedhdhgjkoaaGreatDoorMtBox
import Derived.Test.YtbhpedhdhgjkoaaGreatDoorKS
set_option linter.unusedVariables false
set_option linter.unusedSimpArgs false
namespace Go.Proofs.YtbhpedhdhgjkoaaGreatDoor
open Go.RowKit Go.Lib
open Px (R2 tl)

/-- The header when so many of its fields have been fitted. -/
def hdrAt (m : M.Met) (i : Nat) : M.Hdr :=
  { way := 1, kind := m.kind, mode := m.mode, major := m.major, minor := m.minor,
    pre := if 1 ≤ i then (M.split m.name).1 else ⟨#[]⟩, name := if 1 ≤ i then (M.split m.name).2.1 else m.name,
    link := if 2 ≤ i then m.link.extract 0 100 else m.link, user := if 3 ≤ i then m.user.extract 0 32 else m.user, group := if 4 ≤ i then m.group.extract 0 32 else m.group,
    uid := if 5 ≤ i then (if M.fits m.uid 8 then m.uid else 0) else m.uid, gid := if 6 ≤ i then (if M.fits m.gid 8 then m.gid else 0) else m.gid,
    size := if 7 ≤ i then (if M.fits m.size 12 then m.size else 0) else m.size, mtime := if 8 ≤ i then (if M.timeFits m then m.sec else 0) else m.sec }
theorem results_hdr {f : Func} {k : Nat} (hf : f.results = #[ResultVar.cell k 34]) {tmps : Array Value} {g : Nat} {h : M.Hdr} {pv : Value} {w : World} (hk : tmps.getD k undef = .pointer (some ⟨g, 0, none⟩)) (hb : HB w g h pv) :
    (results f tmps).run Tryz.prog w = .ok (.agg (hcells h pv)) w :=
  results_cell_row hf tmps w g 34 _ (0, 0) _ hk hb Tryz.underlying34 rfl hdr_size

set_option maxRecDepth 100000 in
set_option maxHeartbeats 1000000 in
theorem roomy_any (m : M.Met) (pv ev : Value) (w : World) : Calls Tryz.prog 24 #[.agg (mcells m pv ev)] w fun e w' => e = .returned (.agg (hcells (hdrAt m 0) (.slice none 0 0))) ∧ Below w.heap.size w w' := by
  have B1 := MB.alloc (MB.new w m pv ev) (.cells (hcells {} (.slice none 0 0)) 34)
  have hb1 : Below w.heap.size w ((w.alloc (.cells (mcells m pv ev) 28)).alloc (.cells (hcells {} (.slice none 0 0)) 34)) := ((Below.refl _ _).alloc (Nat.le_refl _) _).alloc (by simp) _
  have H1 := HB.new (w.alloc (.cells (mcells m pv ev) 28)) {} (.slice none 0 0)
  rw [World.size_alloc] at H1
  have x0 := B1.cell (i := 0) (v := .string m.name) rfl
  have x1 := B1.cell (i := 1) (v := .string m.link) rfl
  have x2 := B1.cell (i := 2) (v := .int .u8 m.kind) rfl
  have x3 := B1.cell (i := 3) (v := .int .i64 m.mode) rfl
  have x4 := B1.cell (i := 4) (v := .int .i64 m.uid) rfl
  have x5 := B1.cell (i := 5) (v := .int .i64 m.gid) rfl
  have x6 := B1.cell (i := 6) (v := .string m.user) rfl
  have x7 := B1.cell (i := 7) (v := .string m.group) rfl
  have x8 := B1.cell (i := 8) (v := .int .i64 m.sec) rfl
  have x10 := B1.cell (i := 10) (v := .int .i64 m.major) rfl
  have x11 := B1.cell (i := 11) (v := .int .i64 m.minor) rfl
  have x12 := B1.cell (i := 12) (v := .int .i64 m.size) rfl
  have HH := hid H1
  have HW := hid hb1
  clear B1 H1 hb1
  go_enter Tryz.func24, Tryz.ntmps24
  go_upto_region 1 with fail
  change Code.wp _ _ _ _ ((w.alloc (.cells (mcells m pv ev) 28)).alloc (.cells (hcells {} (.slice none 0 0)) 34))
  generalize World.alloc (World.alloc w _) _ = W at *
  have HR := hid (show HB (W.setRow (w.heap.size + 1) (hcells (hdrAt m 0) (.slice none 0 0))) (w.heap.size + 1) (hdrAt m 0) (.slice none 0 0) from setRow_heap W _ _ _ _ _ HH.out)
  have HS := hid (below_setRow (g := w.heap.size + 1) HW.out (Nat.le_succ _) (hcells (hdrAt m 0) (.slice none 0 0)))
  go_wp2_with (refine wpList_store_row rfl 34 (.tmp 2) (.tmp 28) rfl (w.heap.size + 1) (hcells (hdrAt m 0) (.slice none 0 0)) (by simp [Act.eval]) (by simp [Act.eval, hcells, hdrAt]) 34 (hcells {} (.slice none 0 0)) HH.out hdr_size rfl (hcells_one _ rfl) ?_)
  refine bodyPost_ret (results_hdr rfl rfl (show HB _ _ (hdrAt m 0) (.slice none 0 0) from HR.out)) rfl ⟨rfl, HS.out⟩
theorem layout_any (A : Option Addr) (n c : Nat) (l : List (Int × Int)) (w : World) (B : Nat) (hr : Sp.RdP w w.heap.size A n l) (hi : Sp.M.i64s l) (hn : n ≤ 3000) (hB : B ≤ w.heap.size) (ht : Sp.EV B w) :
    Calls Tryz.prog 25 #[.slice A n c] w fun e w' => e = .returned (.string ⟨(M.layout l).toArray⟩) ∧ Below w.heap.size w w' := by
  have HL := hid hr.len
  have HP := hid (Sp.print_any A n c l w B hr hi hn hB ht)
  clear hr hi ht
  by_cases h0 : n = 0
  · subst h0
    have HE := hid (show M.layout l = [48, 44, 48] by
      have := List.eq_nil_of_length_eq_zero HL.out
      rw [this]; rfl)
    go_enter Tryz.func25, Tryz.ntmps25
    go_wp2
    go_ret
    exact ⟨by rw [HE.out]; rfl, Below.refl _ _⟩
  · have d1 : ((n : Int) == 0) = false := by rw [beq_eq_false_iff_ne]; omega
    have HE := hid (show M.layout l = Sp.M.print l by
      unfold M.layout
      rw [if_neg]
      rintro rfl
      exact h0 HL.out.symm)
    clear h0
    go_enter Tryz.func25, Tryz.ntmps25
    go_wp2_with (go_at_call 54; (with_reducible refine HP.out.mono ?_); rintro e w1 ⟨rfl, hb1⟩)
    go_ret
    have e : Sp.strOf (Sp.ints (Sp.M.print l)) = ⟨(Sp.M.print l).toArray⟩ := Px.strOf_ints _
    exact ⟨by rw [HE.out, ← e]; rfl, hb1⟩
end Go.Proofs.YtbhpedhdhgjkoaaGreatDoor
