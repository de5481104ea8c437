/-
  Has a file with holes such parts as may be?
-/
import Derived.Test.YtlpblnioodcbnaaGreatDoorMtExtra
import Derived.Test.YtlpblnioodcbnaaGreatDoorKS
set_option linter.unusedVariables false
set_option linter.unusedSimpArgs false
namespace Go.Proofs.YtlpblnioodcbnaaGreatDoor
open Go.RowKit Go.Lib
open Px (R2 tl)
attribute [local go_sem ↓] add_plain
def full (p : Int × Int) : Bool := !(p.2 == 0)
def FirstEmpty (l : List (Int × Int)) (i : Int) : Prop := (i = -1 ∧ l.all full = true) ∨ ∃ (k : Nat) (h : k < l.length), i = k ∧ (l.take k).all full = true ∧ (l[k].2 == 0) = true
theorem all_take_succ {l : List (Int × Int)} {k : Nat} (h : k < l.length) (h1 : (l.take k).all full = true) (h2 : (l[k].2 == 0) = false) : (l.take (k + 1)).all full = true := by
  rw [List.take_succ_eq_append_getElem h, List.all_append, h1]
  simp [full, h2]

set_option maxRecDepth 100000 in
set_option maxHeartbeats 1000000 in
theorem firstEmpty_any (A : Option Addr) (c n : Nat) (l : List (Int × Int)) (hl : n ≤ 1000000) (w : World) (h : Sp.RdP w w.heap.size A n l) :
    Calls Tryz.prog 139 #[.slice A n c, .func (.func 92) #[] #[]] w fun e w' => (∃ i, e = .returned (.int .i64 i) ∧ FirstEmpty l i) ∧ Below w.heap.size w w' := by
  have HR := hid h
  have HN := hid h.len
  clear h
  go_enter Tryz.func139, Tryz.ntmps139
  go_wp2
  go_loopw [8] (fun iv wr => ∃ (k : Nat), iv = .int .i64 k ∧ k ≤ n ∧ Hid ((l.take k).all full = true) ∧ Hid (Below w.heap.size w wr)) (fun iv _ => n - (intOf iv).toNat)
  case atStart => exact ⟨0, rfl, Nat.zero_le _, hid rfl, hid (Below.refl _ _)⟩
  case round =>
    obtain ⟨k, rfl, hk, HA, HB⟩ := hrel
    have hbs := HB.out.size
    by_cases hlt : k < n
    · obtain ⟨b, off, p, rfl, hbb, hp, hc1, hc2⟩ := (HR.out.below HB.out).at_ hlt
      obtain ⟨p1, p2⟩ := p
      dsimp only at hc1 hc2
      have hi2 : (k : Int) < (n : Int) := by omega
      have hkl : k < l.length := by rw [HN.out]; exact hlt
      have HP := hid (show l[k] = (p1, p2) from by
        have := List.getElem?_eq_getElem hkl
        rw [hp] at this
        exact (Option.some.inj this).symm)
      have HE := hid (fun W => isEmpty_any p1 p2 W)
      clear hp hlt
      cases hz : (p2 == 0) with
      | true =>
        rw [hz] at HE
        have HZ := hid hz
        clear hz
        go_wp2_with (go_at_call 92; (with_reducible refine (HE.out _).mono ?_); rintro e w1 ⟨rfl, hb1⟩)
        go_ret
        exact ⟨⟨k, rfl, .inr ⟨k, hkl, rfl, HA.out, by rw [HP.out]; exact HZ.out⟩⟩, HB.out.trans (hb1.mono hbs)⟩
      | false =>
        rw [hz] at HE
        have HZ := hid hz
        clear hz
        have HA2 := hid (all_take_succ hkl HA.out (by rw [HP.out]; exact HZ.out))
        go_wp2_with (go_at_call 92; (with_reducible refine (HE.out _).mono ?_); rintro e w1 ⟨rfl, hb1⟩)
        go_roundw
        case rel => exact ⟨k + 1, by go_num, by omega, HA2, hid (HB.out.trans (hb1.mono hbs))⟩
        case measure => simp [intOf]; omega
    · obtain rfl : k = n := by omega
      have HA2 := hid (show l.all full = true by have := HA.out; rwa [List.take_of_length_le (by rw [HN.out]; exact Nat.le_refl _)] at this)
      clear hlt
      go_wp2
      go_ret
      exact ⟨⟨-1, rfl, .inl ⟨rfl, HA2.out⟩⟩, HB.out⟩
set_option maxRecDepth 100000 in
set_option maxHeartbeats 1000000 in
theorem anyEmpty_any (A : Option Addr) (c n : Nat) (l : List (Int × Int)) (hl : n ≤ 1000000) (w : World) (h : Sp.RdP w w.heap.size A n l) :
    Calls Tryz.prog 113 #[.slice A n c, .func (.func 92) #[] #[]] w fun e w' => e = .returned (.bool (!l.all full)) ∧ Below w.heap.size w w' := by
  have HC := hid (firstEmpty_any A c n l hl w h)
  clear h
  go_enter Tryz.func113, Tryz.ntmps113
  go_wp2_with fail
  refine HC.out.mono ?_
  rintro e w1 ⟨⟨i, rfl, hi⟩, hb1⟩
  have HB := hid hb1
  have HI := hid (show (!l.all full) = decide (i ≥ 0) by
    rcases hi with ⟨rfl, h2⟩ | ⟨k, h1, rfl, h2, h3⟩
    · rw [h2]; rfl
    · have h4 : l.all full = false := by
        rw [List.all_eq_false]
        exact ⟨l[k], List.getElem_mem h1, by simp [full, h3]⟩
      rw [h4]; simp)
  clear hi hb1 HC
  go_wp2
  go_ret
  exact ⟨ret_bool (by rw [HI.out]), HB.out⟩

set_option maxRecDepth 100000 in
set_option maxHeartbeats 1000000 in
theorem hasHoles_any (m : M.Met) (pv ev : Value) (w : World) (hm : MIn w m pv ev) : Calls Tryz.prog 66 #[.agg (mcells m pv ev)] w fun e w' => e = .returned (.bool (M.hasHoles m)) ∧ Below w.heap.size w w' := by
  have hb1 : Below w.heap.size w (w.alloc (.cells (mcells m pv ev) 27)) := (Below.refl _ _).alloc (Nat.le_refl _) _
  have HW := hid hb1
  have HE := hid (show M.hasHoles m = (m.kind == 48 && (m.parts.all full && (Sp.M.check m.parts m.size m.real == 0))) from rfl)
  obtain ⟨A, c, rfl, hr⟩ := hm.parts
  have B1 := hid (MB.new w m (.slice A m.parts.length c) ev)
  have HN := hid hm.nparts
  have HI := hid hm.i64s
  have HR := hid (fun V (hV : Below w.heap.size w V) => (hr.below hV).more hV.size)
  clear hm hb1 hr
  have HF := hid (show ∀ V, Below (w.heap.size + 1) (w.alloc (.cells (mcells m (.slice A m.parts.length c) ev) 27)) V → V.cell? ⟨w.heap.size, 2, none⟩ = some (.int .u8 m.kind) ∧ V.cell? ⟨w.heap.size, 12, none⟩ = some (.int .i64 m.size) ∧ V.cell? ⟨w.heap.size, 13, none⟩ = some (.int .i64 m.real) ∧ V.cell? ⟨w.heap.size, 15, none⟩ = some (.slice A m.parts.length c) from fun V hV => by
    have hb : MB V w.heap.size m (.slice A m.parts.length c) ev := B1.out.below hV (by omega)
    exact ⟨hb.cell (i := 2) rfl, hb.cell (i := 12) rfl, hb.cell (i := 13) rfl, hb.cell (i := 15) rfl⟩)
  have hsz := World.size_alloc w (.cells (mcells m (.slice A m.parts.length c) ev) 27)
  clear B1
  go_enter Tryz.func66, Tryz.ntmps66
  go_upto_region 1 with fail
  generalize World.alloc w _ = W at *
  obtain ⟨x2, x12, x13, x15⟩ := HF.out W (Below.refl _ _)
  have H1 := hid (fun V hV => anyEmpty_any A c m.parts.length m.parts HN.out V (HR.out V hV))
  have H2 := hid (fun V hV => Sp.check_any A m.parts.length c m.parts m.size m.real V (HR.out V hV) HI.out HN.out)
  clear HR HN HI
  generalize m.parts.length = n at *
  go_wp2_with (first
    | (go_at_call 113; (with_reducible refine (H1.out _ HW.out).mono ?_); rintro e w1 ⟨rfl, hb1⟩; (have B1 := hid hb1); obtain ⟨y2, y12, y13, y15⟩ := HF.out w1 (hsz ▸ hb1); clear hb1)
    | (go_at_call 114; (with_reducible refine (H2.out _ (HW.out.trans (B1.out.mono HW.out.size))).mono ?_); rintro e w2 ⟨rfl, hb2⟩; (have B2 := hid (B1.out.trans (hb2.mono B1.out.size))); clear hb2))
  all_goals first
    | (exfalso; simp_all; done)
    | (go_ret
       first
         | exact ⟨ret_bool (by rw [HE.out]; simp [*]), HW.out.trans (B2.out.mono HW.out.size)⟩
         | exact ⟨ret_bool (by rw [HE.out]; simp [*]), HW.out.trans (B1.out.mono HW.out.size)⟩
         | exact ⟨ret_bool (by rw [HE.out]; simp [*]), HW.out⟩)
end Go.Proofs.YtlpblnioodcbnaaGreatDoor
