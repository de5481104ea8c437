/-
  head.Parse: how it is left, by a stop or at its end.
-/
import Derived.Test.YtbjejgnfnpednaaDoorHdWay
import Derived.Test.YtbjejgnfnpednaaDoorHdArr
namespace Go.Proofs.YtbjejgnfnpednaaDoor
open Go.RowKit Go.Lib

theorem results_parse {tmps : Array Value} {g eb : Nat} {n : Int} {h : M.Hdr} {pv : Value} {w : World} (hb : HB w g h pv) (he : w.cell? ⟨eb, 0, none⟩ = some (.int .u16 n))
    (h2 : tmps.getD 2 undef = .pointer (some ⟨g, 0, none⟩)) (h3 : tmps.getD 3 undef = .pointer (some ⟨eb, 0, none⟩)) :
    (results Tryd.f12 tmps).run Tryd.prog w = .ok (.tuple #[.agg (hcells h pv), .int .u16 n]) w := by
  rw [Array.getD_eq_getD_getElem?] at h2 h3
  have hl := run_loadVar_row (P := Tryd.prog) w g 25 25 (hcells h pv) (0, 0) _ hb Tryd.underlying25 rfl hdr_size
  have hle : (loadVar 29 ⟨eb, 0, none⟩).run Tryd.prog w = .ok (.int .u16 n) w := by simp [go_sem, he]
  simp [results, Tryd.results12, h2, h3, asAddr, hl, hle]

/-- A frame of Parse: the header so far in block g, no error in block eb. -/
structure PF (w0 w : World) (h : M.Hdr) (pv : Value) : Prop where
  box : HB w w0.heap.size h pv
  err : w.heap[w0.heap.size + 1]? = some (.cells #[.int .u16 0] 29 (0, 0))
  below : Below w0.heap.size w0 w
theorem PF.later {w0 w w' : World} {h : M.Hdr} {pv : Value} (p : PF w0 w h pv) (hb : Below w.heap.size w w') : PF w0 w' h pv :=
  ⟨p.box.below hb p.box.lt, (hb.block _ (Array.getElem?_eq_some_iff.1 p.err).1).trans p.err, p.below.trans (hb.mono p.below.size)⟩
theorem PF.set {w0 w : World} {h h' : M.Hdr} {pv pv' : Value} (p : PF w0 w h pv) (i : Nat) (v : Value) (e : (hcells h pv).set! i v = hcells h' pv') : PF w0 (w.setCell ⟨w0.heap.size, i, none⟩ v) h' pv' :=
  ⟨p.box.set i v e, (heap_setCell_other w ⟨w0.heap.size, i, none⟩ _ v (by simp)).trans p.err, p.below.setCell (p := ⟨w0.heap.size, i, none⟩) (Nat.le_refl _) v⟩

/-- A row of parts in memory, in a block that is not below base. -/
def PartsIs (w : World) (base : Nat) (pv : Value) (l : List (Int × Int)) : Prop :=
  ∃ A c, pv = .slice A l.length c ∧ l.length ≤ c ∧ (0 < l.length → ∃ b off, A = some ⟨b, off, none⟩ ∧ base ≤ b ∧ b < w.heap.size ∧ ∀ (j : Nat) (p : Int × Int), l[j]? = some p → w.cell? ⟨b, off + 2 * j, none⟩ = some (.int .i64 p.1) ∧ w.cell? ⟨b, off + 2 * j + 1, none⟩ = some (.int .i64 p.2))
theorem PartsIs.nil (w : World) (base : Nat) : PartsIs w base (.slice none 0 0) [] := ⟨none, 0, rfl, Nat.le_refl _, fun h => absurd h (by decide)⟩
theorem PartsIs.lower {w : World} {base base' : Nat} {pv : Value} {l : List (Int × Int)} (h : PartsIs w base pv l) (hb : base' ≤ base) : PartsIs w base' pv l := by
  obtain ⟨A, c, rfl, h1, h2⟩ := h
  exact ⟨A, c, rfl, h1, fun hl => let ⟨b, off, e, h3, h4, h5⟩ := h2 hl; ⟨b, off, e, Nat.le_trans hb h3, h4, h5⟩⟩
theorem PartsIs.keep {w w' : World} {base : Nat} {pv : Value} {l : List (Int × Int)} (h : PartsIs w base pv l) (hs : w.heap.size ≤ w'.heap.size) (hk : ∀ a : Addr, base ≤ a.block → a.block < w.heap.size → w'.cell? a = w.cell? a) : PartsIs w' base pv l := by
  obtain ⟨A, c, rfl, h1, h2⟩ := h
  refine ⟨A, c, rfl, h1, fun hl => ?_⟩
  obtain ⟨b, off, e, h3, h4, h5⟩ := h2 hl
  exact ⟨b, off, e, h3, Nat.lt_of_lt_of_le h4 hs, fun j p hp => ⟨(hk _ h3 h4).trans (h5 j p hp).1, (hk _ h3 h4).trans (h5 j p hp).2⟩⟩
theorem PartsIs.later {w w' : World} {base : Nat} {pv : Value} {l : List (Int × Int)} (h : PartsIs w base pv l) (hb : Below w.heap.size w w') : PartsIs w' base pv l := h.keep hb.size fun a _ ha => hb.cell ha
theorem PartsIs.set {w : World} {base : Nat} {pv : Value} {l : List (Int × Int)} (h : PartsIs w base pv l) (a : Addr) (ha : a.block < base) (v : Value) : PartsIs (w.setCell a v) base pv l :=
  h.keep (by simp) fun q hq _ => World.cell?_setCell_other w a q v (fun e => by subst e; omega)
theorem PartsIs.row {w : World} {base : Nat} {pv : Value} {l : List (Int × Int)} (h : PartsIs w base pv l) (g : Nat) (hg : g < base) (cs : Array Value) : PartsIs (w.setRow g cs) base pv l :=
  h.keep (by simp) fun q hq _ => cell_setRow_other w g cs q (by omega)
/-- What Parse answers: the error's number, the header. -/
def ParseIs (n : Int) (h : M.Hdr) (w0 : World) (e : Ending) (w' : World) : Prop :=
  ∃ pv, e = .returned (.tuple #[.agg (hcells h pv), .int .u16 n]) ∧ PartsIs w' w0.heap.size pv h.parts ∧ Below w0.heap.size w0 w'

theorem parse_stop {tmps : Array Value} {n : Int} {w0 w : World} {h : M.Hdr} {pv : Value} (p : PF w0 w h pv)
    (h2 : tmps.getD 2 undef = .pointer (some ⟨w0.heap.size, 0, none⟩)) (h3 : tmps.getD 3 undef = .pointer (some ⟨w0.heap.size + 1, 0, none⟩)) :
    bodyPostD Tryd.prog Tryd.f12 (ParseIs n {} w0) (.panic (boom n))
      { tmps := tmps, defers := [{ target := .fn (.func 33) #[.pointer (some ⟨w0.heap.size, 0, none⟩), .pointer (some ⟨w0.heap.size + 1, 0, none⟩)], args := #[] }] } w := by
  have hc : w.cell? ⟨w0.heap.size + 1, 0, none⟩ = some (.int .u16 0) := by rw [cell_of_row _ _ 0 _ _ _ p.err]; rfl
  refine leaves_cons (f := 33) (args := #[.pointer (some ⟨w0.heap.size, 0, none⟩), .pointer (some ⟨w0.heap.size + 1, 0, none⟩)]) (by simp) (by simp [go_sem]) ?_
  refine (parse_caught _ _ h pv n w p.box (by simp) hc (frozen_of_row _ _ 0 _ _ p.err)).mono ?_
  rintro e u' w'' ⟨rfl, rfl, rfl⟩
  have hb1 : HB (w.setRow w0.heap.size (hcells {} (.slice none 0 0))) w0.heap.size {} (.slice none 0 0) := setRow_heap w _ _ _ _ _ p.box
  have hb2 := hb1.other (a := ⟨w0.heap.size + 1, 0, none⟩) (by simp) (.int .u16 n)
  have he2 : ((w.setRow w0.heap.size (hcells {} (.slice none 0 0))).setCell ⟨w0.heap.size + 1, 0, none⟩ (.int .u16 n)).cell? ⟨w0.heap.size + 1, 0, none⟩ = some (.int .u16 n) := by
    have : (w.setRow w0.heap.size (hcells {} (.slice none 0 0))).heap[w0.heap.size + 1]? = _ := (setRow_other w w0.heap.size (w0.heap.size + 1) _ (by simp)).trans p.err
    rw [cell_of_row _ _ 0 _ _ _ (heap_setCell_same _ _ 0 _ _ _ this)]
    simp
  have hbl := (below_setRow p.below (Nat.le_refl _) (hcells {} (.slice none 0 0))).setCell (p := ⟨w0.heap.size + 1, 0, none⟩) (by simp) (.int .u16 n)
  have hres := results_parse hb2 he2 h2 h3
  show Leaves _ _ _ _ [] (settle _) _
  simp only [settle]
  exact ⟨_, hres, _, rfl, PartsIs.nil _ _, hbl⟩
end Go.Proofs.YtbjejgnfnpednaaDoor
