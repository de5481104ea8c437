/-
  head.Print: how it is left; printParts.
-/
import Derived.Test.YtbjejgnfnpednaaDoorHdMathQ
import Derived.Test.YtbjejgnfnpednaaDoorHSumMake
import Derived.LoopN
import Derived.LoopTactic
namespace Go.Proofs.YtbjejgnfnpednaaDoor
open Go.RowKit Go.Lib

/-! Print's deferred function. -/
theorem print_idle (p q : Addr) (w : World) :
    CallsD Tryd.prog 24 #[.pointer (some p), .pointer (some q)] .returning w fun e u' w' => e = .returned (.tuple #[]) ∧ u' = .returning ∧ w' = w := by
  have hrep : Array.replicate 9 undef = #[undef, undef, undef, undef, undef, undef, undef, undef, undef] := rfl
  refine callsD_of_wpS Tryd.func24 rfl fun c₀ cs hu => ?_
  apply wpS_seq
  apply wpS_region
  simp [wpOpsS, go_sem, recoverD, hu, Tryd.ntmps24, Exit.thenS, errno_nil, hrep]
  refine wpS_of_wp ?_
  go_wp2
  cases c₀
  simp_all [bodyPostS, results, Tryd.results24]
theorem print_caught (g eb : Nat) (v : Value) (n : Int) (w : World) (hb : w.heap[g]? = some (.cells #[v] 22 (0, 0))) (hne : eb ≠ g) (he : w.heap[eb]? = some (.cells #[.int .u16 0] 29 (0, 0))) :
    CallsD Tryd.prog 24 #[.pointer (some ⟨g, 0, none⟩), .pointer (some ⟨eb, 0, none⟩)] (.panicking (boom n)) w fun e u' w' =>
      e = .returned (.tuple #[]) ∧ u' = .panicking [{ v := .iface 29 (.int .u16 n), recovered := true }] ∧ w' = (w.setCell ⟨g, 0, none⟩ (.slice none 0 0)).setCell ⟨eb, 0, none⟩ (.int .u16 n) := by
  have hrep : Array.replicate 9 undef = #[undef, undef, undef, undef, undef, undef, undef, undef, undef] := rfl
  have c0 : w.cell? ⟨g, 0, none⟩ = some v := by rw [cell_of_row _ _ 0 _ _ _ hb]; rfl
  have c1 : w.cell? ⟨eb, 0, none⟩ = some (.int .u16 0) := by rw [cell_of_row _ _ 0 _ _ _ he]; rfl
  have f0 := frozen_of_row _ _ 0 _ _ hb
  have f1 := frozen_of_row _ _ 0 _ _ he
  refine callsD_of_wpS Tryd.func24 rfl fun c₀ cs hu => ?_
  unfold boom at hu
  apply wpS_seq
  apply wpS_region
  simp [wpOpsS, go_sem, recoverD, hu, Tryd.ntmps24, Exit.thenS, errno_some, hrep]
  refine wpS_of_wp ?_
  go_wp2
  cases c₀
  simp_all [bodyPostS, results, Tryd.results24]

theorem results_print {tmps : Array Value} {g eb : Nat} {v : Value} {n : Int} {w : World} (hg : w.cell? ⟨g, 0, none⟩ = some v) (he : w.cell? ⟨eb, 0, none⟩ = some (.int .u16 n))
    (h2 : tmps.getD 2 undef = .pointer (some ⟨g, 0, none⟩)) (h3 : tmps.getD 3 undef = .pointer (some ⟨eb, 0, none⟩)) :
    (results Tryd.f11 tmps).run Tryd.prog w = .ok (.tuple #[v, .int .u16 n]) w := by
  rw [Array.getD_eq_getD_getElem?] at h2 h3
  have hl : (loadVar 22 ⟨g, 0, none⟩).run Tryd.prog w = .ok v w := by simp [go_sem, hg]
  have hle : (loadVar 29 ⟨eb, 0, none⟩).run Tryd.prog w = .ok (.int .u16 n) w := by simp [go_sem, he]
  simp [results, Tryd.results11, h2, h3, asAddr, hl, hle]

/-- A frame of Print: the header's own copy, then the bytes' variable, then the error's. -/
structure QF (w0 w : World) (h : M.Hdr) (pv v : Value) : Prop where
  box : HB w w0.heap.size h pv
  bytes : w.heap[w0.heap.size + 1]? = some (.cells #[v] 22 (0, 0))
  err : w.heap[w0.heap.size + 2]? = some (.cells #[.int .u16 0] 29 (0, 0))
  below : Below w0.heap.size w0 w
theorem QF.keep {w0 w w' : World} {h : M.Hdr} {pv v : Value} (q : QF w0 w h pv v) (hb : Below (w0.heap.size + 3) w w') : QF w0 w' h pv v :=
  ⟨(hb.block _ (by omega)).trans q.box, (hb.block _ (by omega)).trans q.bytes, (hb.block _ (by omega)).trans q.err, q.below.trans (hb.mono (by omega))⟩
theorem QF.size {w0 w : World} {h : M.Hdr} {pv v : Value} (q : QF w0 w h pv v) : w0.heap.size + 3 ≤ w.heap.size := (Array.getElem?_eq_some_iff.1 q.err).1
theorem QF.later {w0 w w' : World} {h : M.Hdr} {pv v : Value} (q : QF w0 w h pv v) (hb : Below w.heap.size w w') : QF w0 w' h pv v := q.keep (hb.mono q.size)

/-- What Print answers. -/
def PrintIs (r : Int × List Int) (w0 : World) (e : Ending) (w' : World) : Prop :=
  (if r.1 = 0 then ∃ g, e = .returned (.tuple #[.slice (some ⟨g, 0, none⟩) 512 512, .int .u16 0]) ∧ w0.heap.size ≤ g ∧ Arr w' g 86 r.2
    else e = .returned (.tuple #[.slice none 0 0, .int .u16 r.1])) ∧ Below w0.heap.size w0 w'
theorem print_stop {r : Int × List Int} {tmps : Array Value} {n : Int} {w0 w : World} {h : M.Hdr} {pv v : Value} (hr : r = (n, [])) (hn : n ≠ 0) (q : QF w0 w h pv v)
    (h2 : tmps.getD 2 undef = .pointer (some ⟨w0.heap.size + 1, 0, none⟩)) (h3 : tmps.getD 3 undef = .pointer (some ⟨w0.heap.size + 2, 0, none⟩)) :
    bodyPostD Tryd.prog Tryd.f11 (PrintIs r w0) (.panic (boom n))
      { tmps := tmps, defers := [{ target := .fn (.func 24) #[.pointer (some ⟨w0.heap.size + 1, 0, none⟩), .pointer (some ⟨w0.heap.size + 2, 0, none⟩)], args := #[] }] } w := by
  subst hr
  refine leaves_cons (f := 24) (args := #[.pointer (some ⟨w0.heap.size + 1, 0, none⟩), .pointer (some ⟨w0.heap.size + 2, 0, none⟩)]) (by simp) (by simp [go_sem]) ?_
  refine (print_caught _ _ v n w q.bytes (by simp) q.err).mono ?_
  rintro e u' w'' ⟨rfl, rfl, rfl⟩
  have hb1 := heap_setCell_same w _ 0 _ _ (.slice none 0 0) q.bytes
  have hb2 := (heap_setCell_other (w.setCell ⟨w0.heap.size + 1, 0, none⟩ (.slice none 0 0)) ⟨w0.heap.size + 2, 0, none⟩ (w0.heap.size + 1) (.int .u16 n) (by simp)).trans hb1
  have he1 := (heap_setCell_other w ⟨w0.heap.size + 1, 0, none⟩ (w0.heap.size + 2) (.slice none 0 0) (by simp)).trans q.err
  have he2 := heap_setCell_same _ _ 0 _ _ (.int .u16 n) he1
  have hres := results_print (v := .slice none 0 0) (n := n) (by rw [cell_of_row _ _ 0 _ _ _ hb2]; simp) (by rw [cell_of_row _ _ 0 _ _ _ he2]; simp) h2 h3
  have hbl := (q.below.setCell (p := ⟨w0.heap.size + 1, 0, none⟩) (by simp) (.slice none 0 0)).setCell (p := ⟨w0.heap.size + 2, 0, none⟩) (by simp) (.int .u16 n)
  show Leaves _ _ _ _ [] (settle _) _
  simp only [settle]
  exact ⟨_, hres, by rw [if_neg hn], hbl⟩
theorem print_end {r : Int × List Int} {ys : List Int} {tmps : Array Value} {w0 w : World} {g : Nat} (hr : r = (0, ys)) (hg : w0.heap.size ≤ g) (ha : Arr w g 86 ys)
    (hb : w.heap[w0.heap.size + 1]? = some (.cells #[.slice (some ⟨g, 0, none⟩) 512 512] 22 (0, 0))) (he : w.heap[w0.heap.size + 2]? = some (.cells #[.int .u16 0] 29 (0, 0))) (hbl : Below w0.heap.size w0 w)
    (h2 : tmps.getD 2 undef = .pointer (some ⟨w0.heap.size + 1, 0, none⟩)) (h3 : tmps.getD 3 undef = .pointer (some ⟨w0.heap.size + 2, 0, none⟩)) :
    bodyPostD Tryd.prog Tryd.f11 (PrintIs r w0) .ret
      { tmps := tmps, defers := [{ target := .fn (.func 24) #[.pointer (some ⟨w0.heap.size + 1, 0, none⟩), .pointer (some ⟨w0.heap.size + 2, 0, none⟩)], args := #[] }] } w := by
  subst hr
  refine leaves_cons (f := 24) (args := #[.pointer (some ⟨w0.heap.size + 1, 0, none⟩), .pointer (some ⟨w0.heap.size + 2, 0, none⟩)]) (by simp) (by simp [go_sem]) ?_
  refine (print_idle _ _ w).mono ?_
  rintro e u' w'' ⟨rfl, rfl, rfl⟩
  have hres := results_print (v := .slice (some ⟨g, 0, none⟩) 512 512) (n := 0) (by rw [cell_of_row _ _ 0 _ _ _ hb]; rfl) (by rw [cell_of_row _ _ 0 _ _ _ he]; rfl) h2 h3
  show Leaves _ _ _ _ [] (settle _) _
  simp only [settle]
  exact ⟨_, hres, by rw [if_pos rfl]; exact ⟨g, rfl, hg, ha⟩, hbl⟩

/-! Parts that came in. -/
def PartsB (w : World) (B : Nat) (pv : Value) (l : List (Int × Int)) : Prop :=
  ∃ A c, pv = .slice A l.length c ∧ l.length ≤ c ∧ (0 < l.length → ∃ b off, A = some ⟨b, off, none⟩ ∧ b < B ∧ ∀ (j : Nat) (p : Int × Int), l[j]? = some p → w.cell? ⟨b, off + 2 * j, none⟩ = some (.int .i64 p.1) ∧ w.cell? ⟨b, off + 2 * j + 1, none⟩ = some (.int .i64 p.2))
theorem PartsIs.in_ {w : World} {base : Nat} {pv : Value} {l : List (Int × Int)} (h : PartsIs w base pv l) : PartsB w w.heap.size pv l := by
  obtain ⟨A, c, rfl, h1, h2⟩ := h
  exact ⟨A, c, rfl, h1, fun hl => let ⟨b, off, e, _, h4, h5⟩ := h2 hl; ⟨b, off, e, h4, h5⟩⟩
theorem PartsB.below {w w' : World} {B : Nat} {pv : Value} {l : List (Int × Int)} (h : PartsB w B pv l) (hb : Below B w w') : PartsB w' B pv l := by
  obtain ⟨A, c, rfl, h1, h2⟩ := h
  exact ⟨A, c, rfl, h1, fun hl => let ⟨b, off, e, h4, h5⟩ := h2 hl; ⟨b, off, e, h4, fun j p hp => ⟨(hb.cell (p := ⟨b, off + 2 * j, none⟩) h4).trans (h5 j p hp).1, (hb.cell (p := ⟨b, off + 2 * j + 1, none⟩) h4).trans (h5 j p hp).2⟩⟩⟩
end Go.Proofs.YtbjejgnfnpednaaDoor
