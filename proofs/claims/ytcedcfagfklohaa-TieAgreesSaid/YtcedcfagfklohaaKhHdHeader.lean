/-
  Header: one, as choices say.
-/
import Derived.Test.YtcedcfagfklohaaKhHdBox
import Derived.Test.YtcedcfagfklohaaKhHdPick
import Derived.Test.YtcedcfagfklohaaKhHdTwin
import Derived.Test.YtcedcfagfklohaaKhHdApp
import Derived.Deep.CutRange
import Derived.Test.YtcedcfagfklohaaKhHdPrintW
set_option linter.unusedVariables false
set_option linter.unusedSimpArgs false
namespace Go.Proofs.Ytcedcfagfklohaa.Hd
open Go.RowKit Go.Lib

theorem below_drw {B : Nat} {a w : World} (h : Below B a w) : Below B a w.drew := ⟨h.os, h.tape, h.output, h.size, h.block⟩
def pvo (o : Option Nat) : Value := match o with
  | none => undef
  | some g => .pointer (some ⟨g, 0, none⟩)
def pick (k i : Nat) (v : Value) : Value := if i < k then v else undef
/-- A variable that holds a header that may be. -/
structure HD (w0 w : World) (g : Nat) (h : M.Hdr) (pv : Value) : Prop where
  box : HB w g h pv
  res : HB w w0.heap.size {} (.slice none 0 0)
  apart : w0.heap.size < g
  own : PartsIs w (g + 1) pv h.parts
  few : h.parts.length ≤ 1000
  way : 0 ≤ h.way ∧ h.way ≤ 2
  nums : i64p h.parts
  kind : 0 ≤ h.kind ∧ h.kind ≤ 255
  ints : (-9223372036854775808 ≤ h.mode ∧ h.mode ≤ 9223372036854775807) ∧ (-9223372036854775808 ≤ h.uid ∧ h.uid ≤ 9223372036854775807) ∧ (-9223372036854775808 ≤ h.gid ∧ h.gid ≤ 9223372036854775807) ∧ (-9223372036854775808 ≤ h.size ∧ h.size ≤ 9223372036854775807) ∧ (-9223372036854775808 ≤ h.mtime ∧ h.mtime ≤ 9223372036854775807) ∧
    (-9223372036854775808 ≤ h.major ∧ h.major ≤ 9223372036854775807) ∧ (-9223372036854775808 ≤ h.minor ∧ h.minor ≤ 9223372036854775807) ∧ (-9223372036854775808 ≤ h.real ∧ h.real ≤ 9223372036854775807)
  texts : h.name.size ≤ 100000 ∧ h.link.size ≤ 100000 ∧ h.user.size ≤ 100000 ∧ h.group.size ≤ 100000 ∧ h.pre.size ≤ 100000
  below : Below w0.heap.size w0 w

theorem HD.set {w0 w : World} {g : Nat} {h h' : M.Hdr} {pv : Value} (p : HD w0 w g h pv) (i : Nat) (v : Value) (e : (hcells h pv).set! i v = hcells h' pv) (hp : h'.parts = h.parts) (hw : 0 ≤ h'.way ∧ h'.way ≤ 2) (hk : 0 ≤ h'.kind ∧ h'.kind ≤ 255)
    (hi : (-9223372036854775808 ≤ h'.mode ∧ h'.mode ≤ 9223372036854775807) ∧ (-9223372036854775808 ≤ h'.uid ∧ h'.uid ≤ 9223372036854775807) ∧ (-9223372036854775808 ≤ h'.gid ∧ h'.gid ≤ 9223372036854775807) ∧ (-9223372036854775808 ≤ h'.size ∧ h'.size ≤ 9223372036854775807) ∧ (-9223372036854775808 ≤ h'.mtime ∧ h'.mtime ≤ 9223372036854775807) ∧
      (-9223372036854775808 ≤ h'.major ∧ h'.major ≤ 9223372036854775807) ∧ (-9223372036854775808 ≤ h'.minor ∧ h'.minor ≤ 9223372036854775807) ∧ (-9223372036854775808 ≤ h'.real ∧ h'.real ≤ 9223372036854775807))
    (ht : h'.name.size ≤ 100000 ∧ h'.link.size ≤ 100000 ∧ h'.user.size ≤ 100000 ∧ h'.group.size ≤ 100000 ∧ h'.pre.size ≤ 100000) : HD w0 (w.setCell ⟨g, i, none⟩ v) g h' pv :=
  ⟨p.box.set i v e, HB.other p.res (by have := p.apart; show w0.heap.size ≠ g; omega) v, p.apart, by rw [hp]; exact p.own.set _ (Nat.lt_succ_self _) v, by rw [hp]; exact p.few, hw, by rw [hp]; exact p.nums, hk, hi, ht, p.below.setCell (p := ⟨g, i, none⟩) (by have := p.apart; show w0.heap.size ≤ g; omega) v⟩
theorem HD.later {w0 w w' : World} {g : Nat} {h : M.Hdr} {pv : Value} (p : HD w0 w g h pv) (hb : Below w.heap.size w w') : HD w0 w' g h pv :=
  ⟨HB.below p.box hb (HB.lt p.box), HB.below p.res hb (HB.lt p.res), p.apart, p.own.later hb, p.few, p.way, p.nums, p.kind, p.ints, p.texts, p.below.trans (hb.mono p.below.size)⟩
theorem HD.cell {w0 w : World} {g : Nat} {h : M.Hdr} {pv : Value} (p : HD w0 w g h pv) {i : Nat} {v : Value} (hv : (hcells h pv)[i]? = some v) : w.cell? ⟨g, i, none⟩ = some v := HB.cell p.box hv

theorem HD.next {w0 w w' : World} {g : Nat} {h : M.Hdr} {pv : Value} {p q : Int} {A : Option Addr} {n c : Nat} (d : HD w0 w g h pv) (ho : OwnP w' (g + 1) (.slice A n c) (h.parts ++ [(p, q)])) (hb : Below (g + 1) w w') (hl : h.parts.length ≤ 900)
    (hp : -9223372036854775808 ≤ p ∧ p ≤ 9223372036854775807) (hq : -9223372036854775808 ≤ q ∧ q ≤ 9223372036854775807) :
    HD w0 (w'.setCell ⟨g, 14, none⟩ (.slice A n c)) g { h with parts := h.parts ++ [(p, q)] } (.slice A n c) ∧ OwnP (w'.setCell ⟨g, 14, none⟩ (.slice A n c)) (g + 1) (.slice A n c) (h.parts ++ [(p, q)]) := by
  have hog : w0.heap.size ≤ g := Nat.le_of_lt d.apart
  have hor : OwnP (w'.setCell ⟨g, 14, none⟩ (.slice A n c)) (g + 1) (.slice A n c) (h.parts ++ [(p, q)]) := ownsRow_setCell_below ho (Nat.lt_succ_self _) _
  have hb1 : HB w' g h pv := HB.below d.box hb (Nat.lt_succ_self _)
  have hr1 : HB w' w0.heap.size {} (.slice none 0 0) := HB.below d.res hb (by have := d.apart; omega)
  refine ⟨⟨HB.set hb1 14 _ rfl, HB.other hr1 (by have := d.apart; show w0.heap.size ≠ g; omega) _, d.apart, hor.parts, by show (h.parts ++ [(p, q)]).length ≤ 1000; rw [List.length_append]; simp; omega, d.way, ?_, d.kind, d.ints, d.texts, (d.below.trans (hb.mono (by omega))).setCell (p := ⟨g, 14, none⟩) hog _⟩, hor⟩
  intro x hx
  rw [List.mem_append] at hx
  rcases hx with hx | hx
  · exact d.nums x hx
  · rw [List.mem_singleton] at hx
    subst hx
    exact ⟨hp, hq⟩

/-- What Header answers. -/
def HeaderIs (w0 : World) (e : Ending) (w' : World) : Prop :=
  ∃ h pv, e = .returned (.agg (hcells h pv)) ∧ HIn w' h pv ∧ h.parts.length ≤ 1000 ∧ (0 ≤ h.way ∧ h.way ≤ 2) ∧ Below w0.heap.size w0 w'

theorem kinds_at (j : Nat) (hj : j < 13) : ∃ kk : Int, (0 ≤ kk ∧ kk ≤ 255) ∧ (#[.int .u8 48, .int .u8 49, .int .u8 50, .int .u8 51, .int .u8 52, .int .u8 53, .int .u8 54, .int .u8 55, .int .u8 120, .int .u8 103, .int .u8 76, .int .u8 75, .int .u8 83, .int .u8 122] : Array Value)[j]? = some (.int .u8 kk) := by
  have : j = 0 ∨ j = 1 ∨ j = 2 ∨ j = 3 ∨ j = 4 ∨ j = 5 ∨ j = 6 ∨ j = 7 ∨ j = 8 ∨ j = 9 ∨ j = 10 ∨ j = 11 ∨ j = 12 := by omega
  rcases this with rfl | rfl | rfl | rfl | rfl | rfl | rfl | rfl | rfl | rfl | rfl | rfl | rfl <;> exact ⟨_, by decide, rfl⟩

set_option maxRecDepth 100000 in
set_option maxHeartbeats 4000000 in
theorem header_any (A : Option Addr) (n c : Nat) (zs : List Int) (w : World) (hr : Rd w w.heap.size A n zs) (hc : n ≤ c) (hcm : c ≤ maxLen) :
    Calls Try.prog 7 #[.slice A n c] w (HeaderIs w) := by
  obtain ⟨x0, hx0, G0⟩ : ∃ x : Int, (0 ≤ x ∧ x ≤ 255) ∧ Hid (∀ W, Below w.heap.size w W → Calls Try.prog 14 #[.slice A n c, .int .i64 0] W fun e w' => e = .returned (.int .u8 x) ∧ W = w') :=
    ⟨M.gz zs 0, M.gz_bd hr.2.1 _, hid fun W hW => g_any A n c 0 zs W w.heap.size (hr.below hW) (by decide)⟩
  obtain ⟨x1, hx1, G1⟩ : ∃ x : Int, (0 ≤ x ∧ x ≤ 255) ∧ Hid (∀ W, Below w.heap.size w W → Calls Try.prog 14 #[.slice A n c, .int .i64 1] W fun e w' => e = .returned (.int .u8 x) ∧ W = w') :=
    ⟨M.gz zs 1, M.gz_bd hr.2.1 _, hid fun W hW => g_any A n c 1 zs W w.heap.size (hr.below hW) (by decide)⟩
  obtain ⟨x2, hx2, G2⟩ : ∃ x : Int, (0 ≤ x ∧ x ≤ 255) ∧ Hid (∀ W, Below w.heap.size w W → Calls Try.prog 14 #[.slice A n c, .int .i64 2] W fun e w' => e = .returned (.int .u8 x) ∧ W = w') :=
    ⟨M.gz zs 2, M.gz_bd hr.2.1 _, hid fun W hW => g_any A n c 2 zs W w.heap.size (hr.below hW) (by decide)⟩
  obtain ⟨x3, hx3, G3⟩ : ∃ x : Int, (0 ≤ x ∧ x ≤ 255) ∧ Hid (∀ W, Below w.heap.size w W → Calls Try.prog 14 #[.slice A n c, .int .i64 3] W fun e w' => e = .returned (.int .u8 x) ∧ W = w') :=
    ⟨M.gz zs 3, M.gz_bd hr.2.1 _, hid fun W hW => g_any A n c 3 zs W w.heap.size (hr.below hW) (by decide)⟩
  obtain ⟨x4, hx4, G4⟩ : ∃ x : Int, (0 ≤ x ∧ x ≤ 255) ∧ Hid (∀ W, Below w.heap.size w W → Calls Try.prog 14 #[.slice A n c, .int .i64 4] W fun e w' => e = .returned (.int .u8 x) ∧ W = w') :=
    ⟨M.gz zs 4, M.gz_bd hr.2.1 _, hid fun W hW => g_any A n c 4 zs W w.heap.size (hr.below hW) (by decide)⟩
  obtain ⟨x5, hx5, G5⟩ : ∃ x : Int, (0 ≤ x ∧ x ≤ 255) ∧ Hid (∀ W, Below w.heap.size w W → Calls Try.prog 14 #[.slice A n c, .int .i64 5] W fun e w' => e = .returned (.int .u8 x) ∧ W = w') :=
    ⟨M.gz zs 5, M.gz_bd hr.2.1 _, hid fun W hW => g_any A n c 5 zs W w.heap.size (hr.below hW) (by decide)⟩
  obtain ⟨x6, hx6, G6⟩ : ∃ x : Int, (0 ≤ x ∧ x ≤ 255) ∧ Hid (∀ W, Below w.heap.size w W → Calls Try.prog 14 #[.slice A n c, .int .i64 6] W fun e w' => e = .returned (.int .u8 x) ∧ W = w') :=
    ⟨M.gz zs 6, M.gz_bd hr.2.1 _, hid fun W hW => g_any A n c 6 zs W w.heap.size (hr.below hW) (by decide)⟩
  obtain ⟨x7, hx7, G7⟩ : ∃ x : Int, (0 ≤ x ∧ x ≤ 255) ∧ Hid (∀ W, Below w.heap.size w W → Calls Try.prog 14 #[.slice A n c, .int .i64 7] W fun e w' => e = .returned (.int .u8 x) ∧ W = w') :=
    ⟨M.gz zs 7, M.gz_bd hr.2.1 _, hid fun W hW => g_any A n c 7 zs W w.heap.size (hr.below hW) (by decide)⟩
  obtain ⟨x8, hx8, G8⟩ : ∃ x : Int, (0 ≤ x ∧ x ≤ 255) ∧ Hid (∀ W, Below w.heap.size w W → Calls Try.prog 14 #[.slice A n c, .int .i64 8] W fun e w' => e = .returned (.int .u8 x) ∧ W = w') :=
    ⟨M.gz zs 8, M.gz_bd hr.2.1 _, hid fun W hW => g_any A n c 8 zs W w.heap.size (hr.below hW) (by decide)⟩
  obtain ⟨x9, hx9, G9⟩ : ∃ x : Int, (0 ≤ x ∧ x ≤ 255) ∧ Hid (∀ W, Below w.heap.size w W → Calls Try.prog 14 #[.slice A n c, .int .i64 9] W fun e w' => e = .returned (.int .u8 x) ∧ W = w') :=
    ⟨M.gz zs 9, M.gz_bd hr.2.1 _, hid fun W hW => g_any A n c 9 zs W w.heap.size (hr.below hW) (by decide)⟩
  obtain ⟨x14, hx14, G14⟩ : ∃ x : Int, (0 ≤ x ∧ x ≤ 255) ∧ Hid (∀ W, Below w.heap.size w W → Calls Try.prog 14 #[.slice A n c, .int .i64 14] W fun e w' => e = .returned (.int .u8 x) ∧ W = w') :=
    ⟨M.gz zs 14, M.gz_bd hr.2.1 _, hid fun W hW => g_any A n c 14 zs W w.heap.size (hr.below hW) (by decide)⟩
  obtain ⟨x15, hx15, G15⟩ : ∃ x : Int, (0 ≤ x ∧ x ≤ 255) ∧ Hid (∀ W, Below w.heap.size w W → Calls Try.prog 14 #[.slice A n c, .int .i64 15] W fun e w' => e = .returned (.int .u8 x) ∧ W = w') :=
    ⟨M.gz zs 15, M.gz_bd hr.2.1 _, hid fun W hW => g_any A n c 15 zs W w.heap.size (hr.below hW) (by decide)⟩
  obtain ⟨x16, hx16, G16⟩ : ∃ x : Int, (0 ≤ x ∧ x ≤ 255) ∧ Hid (∀ W, Below w.heap.size w W → Calls Try.prog 14 #[.slice A n c, .int .i64 16] W fun e w' => e = .returned (.int .u8 x) ∧ W = w') :=
    ⟨M.gz zs 16, M.gz_bd hr.2.1 _, hid fun W hW => g_any A n c 16 zs W w.heap.size (hr.below hW) (by decide)⟩
  obtain ⟨x17, hx17, G17⟩ : ∃ x : Int, (0 ≤ x ∧ x ≤ 255) ∧ Hid (∀ W, Below w.heap.size w W → Calls Try.prog 14 #[.slice A n c, .int .i64 17] W fun e w' => e = .returned (.int .u8 x) ∧ W = w') :=
    ⟨M.gz zs 17, M.gz_bd hr.2.1 _, hid fun W hW => g_any A n c 17 zs W w.heap.size (hr.below hW) (by decide)⟩
  obtain ⟨x18, hx18, G18⟩ : ∃ x : Int, (0 ≤ x ∧ x ≤ 255) ∧ Hid (∀ W, Below w.heap.size w W → Calls Try.prog 14 #[.slice A n c, .int .i64 18] W fun e w' => e = .returned (.int .u8 x) ∧ W = w') :=
    ⟨M.gz zs 18, M.gz_bd hr.2.1 _, hid fun W hW => g_any A n c 18 zs W w.heap.size (hr.below hW) (by decide)⟩
  obtain ⟨x19, hx19, G19⟩ : ∃ x : Int, (0 ≤ x ∧ x ≤ 255) ∧ Hid (∀ W, Below w.heap.size w W → Calls Try.prog 14 #[.slice A n c, .int .i64 19] W fun e w' => e = .returned (.int .u8 x) ∧ W = w') :=
    ⟨M.gz zs 19, M.gz_bd hr.2.1 _, hid fun W hW => g_any A n c 19 zs W w.heap.size (hr.below hW) (by decide)⟩
  obtain ⟨s0, hs0, N0⟩ : ∃ s : ByteArray, s.size ≤ 100000 ∧ Hid (∀ W, Calls Try.prog 13 #[.int .u8 x0] W fun e w' => e = .returned (.string s) ∧ Below W.heap.size W w') :=
    ⟨M.nm x0, M.nm_size _, hid fun W => name_any x0 hx0 W⟩
  obtain ⟨s7, hs7, N7⟩ : ∃ s : ByteArray, s.size ≤ 100000 ∧ Hid (∀ W, Calls Try.prog 13 #[.int .u8 x7] W fun e w' => e = .returned (.string s) ∧ Below W.heap.size W w') :=
    ⟨M.nm x7, M.nm_size _, hid fun W => name_any x7 hx7 W⟩
  obtain ⟨s15, hs15, N15⟩ : ∃ s : ByteArray, s.size ≤ 100000 ∧ Hid (∀ W, Calls Try.prog 13 #[.int .u8 x15] W fun e w' => e = .returned (.string s) ∧ Below W.heap.size W w') :=
    ⟨M.nm x15, M.nm_size _, hid fun W => name_any x15 hx15 W⟩
  obtain ⟨s16, hs16, N16⟩ : ∃ s : ByteArray, s.size ≤ 100000 ∧ Hid (∀ W, Calls Try.prog 13 #[.int .u8 x16] W fun e w' => e = .returned (.string s) ∧ Below W.heap.size W w') :=
    ⟨M.nm x16, M.nm_size _, hid fun W => name_any x16 hx16 W⟩
  obtain ⟨s19, hs19, N19⟩ : ∃ s : ByteArray, s.size ≤ 100000 ∧ Hid (∀ W, Calls Try.prog 13 #[.int .u8 x19] W fun e w' => e = .returned (.string s) ∧ Below W.heap.size W w') :=
    ⟨M.nm x19, M.nm_size _, hid fun W => name_any x19 hx19 W⟩
  obtain ⟨y1, hy1, Y1⟩ : ∃ y : Int, (-1 ≤ y ∧ y ≤ 4611686018427387904) ∧ Hid (∀ W, Calls Try.prog 15 #[.int .u8 x1] W fun e w' => e = .returned (.int .i64 y) ∧ Below W.heap.size W w') :=
    ⟨M.nr x1, M.nr_bd hx1, hid fun W => number_any x1 hx1 W⟩
  obtain ⟨y2, hy2, Y2⟩ : ∃ y : Int, (-1 ≤ y ∧ y ≤ 4611686018427387904) ∧ Hid (∀ W, Calls Try.prog 15 #[.int .u8 x2] W fun e w' => e = .returned (.int .i64 y) ∧ Below W.heap.size W w') :=
    ⟨M.nr x2, M.nr_bd hx2, hid fun W => number_any x2 hx2 W⟩
  obtain ⟨y3, hy3, Y3⟩ : ∃ y : Int, (-1 ≤ y ∧ y ≤ 4611686018427387904) ∧ Hid (∀ W, Calls Try.prog 15 #[.int .u8 x3] W fun e w' => e = .returned (.int .i64 y) ∧ Below W.heap.size W w') :=
    ⟨M.nr x3, M.nr_bd hx3, hid fun W => number_any x3 hx3 W⟩
  obtain ⟨y4, hy4, Y4⟩ : ∃ y : Int, (-1 ≤ y ∧ y ≤ 4611686018427387904) ∧ Hid (∀ W, Calls Try.prog 15 #[.int .u8 x4] W fun e w' => e = .returned (.int .i64 y) ∧ Below W.heap.size W w') :=
    ⟨M.nr x4, M.nr_bd hx4, hid fun W => number_any x4 hx4 W⟩
  obtain ⟨y5, hy5, Y5⟩ : ∃ y : Int, (-1 ≤ y ∧ y ≤ 4611686018427387904) ∧ Hid (∀ W, Calls Try.prog 15 #[.int .u8 x5] W fun e w' => e = .returned (.int .i64 y) ∧ Below W.heap.size W w') :=
    ⟨M.nr x5, M.nr_bd hx5, hid fun W => number_any x5 hx5 W⟩
  obtain ⟨y14, hy14, Y14⟩ : ∃ y : Int, (-1 ≤ y ∧ y ≤ 4611686018427387904) ∧ Hid (∀ W, Calls Try.prog 15 #[.int .u8 x14] W fun e w' => e = .returned (.int .i64 y) ∧ Below W.heap.size W w') :=
    ⟨M.nr x14, M.nr_bd hx14, hid fun W => number_any x14 hx14 W⟩
  obtain ⟨y17, hy17, Y17⟩ : ∃ y : Int, (-1 ≤ y ∧ y ≤ 4611686018427387904) ∧ Hid (∀ W, Calls Try.prog 15 #[.int .u8 x17] W fun e w' => e = .returned (.int .i64 y) ∧ Below W.heap.size W w') :=
    ⟨M.nr x17, M.nr_bd hx17, hid fun W => number_any x17 hx17 W⟩
  have GI := hid (fun (i : Nat) (hi : i ≤ 1000) => (⟨M.gz zs i, M.gz_bd hr.2.1 _, fun W hW => g_any A n c i zs W w.heap.size (hr.below hW) hi⟩ : ∃ x : Int, (0 ≤ x ∧ x ≤ 255) ∧ ∀ W, Below w.heap.size w W → Calls Try.prog 14 #[.slice A n c, .int .i64 i] W fun e w' => e = .returned (.int .u8 x) ∧ W = w'))
  have HY := hid (fun (x : Int) (hx : 0 ≤ x ∧ x ≤ 255) => (⟨M.nr x, M.nr_bd hx, fun W => number_any x hx W⟩ : ∃ y : Int, (-1 ≤ y ∧ y ≤ 4611686018427387904) ∧ ∀ W, Calls Try.prog 15 #[.int .u8 x] W fun e w' => e = .returned (.int .i64 y) ∧ Below W.heap.size W w'))
  obtain ⟨j, hj⟩ : ∃ j : Nat, (j : Int) = x6 % 13 := ⟨(x6 % 13).toNat, by omega⟩
  have hj13 : j < 13 := by omega
  obtain ⟨kk, hkk, hkj⟩ := kinds_at j hj13
  obtain ⟨m8, hm8⟩ : ∃ m : Int, m = x8 % 3 := ⟨_, rfl⟩
  have hm8b : 0 ≤ m8 ∧ m8 ≤ 2 := by omega
  have E13 := hid (show x6.tmod 13 = (j : Int) by rw [Int.tmod_eq_emod_of_nonneg hx6.1]; exact hj.symm)
  obtain ⟨m9, hm9⟩ : ∃ m : Nat, (m : Int) = x9 % 5 := ⟨(x9 % 5).toNat, by omega⟩
  have HM9 := hid (show m9 ≤ 4 by omega)
  have E5 := hid (show x9.tmod 5 = (m9 : Int) by rw [Int.tmod_eq_emod_of_nonneg hx9.1]; exact hm9.symm)
  have EW5 := hid (show IntKind.u8.wrap (m9 : Int) = m9 from IntWalk.u8_in _ (by omega))
  have EI5 := hid (show IntKind.i64.wrap (m9 : Int) = m9 from IntWalk.i64_in _ (by omega))
  clear hm9
  obtain ⟨t17, ht17⟩ : ∃ t : Int, t = y17.tmod 4000000 := ⟨_, rfl⟩
  have hb17 : -4000000 ≤ t17 ∧ t17 ≤ 4000000 := by
    subst ht17
    by_cases h0 : 0 ≤ y17
    · rw [Int.tmod_eq_emod_of_nonneg h0]; omega
    · have : y17 = -1 := by omega
      subst this
      decide
  have E17 := hid ht17.symm
  have EW17 := hid (show IntKind.i64.wrap t17 = t17 from IntWalk.i64_in _ (by omega))
  have BT17 := hid hb17
  have EW18 := hid (show IntKind.i64.wrap x18 = x18 from IntWalk.i64_in _ (by omega))
  clear ht17 hb17
  have E3 := hid (show x8.tmod 3 = m8 by rw [Int.tmod_eq_emod_of_nonneg hx8.1]; exact hm8.symm)
  have EW := hid (show IntKind.u8.wrap (j : Int) = j from IntWalk.u8_in _ (by omega))
  have EM := hid (show IntKind.u8.wrap m8 = m8 from IntWalk.u8_in _ (by omega))
  have EI := hid (show IntKind.i64.wrap m8 = m8 from IntWalk.i64_in _ (by omega))
  have HX := hid (⟨hx0, hx1, hx2, hx3, hx4, hx5, hx6, hx7, hx8, hx9, hx14, hx15, hx16, hx17, hx18, hx19⟩ : (0 ≤ x0 ∧ x0 ≤ 255) ∧ (0 ≤ x1 ∧ x1 ≤ 255) ∧ (0 ≤ x2 ∧ x2 ≤ 255) ∧ (0 ≤ x3 ∧ x3 ≤ 255) ∧ (0 ≤ x4 ∧ x4 ≤ 255) ∧ (0 ≤ x5 ∧ x5 ≤ 255) ∧ (0 ≤ x6 ∧ x6 ≤ 255) ∧ (0 ≤ x7 ∧ x7 ≤ 255) ∧ (0 ≤ x8 ∧ x8 ≤ 255) ∧ (0 ≤ x9 ∧ x9 ≤ 255) ∧ (0 ≤ x14 ∧ x14 ≤ 255) ∧ (0 ≤ x15 ∧ x15 ≤ 255) ∧ (0 ≤ x16 ∧ x16 ≤ 255) ∧ (0 ≤ x17 ∧ x17 ≤ 255) ∧ (0 ≤ x18 ∧ x18 ≤ 255) ∧ (0 ≤ x19 ∧ x19 ≤ 255))
  have HYB := hid (⟨hy1, hy2, hy3, hy4, hy5, hy14, hy17⟩ : (-1 ≤ y1 ∧ y1 ≤ 4611686018427387904) ∧ (-1 ≤ y2 ∧ y2 ≤ 4611686018427387904) ∧ (-1 ≤ y3 ∧ y3 ≤ 4611686018427387904) ∧ (-1 ≤ y4 ∧ y4 ≤ 4611686018427387904) ∧ (-1 ≤ y5 ∧ y5 ≤ 4611686018427387904) ∧ (-1 ≤ y14 ∧ y14 ≤ 4611686018427387904) ∧ (-1 ≤ y17 ∧ y17 ≤ 4611686018427387904))
  have HSB := hid (⟨hs0, hs7, hs15, hs16, hs19⟩ : s0.size ≤ 100000 ∧ s7.size ≤ 100000 ∧ s15.size ≤ 100000 ∧ s16.size ≤ 100000 ∧ s19.size ≤ 100000)
  have HKB := hid hkk
  have HMB := hid hm8b
  have HJ := hid hj13
  have HKJ := hid hkj
  clear hx0 hx1 hx2 hx3 hx4 hx5 hx6 hx7 hx8 hx9 hx14 hx15 hx16 hx17 hx18 hx19 hy1 hy2 hy3 hy4 hy5 hy14 hy17 hs0 hs7 hs15 hs16 hs19 hkk hm8b hj hj13 hkj hm8 hr hc hcm
  go_enter Try.func7, Try.ntmps7
  go_wp2_with fail
  have hz1 : ∀ W, Below (w.heap.size + 2) ((w.alloc (.cells (hcells {} (.slice none 0 0)) 28)).alloc (.cells #[.int .u8 48, .int .u8 49, .int .u8 50, .int .u8 51, .int .u8 52, .int .u8 53, .int .u8 54, .int .u8 55, .int .u8 120, .int .u8 103, .int .u8 76, .int .u8 75, .int .u8 83, .int .u8 122] 5)) W → Below w.heap.size w W ∧ HB W w.heap.size {} (.slice none 0 0) ∧ W.cell? ⟨w.heap.size + 1, j, none⟩ = some (.int .u8 kk) := by
    intro W hW
    have e1 : (w.alloc (.cells (hcells {} (.slice none 0 0)) 28)).heap.size = w.heap.size + 1 := by simp
    refine ⟨(((Below.refl _ _).alloc (Nat.le_refl _) _).alloc (by simp) _).trans (hW.mono (by omega)), HB.below ((HB.new w {} (.slice none 0 0)).alloc _) hW (by omega), ?_⟩
    rw [hW.cell (p := ⟨w.heap.size + 1, j, none⟩) (by simp), ← e1, cell_of_row _ _ j _ _ _ (heap_alloc_new _ _)]
    exact HKJ.out
  have hsz : ((w.alloc (.cells (hcells {} (.slice none 0 0)) 28)).alloc (.cells #[.int .u8 48, .int .u8 49, .int .u8 50, .int .u8 51, .int .u8 52, .int .u8 53, .int .u8 54, .int .u8 55, .int .u8 120, .int .u8 103, .int .u8 76, .int .u8 75, .int .u8 83, .int .u8 122] 5)).heap.size = w.heap.size + 2 := by simp
  have HZ := hid hz1
  have HSZ := hid hsz
  clear hz1 hsz
  change Code.wp _ _ _ _ ((w.alloc (.cells (hcells {} (.slice none 0 0)) 28)).alloc _)
  generalize ((w.alloc (.cells (hcells {} (.slice none 0 0)) 28)).alloc (.cells #[.int .u8 48, .int .u8 49, .int .u8 50, .int .u8 51, .int .u8 52, .int .u8 53, .int .u8 54, .int .u8 55, .int .u8 120, .int .u8 103, .int .u8 76, .int .u8 75, .int .u8 83, .int .u8 122] 5)) = w1 at *
  have HLE := hid (fun (W : World) (hW : Below (w.heap.size + 2) w1 W) => (show w.heap.size + 2 ≤ W.heap.size from HSZ.out ▸ hW.size))
  have HS := hid (fun (W : World) (hW : Below (w.heap.size + 2) w1 W) => (HZ.out W hW).1)
  have HKc := hid (fun (W : World) (hW : Below (w.heap.size + 2) w1 W) => (HZ.out W hW).2.2)
  refine wp_region_held_drew (S := fun W => Below (w.heap.size + 2) w1 W) (by kernel_rfl) (below_drewN' (Below.refl _ _) 1) (fun hS => ?_)
  refine two_rows (N := 32) (fun g W => HB W g {} (.slice none 0 0) ∧ w.heap.size + 2 ≤ g) (fun k o => (if o.isSome then 33 else 34) - k) (fun k o => #[decide (0 < k), decide (10 < k), decide (11 < k), decide (1 < k), decide (12 < k), decide (13 < k), decide (2 < k), decide (14 < k), decide (15 < k), decide (3 < k), decide (16 < k), decide (17 < k), decide (4 < k), decide (18 < k), decide (19 < k), decide (5 < k), decide (20 < k), decide (21 < k), decide (6 < k), decide (7 < k), decide (22 < k), decide (23 < k), decide (24 < k), decide (25 < k), decide (8 < k), decide (26 < k), decide (27 < k), decide (9 < k), decide (28 < k), decide (29 < k), decide (30 < k), decide (31 < k), o.isSome, false]) (fun k o => { tmps := #[.slice A n c, undef, .pointer (some ⟨w.heap.size, 0, none⟩), .slice (some ⟨w.heap.size + 1, 0, none⟩) 14 14, pvo o, undef, .slice (some ⟨w.heap.size + 1, 0, none⟩) 14 14, (pick k 0 (.slice A n c)), (pick k 10 (.int .u8 x0)), (pick k 11 (.string s0)), (pick k 1 (.slice A n c)), (pick k 12 (.int .u8 x1)), (pick k 13 (.int .i64 y1)), (pick k 2 (.slice A n c)), (pick k 14 (.int .u8 x2)), (pick k 15 (.int .i64 y2)), (pick k 3 (.slice A n c)), (pick k 16 (.int .u8 x3)), (pick k 17 (.int .i64 y3)), (pick k 4 (.slice A n c)), (pick k 18 (.int .u8 x4)), (pick k 19 (.int .i64 y4)), (pick k 5 (.slice A n c)), (pick k 20 (.int .u8 x5)), (pick k 21 (.int .i64 y5)), (pick k 6 (.slice (some ⟨w.heap.size + 1, 0, none⟩) 14 14)), (pick k 7 (.slice A n c)), (pick k 22 (.int .u8 x6)), (pick k 23 (.int .u8 j)), (pick k 24 (.pointer (some ⟨w.heap.size + 1, j, none⟩))), (pick k 25 (.int .u8 kk)), (pick k 8 (.slice A n c)), (pick k 26 (.int .u8 x7)), (pick k 27 (.string s7)), (pick k 9 (.slice A n c)), (pick k 28 (.int .u8 x8)), (pick k 29 (.int .u8 m8)), (pick k 30 (.int .i64 m8)), (pick k 31 (.agg #[.string s0, .int .i64 y1, .int .i64 y2, .int .i64 y3, .int .i64 y4, .int .i64 y5, .int .u8 kk, .string s7, .int .i64 m8, .string ⟨#[]⟩, .string ⟨#[]⟩, .int .i64 0, .int .i64 0, .string ⟨#[]⟩, .slice none 0 0, .bool false, .int .i64 0])), undef, undef, undef, undef, undef, undef, undef, undef, undef, undef, undef, undef, undef, undef, undef, undef, undef, undef, undef, undef, undef, undef, undef, undef, undef, undef, undef, undef, undef, undef, undef, undef, undef, undef, undef, undef, undef, undef, undef, undef, undef, undef, undef, undef, undef, undef, undef, undef, undef, undef, undef, undef, undef, undef, undef, undef, undef, undef, undef, undef, undef, undef, undef, undef, undef, undef, undef, undef, undef, undef, undef, undef, undef, undef, undef, undef], defers := [] }) ?hend ?hnone ?hstep ?hR _ hS
  case hR => exact fun g w w' h hb => ⟨HB.below h.1 hb (HB.lt h.1), h.2⟩
  case hstep =>
    intro k hk
    have : k = 0 ∨ k = 1 ∨ k = 2 ∨ k = 3 ∨ k = 4 ∨ k = 5 ∨ k = 6 ∨ k = 7 ∨ k = 8 ∨ k = 9 ∨ k = 10 ∨ k = 11 ∨ k = 12 ∨ k = 13 ∨ k = 14 ∨ k = 15 ∨ k = 16 ∨ k = 17 ∨ k = 18 ∨ k = 19 ∨ k = 20 ∨ k = 21 ∨ k = 22 ∨ k = 23 ∨ k = 24 ∨ k = 25 ∨ k = 26 ∨ k = 27 ∨ k = 28 ∨ k = 29 ∨ k = 30 ∨ k = 31 := by omega
    rcases this with rfl | rfl | rfl | rfl | rfl | rfl | rfl | rfl | rfl | rfl | rfl | rfl | rfl | rfl | rfl | rfl | rfl | rfl | rfl | rfl | rfl | rfl | rfl | rfl | rfl | rfl | rfl | rfl | rfl | rfl | rfl | rfl
    · intro o w2 hS hR hnext hall
      cases o with
      | none =>
        show wpAnyH _ _ _ _ _ 34 #[false, false, false, false, false, false, false, false, false, false, false, false, false, false, false, false, false, false, false, false, false, false, false, false, false, false, false, false, false, false, false, false, false, false] { tmps := #[.slice A n c, undef, .pointer (some ⟨w.heap.size, 0, none⟩), .slice (some ⟨w.heap.size + 1, 0, none⟩) 14 14, undef, undef, .slice (some ⟨w.heap.size + 1, 0, none⟩) 14 14, undef, undef, undef, undef, undef, undef, undef, undef, undef, undef, undef, undef, undef, undef, undef, undef, undef, undef, undef, undef, undef, undef, undef, undef, undef, undef, undef, undef, undef, undef, undef, undef, undef, undef, undef, undef, undef, undef, undef, undef, undef, undef, undef, undef, undef, undef, undef, undef, undef, undef, undef, undef, undef, undef, undef, undef, undef, undef, undef, undef, undef, undef, undef, undef, undef, undef, undef, undef, undef, undef, undef, undef, undef, undef, undef, undef, undef, undef, undef, undef, undef, undef, undef, undef, undef, undef, undef, undef, undef, undef, undef, undef, undef, undef, undef, undef, undef, undef, undef, undef, undef, undef, undef, undef, undef, undef, undef, undef], defers := [] } _
        refine takeH (i := 0) (v := .slice A n c) 7 rfl rfl (by kernel_rfl) (by kernel_rfl) (by kernel_rfl) (fun _ _ _ h => h) (by rfl) ?hy0n hS ?rest0n
        case hy0n => (intro W hW; clear hW; go_simp; first | done | with_reducible rfl)
        case rest0n => (try simp only [Act.put, List.setIfInBounds_toArray, List.set_cons_zero, List.set_cons_succ]; exact hnext.out _ hS (Below.refl _ _))
      | some g =>
        show wpAnyH _ _ _ _ _ 33 #[false, false, false, false, false, false, false, false, false, false, false, false, false, false, false, false, false, false, false, false, false, false, false, false, false, false, false, false, false, false, false, false, true, false] { tmps := #[.slice A n c, undef, .pointer (some ⟨w.heap.size, 0, none⟩), .slice (some ⟨w.heap.size + 1, 0, none⟩) 14 14, .pointer (some ⟨g, 0, none⟩), undef, .slice (some ⟨w.heap.size + 1, 0, none⟩) 14 14, undef, undef, undef, undef, undef, undef, undef, undef, undef, undef, undef, undef, undef, undef, undef, undef, undef, undef, undef, undef, undef, undef, undef, undef, undef, undef, undef, undef, undef, undef, undef, undef, undef, undef, undef, undef, undef, undef, undef, undef, undef, undef, undef, undef, undef, undef, undef, undef, undef, undef, undef, undef, undef, undef, undef, undef, undef, undef, undef, undef, undef, undef, undef, undef, undef, undef, undef, undef, undef, undef, undef, undef, undef, undef, undef, undef, undef, undef, undef, undef, undef, undef, undef, undef, undef, undef, undef, undef, undef, undef, undef, undef, undef, undef, undef, undef, undef, undef, undef, undef, undef, undef, undef, undef, undef, undef, undef, undef], defers := [] } _
        refine takeH (i := 0) (v := .slice A n c) 7 rfl rfl (by kernel_rfl) (by kernel_rfl) (by kernel_rfl) (fun _ _ _ h => h) (by rfl) ?hy0s hS ?rest0s
        case hy0s => (intro W hW; clear hW; go_simp; first | done | with_reducible rfl)
        case rest0s => (try simp only [Act.put, List.setIfInBounds_toArray, List.set_cons_zero, List.set_cons_succ]; exact hnext.out _ hS (Below.refl _ _))
    · intro o w2 hS hR hnext hall
      cases o with
      | none =>
        show wpAnyH _ _ _ _ _ 33 #[true, false, false, false, false, false, false, false, false, false, false, false, false, false, false, false, false, false, false, false, false, false, false, false, false, false, false, false, false, false, false, false, false, false] { tmps := #[.slice A n c, undef, .pointer (some ⟨w.heap.size, 0, none⟩), .slice (some ⟨w.heap.size + 1, 0, none⟩) 14 14, undef, undef, .slice (some ⟨w.heap.size + 1, 0, none⟩) 14 14, (.slice A n c), undef, undef, undef, undef, undef, undef, undef, undef, undef, undef, undef, undef, undef, undef, undef, undef, undef, undef, undef, undef, undef, undef, undef, undef, undef, undef, undef, undef, undef, undef, undef, undef, undef, undef, undef, undef, undef, undef, undef, undef, undef, undef, undef, undef, undef, undef, undef, undef, undef, undef, undef, undef, undef, undef, undef, undef, undef, undef, undef, undef, undef, undef, undef, undef, undef, undef, undef, undef, undef, undef, undef, undef, undef, undef, undef, undef, undef, undef, undef, undef, undef, undef, undef, undef, undef, undef, undef, undef, undef, undef, undef, undef, undef, undef, undef, undef, undef, undef, undef, undef, undef, undef, undef, undef, undef, undef, undef], defers := [] } _
        refine takeH (i := 3) (v := .slice A n c) 10 rfl rfl (by kernel_rfl) (by kernel_rfl) (by kernel_rfl) (fun _ _ _ h => h) (by rfl) ?hy1n hS ?rest1n
        case hy1n => (intro W hW; clear hW; go_simp; first | done | with_reducible rfl)
        case rest1n => (try simp only [Act.put, List.setIfInBounds_toArray, List.set_cons_zero, List.set_cons_succ]; exact hnext.out _ hS (Below.refl _ _))
      | some g =>
        show wpAnyH _ _ _ _ _ 32 #[true, false, false, false, false, false, false, false, false, false, false, false, false, false, false, false, false, false, false, false, false, false, false, false, false, false, false, false, false, false, false, false, true, false] { tmps := #[.slice A n c, undef, .pointer (some ⟨w.heap.size, 0, none⟩), .slice (some ⟨w.heap.size + 1, 0, none⟩) 14 14, .pointer (some ⟨g, 0, none⟩), undef, .slice (some ⟨w.heap.size + 1, 0, none⟩) 14 14, (.slice A n c), undef, undef, undef, undef, undef, undef, undef, undef, undef, undef, undef, undef, undef, undef, undef, undef, undef, undef, undef, undef, undef, undef, undef, undef, undef, undef, undef, undef, undef, undef, undef, undef, undef, undef, undef, undef, undef, undef, undef, undef, undef, undef, undef, undef, undef, undef, undef, undef, undef, undef, undef, undef, undef, undef, undef, undef, undef, undef, undef, undef, undef, undef, undef, undef, undef, undef, undef, undef, undef, undef, undef, undef, undef, undef, undef, undef, undef, undef, undef, undef, undef, undef, undef, undef, undef, undef, undef, undef, undef, undef, undef, undef, undef, undef, undef, undef, undef, undef, undef, undef, undef, undef, undef, undef, undef, undef, undef], defers := [] } _
        refine takeH (i := 3) (v := .slice A n c) 10 rfl rfl (by kernel_rfl) (by kernel_rfl) (by kernel_rfl) (fun _ _ _ h => h) (by rfl) ?hy1s hS ?rest1s
        case hy1s => (intro W hW; clear hW; go_simp; first | done | with_reducible rfl)
        case rest1s => (try simp only [Act.put, List.setIfInBounds_toArray, List.set_cons_zero, List.set_cons_succ]; exact hnext.out _ hS (Below.refl _ _))
    · intro o w2 hS hR hnext hall
      cases o with
      | none =>
        show wpAnyH _ _ _ _ _ 32 #[true, false, false, true, false, false, false, false, false, false, false, false, false, false, false, false, false, false, false, false, false, false, false, false, false, false, false, false, false, false, false, false, false, false] { tmps := #[.slice A n c, undef, .pointer (some ⟨w.heap.size, 0, none⟩), .slice (some ⟨w.heap.size + 1, 0, none⟩) 14 14, undef, undef, .slice (some ⟨w.heap.size + 1, 0, none⟩) 14 14, (.slice A n c), undef, undef, (.slice A n c), undef, undef, undef, undef, undef, undef, undef, undef, undef, undef, undef, undef, undef, undef, undef, undef, undef, undef, undef, undef, undef, undef, undef, undef, undef, undef, undef, undef, undef, undef, undef, undef, undef, undef, undef, undef, undef, undef, undef, undef, undef, undef, undef, undef, undef, undef, undef, undef, undef, undef, undef, undef, undef, undef, undef, undef, undef, undef, undef, undef, undef, undef, undef, undef, undef, undef, undef, undef, undef, undef, undef, undef, undef, undef, undef, undef, undef, undef, undef, undef, undef, undef, undef, undef, undef, undef, undef, undef, undef, undef, undef, undef, undef, undef, undef, undef, undef, undef, undef, undef, undef, undef, undef, undef], defers := [] } _
        refine takeH (i := 6) (v := .slice A n c) 13 rfl rfl (by kernel_rfl) (by kernel_rfl) (by kernel_rfl) (fun _ _ _ h => h) (by rfl) ?hy2n hS ?rest2n
        case hy2n => (intro W hW; clear hW; go_simp; first | done | with_reducible rfl)
        case rest2n => (try simp only [Act.put, List.setIfInBounds_toArray, List.set_cons_zero, List.set_cons_succ]; exact hnext.out _ hS (Below.refl _ _))
      | some g =>
        show wpAnyH _ _ _ _ _ 31 #[true, false, false, true, false, false, false, false, false, false, false, false, false, false, false, false, false, false, false, false, false, false, false, false, false, false, false, false, false, false, false, false, true, false] { tmps := #[.slice A n c, undef, .pointer (some ⟨w.heap.size, 0, none⟩), .slice (some ⟨w.heap.size + 1, 0, none⟩) 14 14, .pointer (some ⟨g, 0, none⟩), undef, .slice (some ⟨w.heap.size + 1, 0, none⟩) 14 14, (.slice A n c), undef, undef, (.slice A n c), undef, undef, undef, undef, undef, undef, undef, undef, undef, undef, undef, undef, undef, undef, undef, undef, undef, undef, undef, undef, undef, undef, undef, undef, undef, undef, undef, undef, undef, undef, undef, undef, undef, undef, undef, undef, undef, undef, undef, undef, undef, undef, undef, undef, undef, undef, undef, undef, undef, undef, undef, undef, undef, undef, undef, undef, undef, undef, undef, undef, undef, undef, undef, undef, undef, undef, undef, undef, undef, undef, undef, undef, undef, undef, undef, undef, undef, undef, undef, undef, undef, undef, undef, undef, undef, undef, undef, undef, undef, undef, undef, undef, undef, undef, undef, undef, undef, undef, undef, undef, undef, undef, undef, undef], defers := [] } _
        refine takeH (i := 6) (v := .slice A n c) 13 rfl rfl (by kernel_rfl) (by kernel_rfl) (by kernel_rfl) (fun _ _ _ h => h) (by rfl) ?hy2s hS ?rest2s
        case hy2s => (intro W hW; clear hW; go_simp; first | done | with_reducible rfl)
        case rest2s => (try simp only [Act.put, List.setIfInBounds_toArray, List.set_cons_zero, List.set_cons_succ]; exact hnext.out _ hS (Below.refl _ _))
    · intro o w2 hS hR hnext hall
      cases o with
      | none =>
        show wpAnyH _ _ _ _ _ 31 #[true, false, false, true, false, false, true, false, false, false, false, false, false, false, false, false, false, false, false, false, false, false, false, false, false, false, false, false, false, false, false, false, false, false] { tmps := #[.slice A n c, undef, .pointer (some ⟨w.heap.size, 0, none⟩), .slice (some ⟨w.heap.size + 1, 0, none⟩) 14 14, undef, undef, .slice (some ⟨w.heap.size + 1, 0, none⟩) 14 14, (.slice A n c), undef, undef, (.slice A n c), undef, undef, (.slice A n c), undef, undef, undef, undef, undef, undef, undef, undef, undef, undef, undef, undef, undef, undef, undef, undef, undef, undef, undef, undef, undef, undef, undef, undef, undef, undef, undef, undef, undef, undef, undef, undef, undef, undef, undef, undef, undef, undef, undef, undef, undef, undef, undef, undef, undef, undef, undef, undef, undef, undef, undef, undef, undef, undef, undef, undef, undef, undef, undef, undef, undef, undef, undef, undef, undef, undef, undef, undef, undef, undef, undef, undef, undef, undef, undef, undef, undef, undef, undef, undef, undef, undef, undef, undef, undef, undef, undef, undef, undef, undef, undef, undef, undef, undef, undef, undef, undef, undef, undef, undef, undef], defers := [] } _
        refine takeH (i := 9) (v := .slice A n c) 16 rfl rfl (by kernel_rfl) (by kernel_rfl) (by kernel_rfl) (fun _ _ _ h => h) (by rfl) ?hy3n hS ?rest3n
        case hy3n => (intro W hW; clear hW; go_simp; first | done | with_reducible rfl)
        case rest3n => (try simp only [Act.put, List.setIfInBounds_toArray, List.set_cons_zero, List.set_cons_succ]; exact hnext.out _ hS (Below.refl _ _))
      | some g =>
        show wpAnyH _ _ _ _ _ 30 #[true, false, false, true, false, false, true, false, false, false, false, false, false, false, false, false, false, false, false, false, false, false, false, false, false, false, false, false, false, false, false, false, true, false] { tmps := #[.slice A n c, undef, .pointer (some ⟨w.heap.size, 0, none⟩), .slice (some ⟨w.heap.size + 1, 0, none⟩) 14 14, .pointer (some ⟨g, 0, none⟩), undef, .slice (some ⟨w.heap.size + 1, 0, none⟩) 14 14, (.slice A n c), undef, undef, (.slice A n c), undef, undef, (.slice A n c), undef, undef, undef, undef, undef, undef, undef, undef, undef, undef, undef, undef, undef, undef, undef, undef, undef, undef, undef, undef, undef, undef, undef, undef, undef, undef, undef, undef, undef, undef, undef, undef, undef, undef, undef, undef, undef, undef, undef, undef, undef, undef, undef, undef, undef, undef, undef, undef, undef, undef, undef, undef, undef, undef, undef, undef, undef, undef, undef, undef, undef, undef, undef, undef, undef, undef, undef, undef, undef, undef, undef, undef, undef, undef, undef, undef, undef, undef, undef, undef, undef, undef, undef, undef, undef, undef, undef, undef, undef, undef, undef, undef, undef, undef, undef, undef, undef, undef, undef, undef, undef], defers := [] } _
        refine takeH (i := 9) (v := .slice A n c) 16 rfl rfl (by kernel_rfl) (by kernel_rfl) (by kernel_rfl) (fun _ _ _ h => h) (by rfl) ?hy3s hS ?rest3s
        case hy3s => (intro W hW; clear hW; go_simp; first | done | with_reducible rfl)
        case rest3s => (try simp only [Act.put, List.setIfInBounds_toArray, List.set_cons_zero, List.set_cons_succ]; exact hnext.out _ hS (Below.refl _ _))
    · intro o w2 hS hR hnext hall
      cases o with
      | none =>
        show wpAnyH _ _ _ _ _ 30 #[true, false, false, true, false, false, true, false, false, true, false, false, false, false, false, false, false, false, false, false, false, false, false, false, false, false, false, false, false, false, false, false, false, false] { tmps := #[.slice A n c, undef, .pointer (some ⟨w.heap.size, 0, none⟩), .slice (some ⟨w.heap.size + 1, 0, none⟩) 14 14, undef, undef, .slice (some ⟨w.heap.size + 1, 0, none⟩) 14 14, (.slice A n c), undef, undef, (.slice A n c), undef, undef, (.slice A n c), undef, undef, (.slice A n c), undef, undef, undef, undef, undef, undef, undef, undef, undef, undef, undef, undef, undef, undef, undef, undef, undef, undef, undef, undef, undef, undef, undef, undef, undef, undef, undef, undef, undef, undef, undef, undef, undef, undef, undef, undef, undef, undef, undef, undef, undef, undef, undef, undef, undef, undef, undef, undef, undef, undef, undef, undef, undef, undef, undef, undef, undef, undef, undef, undef, undef, undef, undef, undef, undef, undef, undef, undef, undef, undef, undef, undef, undef, undef, undef, undef, undef, undef, undef, undef, undef, undef, undef, undef, undef, undef, undef, undef, undef, undef, undef, undef, undef, undef, undef, undef, undef, undef], defers := [] } _
        refine takeH (i := 12) (v := .slice A n c) 19 rfl rfl (by kernel_rfl) (by kernel_rfl) (by kernel_rfl) (fun _ _ _ h => h) (by rfl) ?hy4n hS ?rest4n
        case hy4n => (intro W hW; clear hW; go_simp; first | done | with_reducible rfl)
        case rest4n => (try simp only [Act.put, List.setIfInBounds_toArray, List.set_cons_zero, List.set_cons_succ]; exact hnext.out _ hS (Below.refl _ _))
      | some g =>
        show wpAnyH _ _ _ _ _ 29 #[true, false, false, true, false, false, true, false, false, true, false, false, false, false, false, false, false, false, false, false, false, false, false, false, false, false, false, false, false, false, false, false, true, false] { tmps := #[.slice A n c, undef, .pointer (some ⟨w.heap.size, 0, none⟩), .slice (some ⟨w.heap.size + 1, 0, none⟩) 14 14, .pointer (some ⟨g, 0, none⟩), undef, .slice (some ⟨w.heap.size + 1, 0, none⟩) 14 14, (.slice A n c), undef, undef, (.slice A n c), undef, undef, (.slice A n c), undef, undef, (.slice A n c), undef, undef, undef, undef, undef, undef, undef, undef, undef, undef, undef, undef, undef, undef, undef, undef, undef, undef, undef, undef, undef, undef, undef, undef, undef, undef, undef, undef, undef, undef, undef, undef, undef, undef, undef, undef, undef, undef, undef, undef, undef, undef, undef, undef, undef, undef, undef, undef, undef, undef, undef, undef, undef, undef, undef, undef, undef, undef, undef, undef, undef, undef, undef, undef, undef, undef, undef, undef, undef, undef, undef, undef, undef, undef, undef, undef, undef, undef, undef, undef, undef, undef, undef, undef, undef, undef, undef, undef, undef, undef, undef, undef, undef, undef, undef, undef, undef, undef], defers := [] } _
        refine takeH (i := 12) (v := .slice A n c) 19 rfl rfl (by kernel_rfl) (by kernel_rfl) (by kernel_rfl) (fun _ _ _ h => h) (by rfl) ?hy4s hS ?rest4s
        case hy4s => (intro W hW; clear hW; go_simp; first | done | with_reducible rfl)
        case rest4s => (try simp only [Act.put, List.setIfInBounds_toArray, List.set_cons_zero, List.set_cons_succ]; exact hnext.out _ hS (Below.refl _ _))
    · intro o w2 hS hR hnext hall
      cases o with
      | none =>
        show wpAnyH _ _ _ _ _ 29 #[true, false, false, true, false, false, true, false, false, true, false, false, true, false, false, false, false, false, false, false, false, false, false, false, false, false, false, false, false, false, false, false, false, false] { tmps := #[.slice A n c, undef, .pointer (some ⟨w.heap.size, 0, none⟩), .slice (some ⟨w.heap.size + 1, 0, none⟩) 14 14, undef, undef, .slice (some ⟨w.heap.size + 1, 0, none⟩) 14 14, (.slice A n c), undef, undef, (.slice A n c), undef, undef, (.slice A n c), undef, undef, (.slice A n c), undef, undef, (.slice A n c), undef, undef, undef, undef, undef, undef, undef, undef, undef, undef, undef, undef, undef, undef, undef, undef, undef, undef, undef, undef, undef, undef, undef, undef, undef, undef, undef, undef, undef, undef, undef, undef, undef, undef, undef, undef, undef, undef, undef, undef, undef, undef, undef, undef, undef, undef, undef, undef, undef, undef, undef, undef, undef, undef, undef, undef, undef, undef, undef, undef, undef, undef, undef, undef, undef, undef, undef, undef, undef, undef, undef, undef, undef, undef, undef, undef, undef, undef, undef, undef, undef, undef, undef, undef, undef, undef, undef, undef, undef, undef, undef, undef, undef, undef, undef], defers := [] } _
        refine takeH (i := 15) (v := .slice A n c) 22 rfl rfl (by kernel_rfl) (by kernel_rfl) (by kernel_rfl) (fun _ _ _ h => h) (by rfl) ?hy5n hS ?rest5n
        case hy5n => (intro W hW; clear hW; go_simp; first | done | with_reducible rfl)
        case rest5n => (try simp only [Act.put, List.setIfInBounds_toArray, List.set_cons_zero, List.set_cons_succ]; exact hnext.out _ hS (Below.refl _ _))
      | some g =>
        show wpAnyH _ _ _ _ _ 28 #[true, false, false, true, false, false, true, false, false, true, false, false, true, false, false, false, false, false, false, false, false, false, false, false, false, false, false, false, false, false, false, false, true, false] { tmps := #[.slice A n c, undef, .pointer (some ⟨w.heap.size, 0, none⟩), .slice (some ⟨w.heap.size + 1, 0, none⟩) 14 14, .pointer (some ⟨g, 0, none⟩), undef, .slice (some ⟨w.heap.size + 1, 0, none⟩) 14 14, (.slice A n c), undef, undef, (.slice A n c), undef, undef, (.slice A n c), undef, undef, (.slice A n c), undef, undef, (.slice A n c), undef, undef, undef, undef, undef, undef, undef, undef, undef, undef, undef, undef, undef, undef, undef, undef, undef, undef, undef, undef, undef, undef, undef, undef, undef, undef, undef, undef, undef, undef, undef, undef, undef, undef, undef, undef, undef, undef, undef, undef, undef, undef, undef, undef, undef, undef, undef, undef, undef, undef, undef, undef, undef, undef, undef, undef, undef, undef, undef, undef, undef, undef, undef, undef, undef, undef, undef, undef, undef, undef, undef, undef, undef, undef, undef, undef, undef, undef, undef, undef, undef, undef, undef, undef, undef, undef, undef, undef, undef, undef, undef, undef, undef, undef, undef], defers := [] } _
        refine takeH (i := 15) (v := .slice A n c) 22 rfl rfl (by kernel_rfl) (by kernel_rfl) (by kernel_rfl) (fun _ _ _ h => h) (by rfl) ?hy5s hS ?rest5s
        case hy5s => (intro W hW; clear hW; go_simp; first | done | with_reducible rfl)
        case rest5s => (try simp only [Act.put, List.setIfInBounds_toArray, List.set_cons_zero, List.set_cons_succ]; exact hnext.out _ hS (Below.refl _ _))
    · intro o w2 hS hR hnext hall
      cases o with
      | none =>
        show wpAnyH _ _ _ _ _ 28 #[true, false, false, true, false, false, true, false, false, true, false, false, true, false, false, true, false, false, false, false, false, false, false, false, false, false, false, false, false, false, false, false, false, false] { tmps := #[.slice A n c, undef, .pointer (some ⟨w.heap.size, 0, none⟩), .slice (some ⟨w.heap.size + 1, 0, none⟩) 14 14, undef, undef, .slice (some ⟨w.heap.size + 1, 0, none⟩) 14 14, (.slice A n c), undef, undef, (.slice A n c), undef, undef, (.slice A n c), undef, undef, (.slice A n c), undef, undef, (.slice A n c), undef, undef, (.slice A n c), undef, undef, undef, undef, undef, undef, undef, undef, undef, undef, undef, undef, undef, undef, undef, undef, undef, undef, undef, undef, undef, undef, undef, undef, undef, undef, undef, undef, undef, undef, undef, undef, undef, undef, undef, undef, undef, undef, undef, undef, undef, undef, undef, undef, undef, undef, undef, undef, undef, undef, undef, undef, undef, undef, undef, undef, undef, undef, undef, undef, undef, undef, undef, undef, undef, undef, undef, undef, undef, undef, undef, undef, undef, undef, undef, undef, undef, undef, undef, undef, undef, undef, undef, undef, undef, undef, undef, undef, undef, undef, undef, undef], defers := [] } _
        refine takeH (i := 18) (v := .slice (some ⟨w.heap.size + 1, 0, none⟩) 14 14) 25 rfl rfl (by kernel_rfl) (by kernel_rfl) (by kernel_rfl) (fun _ _ _ h => h) (by rfl) ?hy6n hS ?rest6n
        case hy6n => (intro W hW; clear hW; go_simp; first | done | with_reducible rfl)
        case rest6n => (try simp only [Act.put, List.setIfInBounds_toArray, List.set_cons_zero, List.set_cons_succ]; exact hnext.out _ hS (Below.refl _ _))
      | some g =>
        show wpAnyH _ _ _ _ _ 27 #[true, false, false, true, false, false, true, false, false, true, false, false, true, false, false, true, false, false, false, false, false, false, false, false, false, false, false, false, false, false, false, false, true, false] { tmps := #[.slice A n c, undef, .pointer (some ⟨w.heap.size, 0, none⟩), .slice (some ⟨w.heap.size + 1, 0, none⟩) 14 14, .pointer (some ⟨g, 0, none⟩), undef, .slice (some ⟨w.heap.size + 1, 0, none⟩) 14 14, (.slice A n c), undef, undef, (.slice A n c), undef, undef, (.slice A n c), undef, undef, (.slice A n c), undef, undef, (.slice A n c), undef, undef, (.slice A n c), undef, undef, undef, undef, undef, undef, undef, undef, undef, undef, undef, undef, undef, undef, undef, undef, undef, undef, undef, undef, undef, undef, undef, undef, undef, undef, undef, undef, undef, undef, undef, undef, undef, undef, undef, undef, undef, undef, undef, undef, undef, undef, undef, undef, undef, undef, undef, undef, undef, undef, undef, undef, undef, undef, undef, undef, undef, undef, undef, undef, undef, undef, undef, undef, undef, undef, undef, undef, undef, undef, undef, undef, undef, undef, undef, undef, undef, undef, undef, undef, undef, undef, undef, undef, undef, undef, undef, undef, undef, undef, undef, undef], defers := [] } _
        refine takeH (i := 18) (v := .slice (some ⟨w.heap.size + 1, 0, none⟩) 14 14) 25 rfl rfl (by kernel_rfl) (by kernel_rfl) (by kernel_rfl) (fun _ _ _ h => h) (by rfl) ?hy6s hS ?rest6s
        case hy6s => (intro W hW; clear hW; go_simp; first | done | with_reducible rfl)
        case rest6s => (try simp only [Act.put, List.setIfInBounds_toArray, List.set_cons_zero, List.set_cons_succ]; exact hnext.out _ hS (Below.refl _ _))
    · intro o w2 hS hR hnext hall
      cases o with
      | none =>
        show wpAnyH _ _ _ _ _ 27 #[true, false, false, true, false, false, true, false, false, true, false, false, true, false, false, true, false, false, true, false, false, false, false, false, false, false, false, false, false, false, false, false, false, false] { tmps := #[.slice A n c, undef, .pointer (some ⟨w.heap.size, 0, none⟩), .slice (some ⟨w.heap.size + 1, 0, none⟩) 14 14, undef, undef, .slice (some ⟨w.heap.size + 1, 0, none⟩) 14 14, (.slice A n c), undef, undef, (.slice A n c), undef, undef, (.slice A n c), undef, undef, (.slice A n c), undef, undef, (.slice A n c), undef, undef, (.slice A n c), undef, undef, (.slice (some ⟨w.heap.size + 1, 0, none⟩) 14 14), undef, undef, undef, undef, undef, undef, undef, undef, undef, undef, undef, undef, undef, undef, undef, undef, undef, undef, undef, undef, undef, undef, undef, undef, undef, undef, undef, undef, undef, undef, undef, undef, undef, undef, undef, undef, undef, undef, undef, undef, undef, undef, undef, undef, undef, undef, undef, undef, undef, undef, undef, undef, undef, undef, undef, undef, undef, undef, undef, undef, undef, undef, undef, undef, undef, undef, undef, undef, undef, undef, undef, undef, undef, undef, undef, undef, undef, undef, undef, undef, undef, undef, undef, undef, undef, undef, undef, undef, undef], defers := [] } _
        refine takeH (i := 19) (v := .slice A n c) 26 rfl rfl (by kernel_rfl) (by kernel_rfl) (by kernel_rfl) (fun _ _ _ h => h) (by rfl) ?hy7n hS ?rest7n
        case hy7n => (intro W hW; clear hW; go_simp; first | done | with_reducible rfl)
        case rest7n => (try simp only [Act.put, List.setIfInBounds_toArray, List.set_cons_zero, List.set_cons_succ]; exact hnext.out _ hS (Below.refl _ _))
      | some g =>
        show wpAnyH _ _ _ _ _ 26 #[true, false, false, true, false, false, true, false, false, true, false, false, true, false, false, true, false, false, true, false, false, false, false, false, false, false, false, false, false, false, false, false, true, false] { tmps := #[.slice A n c, undef, .pointer (some ⟨w.heap.size, 0, none⟩), .slice (some ⟨w.heap.size + 1, 0, none⟩) 14 14, .pointer (some ⟨g, 0, none⟩), undef, .slice (some ⟨w.heap.size + 1, 0, none⟩) 14 14, (.slice A n c), undef, undef, (.slice A n c), undef, undef, (.slice A n c), undef, undef, (.slice A n c), undef, undef, (.slice A n c), undef, undef, (.slice A n c), undef, undef, (.slice (some ⟨w.heap.size + 1, 0, none⟩) 14 14), undef, undef, undef, undef, undef, undef, undef, undef, undef, undef, undef, undef, undef, undef, undef, undef, undef, undef, undef, undef, undef, undef, undef, undef, undef, undef, undef, undef, undef, undef, undef, undef, undef, undef, undef, undef, undef, undef, undef, undef, undef, undef, undef, undef, undef, undef, undef, undef, undef, undef, undef, undef, undef, undef, undef, undef, undef, undef, undef, undef, undef, undef, undef, undef, undef, undef, undef, undef, undef, undef, undef, undef, undef, undef, undef, undef, undef, undef, undef, undef, undef, undef, undef, undef, undef, undef, undef, undef, undef], defers := [] } _
        refine takeH (i := 19) (v := .slice A n c) 26 rfl rfl (by kernel_rfl) (by kernel_rfl) (by kernel_rfl) (fun _ _ _ h => h) (by rfl) ?hy7s hS ?rest7s
        case hy7s => (intro W hW; clear hW; go_simp; first | done | with_reducible rfl)
        case rest7s => (try simp only [Act.put, List.setIfInBounds_toArray, List.set_cons_zero, List.set_cons_succ]; exact hnext.out _ hS (Below.refl _ _))
    · intro o w2 hS hR hnext hall
      cases o with
      | none =>
        show wpAnyH _ _ _ _ _ 26 #[true, false, false, true, false, false, true, false, false, true, false, false, true, false, false, true, false, false, true, true, false, false, false, false, false, false, false, false, false, false, false, false, false, false] { tmps := #[.slice A n c, undef, .pointer (some ⟨w.heap.size, 0, none⟩), .slice (some ⟨w.heap.size + 1, 0, none⟩) 14 14, undef, undef, .slice (some ⟨w.heap.size + 1, 0, none⟩) 14 14, (.slice A n c), undef, undef, (.slice A n c), undef, undef, (.slice A n c), undef, undef, (.slice A n c), undef, undef, (.slice A n c), undef, undef, (.slice A n c), undef, undef, (.slice (some ⟨w.heap.size + 1, 0, none⟩) 14 14), (.slice A n c), undef, undef, undef, undef, undef, undef, undef, undef, undef, undef, undef, undef, undef, undef, undef, undef, undef, undef, undef, undef, undef, undef, undef, undef, undef, undef, undef, undef, undef, undef, undef, undef, undef, undef, undef, undef, undef, undef, undef, undef, undef, undef, undef, undef, undef, undef, undef, undef, undef, undef, undef, undef, undef, undef, undef, undef, undef, undef, undef, undef, undef, undef, undef, undef, undef, undef, undef, undef, undef, undef, undef, undef, undef, undef, undef, undef, undef, undef, undef, undef, undef, undef, undef, undef, undef, undef, undef, undef], defers := [] } _
        refine takeH (i := 24) (v := .slice A n c) 31 rfl rfl (by kernel_rfl) (by kernel_rfl) (by kernel_rfl) (fun _ _ _ h => h) (by rfl) ?hy8n hS ?rest8n
        case hy8n => (intro W hW; clear hW; go_simp; first | done | with_reducible rfl)
        case rest8n => (try simp only [Act.put, List.setIfInBounds_toArray, List.set_cons_zero, List.set_cons_succ]; exact hnext.out _ hS (Below.refl _ _))
      | some g =>
        show wpAnyH _ _ _ _ _ 25 #[true, false, false, true, false, false, true, false, false, true, false, false, true, false, false, true, false, false, true, true, false, false, false, false, false, false, false, false, false, false, false, false, true, false] { tmps := #[.slice A n c, undef, .pointer (some ⟨w.heap.size, 0, none⟩), .slice (some ⟨w.heap.size + 1, 0, none⟩) 14 14, .pointer (some ⟨g, 0, none⟩), undef, .slice (some ⟨w.heap.size + 1, 0, none⟩) 14 14, (.slice A n c), undef, undef, (.slice A n c), undef, undef, (.slice A n c), undef, undef, (.slice A n c), undef, undef, (.slice A n c), undef, undef, (.slice A n c), undef, undef, (.slice (some ⟨w.heap.size + 1, 0, none⟩) 14 14), (.slice A n c), undef, undef, undef, undef, undef, undef, undef, undef, undef, undef, undef, undef, undef, undef, undef, undef, undef, undef, undef, undef, undef, undef, undef, undef, undef, undef, undef, undef, undef, undef, undef, undef, undef, undef, undef, undef, undef, undef, undef, undef, undef, undef, undef, undef, undef, undef, undef, undef, undef, undef, undef, undef, undef, undef, undef, undef, undef, undef, undef, undef, undef, undef, undef, undef, undef, undef, undef, undef, undef, undef, undef, undef, undef, undef, undef, undef, undef, undef, undef, undef, undef, undef, undef, undef, undef, undef, undef, undef], defers := [] } _
        refine takeH (i := 24) (v := .slice A n c) 31 rfl rfl (by kernel_rfl) (by kernel_rfl) (by kernel_rfl) (fun _ _ _ h => h) (by rfl) ?hy8s hS ?rest8s
        case hy8s => (intro W hW; clear hW; go_simp; first | done | with_reducible rfl)
        case rest8s => (try simp only [Act.put, List.setIfInBounds_toArray, List.set_cons_zero, List.set_cons_succ]; exact hnext.out _ hS (Below.refl _ _))
    · intro o w2 hS hR hnext hall
      cases o with
      | none =>
        show wpAnyH _ _ _ _ _ 25 #[true, false, false, true, false, false, true, false, false, true, false, false, true, false, false, true, false, false, true, true, false, false, false, false, true, false, false, false, false, false, false, false, false, false] { tmps := #[.slice A n c, undef, .pointer (some ⟨w.heap.size, 0, none⟩), .slice (some ⟨w.heap.size + 1, 0, none⟩) 14 14, undef, undef, .slice (some ⟨w.heap.size + 1, 0, none⟩) 14 14, (.slice A n c), undef, undef, (.slice A n c), undef, undef, (.slice A n c), undef, undef, (.slice A n c), undef, undef, (.slice A n c), undef, undef, (.slice A n c), undef, undef, (.slice (some ⟨w.heap.size + 1, 0, none⟩) 14 14), (.slice A n c), undef, undef, undef, undef, (.slice A n c), undef, undef, undef, undef, undef, undef, undef, undef, undef, undef, undef, undef, undef, undef, undef, undef, undef, undef, undef, undef, undef, undef, undef, undef, undef, undef, undef, undef, undef, undef, undef, undef, undef, undef, undef, undef, undef, undef, undef, undef, undef, undef, undef, undef, undef, undef, undef, undef, undef, undef, undef, undef, undef, undef, undef, undef, undef, undef, undef, undef, undef, undef, undef, undef, undef, undef, undef, undef, undef, undef, undef, undef, undef, undef, undef, undef, undef, undef, undef, undef, undef, undef, undef], defers := [] } _
        refine takeH (i := 27) (v := .slice A n c) 34 rfl rfl (by kernel_rfl) (by kernel_rfl) (by kernel_rfl) (fun _ _ _ h => h) (by rfl) ?hy9n hS ?rest9n
        case hy9n => (intro W hW; clear hW; go_simp; first | done | with_reducible rfl)
        case rest9n => (try simp only [Act.put, List.setIfInBounds_toArray, List.set_cons_zero, List.set_cons_succ]; exact hnext.out _ hS (Below.refl _ _))
      | some g =>
        show wpAnyH _ _ _ _ _ 24 #[true, false, false, true, false, false, true, false, false, true, false, false, true, false, false, true, false, false, true, true, false, false, false, false, true, false, false, false, false, false, false, false, true, false] { tmps := #[.slice A n c, undef, .pointer (some ⟨w.heap.size, 0, none⟩), .slice (some ⟨w.heap.size + 1, 0, none⟩) 14 14, .pointer (some ⟨g, 0, none⟩), undef, .slice (some ⟨w.heap.size + 1, 0, none⟩) 14 14, (.slice A n c), undef, undef, (.slice A n c), undef, undef, (.slice A n c), undef, undef, (.slice A n c), undef, undef, (.slice A n c), undef, undef, (.slice A n c), undef, undef, (.slice (some ⟨w.heap.size + 1, 0, none⟩) 14 14), (.slice A n c), undef, undef, undef, undef, (.slice A n c), undef, undef, undef, undef, undef, undef, undef, undef, undef, undef, undef, undef, undef, undef, undef, undef, undef, undef, undef, undef, undef, undef, undef, undef, undef, undef, undef, undef, undef, undef, undef, undef, undef, undef, undef, undef, undef, undef, undef, undef, undef, undef, undef, undef, undef, undef, undef, undef, undef, undef, undef, undef, undef, undef, undef, undef, undef, undef, undef, undef, undef, undef, undef, undef, undef, undef, undef, undef, undef, undef, undef, undef, undef, undef, undef, undef, undef, undef, undef, undef, undef, undef, undef], defers := [] } _
        refine takeH (i := 27) (v := .slice A n c) 34 rfl rfl (by kernel_rfl) (by kernel_rfl) (by kernel_rfl) (fun _ _ _ h => h) (by rfl) ?hy9s hS ?rest9s
        case hy9s => (intro W hW; clear hW; go_simp; first | done | with_reducible rfl)
        case rest9s => (try simp only [Act.put, List.setIfInBounds_toArray, List.set_cons_zero, List.set_cons_succ]; exact hnext.out _ hS (Below.refl _ _))
    · intro o w2 hS hR hnext hall
      cases o with
      | none =>
        show wpAnyH _ _ _ _ _ 24 #[true, false, false, true, false, false, true, false, false, true, false, false, true, false, false, true, false, false, true, true, false, false, false, false, true, false, false, true, false, false, false, false, false, false] { tmps := #[.slice A n c, undef, .pointer (some ⟨w.heap.size, 0, none⟩), .slice (some ⟨w.heap.size + 1, 0, none⟩) 14 14, undef, undef, .slice (some ⟨w.heap.size + 1, 0, none⟩) 14 14, (.slice A n c), undef, undef, (.slice A n c), undef, undef, (.slice A n c), undef, undef, (.slice A n c), undef, undef, (.slice A n c), undef, undef, (.slice A n c), undef, undef, (.slice (some ⟨w.heap.size + 1, 0, none⟩) 14 14), (.slice A n c), undef, undef, undef, undef, (.slice A n c), undef, undef, (.slice A n c), undef, undef, undef, undef, undef, undef, undef, undef, undef, undef, undef, undef, undef, undef, undef, undef, undef, undef, undef, undef, undef, undef, undef, undef, undef, undef, undef, undef, undef, undef, undef, undef, undef, undef, undef, undef, undef, undef, undef, undef, undef, undef, undef, undef, undef, undef, undef, undef, undef, undef, undef, undef, undef, undef, undef, undef, undef, undef, undef, undef, undef, undef, undef, undef, undef, undef, undef, undef, undef, undef, undef, undef, undef, undef, undef, undef, undef, undef, undef, undef], defers := [] } _
        refine twoH (i := 1) (j := 32) 8 4 rfl rfl rfl rfl (by kernel_rfl) (by rfl) (by rfl) (fun K hK => ?_) (fun K hK => ?_)
        · go_simp
          (with_reducible refine (G0.out _ (HS.out _ hS)).mono ?_)
          rintro e w4 ⟨rfl, rfl⟩
          exact hK.out _ _ hS (fun hS => by try simp only [Act.put, List.setIfInBounds_toArray, List.set_cons_zero, List.set_cons_succ]; exact hnext.out _ hS (Below.refl _ _))
        · go_simp
          exact hK.out _ _ (hS.alloc (HLE.out _ hS) _) (fun hS' => by try simp only [Act.put, List.setIfInBounds_toArray, List.set_cons_zero, List.set_cons_succ]; exact hall.out rfl _ _ hS' ⟨HB.new _ {} (.slice none 0 0), HLE.out _ hS⟩)
      | some g =>
        show wpAnyH _ _ _ _ _ 23 #[true, false, false, true, false, false, true, false, false, true, false, false, true, false, false, true, false, false, true, true, false, false, false, false, true, false, false, true, false, false, false, false, true, false] { tmps := #[.slice A n c, undef, .pointer (some ⟨w.heap.size, 0, none⟩), .slice (some ⟨w.heap.size + 1, 0, none⟩) 14 14, .pointer (some ⟨g, 0, none⟩), undef, .slice (some ⟨w.heap.size + 1, 0, none⟩) 14 14, (.slice A n c), undef, undef, (.slice A n c), undef, undef, (.slice A n c), undef, undef, (.slice A n c), undef, undef, (.slice A n c), undef, undef, (.slice A n c), undef, undef, (.slice (some ⟨w.heap.size + 1, 0, none⟩) 14 14), (.slice A n c), undef, undef, undef, undef, (.slice A n c), undef, undef, (.slice A n c), undef, undef, undef, undef, undef, undef, undef, undef, undef, undef, undef, undef, undef, undef, undef, undef, undef, undef, undef, undef, undef, undef, undef, undef, undef, undef, undef, undef, undef, undef, undef, undef, undef, undef, undef, undef, undef, undef, undef, undef, undef, undef, undef, undef, undef, undef, undef, undef, undef, undef, undef, undef, undef, undef, undef, undef, undef, undef, undef, undef, undef, undef, undef, undef, undef, undef, undef, undef, undef, undef, undef, undef, undef, undef, undef, undef, undef, undef, undef, undef], defers := [] } _
        refine loneH (i := 1) 8 rfl rfl (by kernel_rfl) (by rfl) (fun K hK => ?_)
        go_simp
        (with_reducible refine (G0.out _ (HS.out _ hS)).mono ?_)
        rintro e w4 ⟨rfl, rfl⟩
        exact hK.out _ _ hS (fun hS => by try simp only [Act.put, List.setIfInBounds_toArray, List.set_cons_zero, List.set_cons_succ]; exact hnext.out _ hS (Below.refl _ _))
    · intro o w2 hS hR hnext hall
      cases o with
      | none =>
        show wpAnyH _ _ _ _ _ 23 #[true, true, false, true, false, false, true, false, false, true, false, false, true, false, false, true, false, false, true, true, false, false, false, false, true, false, false, true, false, false, false, false, false, false] { tmps := #[.slice A n c, undef, .pointer (some ⟨w.heap.size, 0, none⟩), .slice (some ⟨w.heap.size + 1, 0, none⟩) 14 14, undef, undef, .slice (some ⟨w.heap.size + 1, 0, none⟩) 14 14, (.slice A n c), (.int .u8 x0), undef, (.slice A n c), undef, undef, (.slice A n c), undef, undef, (.slice A n c), undef, undef, (.slice A n c), undef, undef, (.slice A n c), undef, undef, (.slice (some ⟨w.heap.size + 1, 0, none⟩) 14 14), (.slice A n c), undef, undef, undef, undef, (.slice A n c), undef, undef, (.slice A n c), undef, undef, undef, undef, undef, undef, undef, undef, undef, undef, undef, undef, undef, undef, undef, undef, undef, undef, undef, undef, undef, undef, undef, undef, undef, undef, undef, undef, undef, undef, undef, undef, undef, undef, undef, undef, undef, undef, undef, undef, undef, undef, undef, undef, undef, undef, undef, undef, undef, undef, undef, undef, undef, undef, undef, undef, undef, undef, undef, undef, undef, undef, undef, undef, undef, undef, undef, undef, undef, undef, undef, undef, undef, undef, undef, undef, undef, undef, undef, undef], defers := [] } _
        refine twoH (i := 2) (j := 32) 9 4 rfl rfl rfl rfl (by kernel_rfl) (by rfl) (by rfl) (fun K hK => ?_) (fun K hK => ?_)
        · go_simp
          (with_reducible refine (N0.out _).mono ?_)
          rintro e w4 ⟨rfl, b4⟩
          exact hK.out _ _ (hS.trans (b4.mono (HLE.out _ hS))) (fun hS => by try simp only [Act.put, List.setIfInBounds_toArray, List.set_cons_zero, List.set_cons_succ]; exact hnext.out _ hS b4)
        · go_simp
          exact hK.out _ _ (hS.alloc (HLE.out _ hS) _) (fun hS' => by try simp only [Act.put, List.setIfInBounds_toArray, List.set_cons_zero, List.set_cons_succ]; exact hall.out rfl _ _ hS' ⟨HB.new _ {} (.slice none 0 0), HLE.out _ hS⟩)
      | some g =>
        show wpAnyH _ _ _ _ _ 22 #[true, true, false, true, false, false, true, false, false, true, false, false, true, false, false, true, false, false, true, true, false, false, false, false, true, false, false, true, false, false, false, false, true, false] { tmps := #[.slice A n c, undef, .pointer (some ⟨w.heap.size, 0, none⟩), .slice (some ⟨w.heap.size + 1, 0, none⟩) 14 14, .pointer (some ⟨g, 0, none⟩), undef, .slice (some ⟨w.heap.size + 1, 0, none⟩) 14 14, (.slice A n c), (.int .u8 x0), undef, (.slice A n c), undef, undef, (.slice A n c), undef, undef, (.slice A n c), undef, undef, (.slice A n c), undef, undef, (.slice A n c), undef, undef, (.slice (some ⟨w.heap.size + 1, 0, none⟩) 14 14), (.slice A n c), undef, undef, undef, undef, (.slice A n c), undef, undef, (.slice A n c), undef, undef, undef, undef, undef, undef, undef, undef, undef, undef, undef, undef, undef, undef, undef, undef, undef, undef, undef, undef, undef, undef, undef, undef, undef, undef, undef, undef, undef, undef, undef, undef, undef, undef, undef, undef, undef, undef, undef, undef, undef, undef, undef, undef, undef, undef, undef, undef, undef, undef, undef, undef, undef, undef, undef, undef, undef, undef, undef, undef, undef, undef, undef, undef, undef, undef, undef, undef, undef, undef, undef, undef, undef, undef, undef, undef, undef, undef, undef, undef], defers := [] } _
        refine loneH (i := 2) 9 rfl rfl (by kernel_rfl) (by rfl) (fun K hK => ?_)
        go_simp
        (with_reducible refine (N0.out _).mono ?_)
        rintro e w4 ⟨rfl, b4⟩
        exact hK.out _ _ (hS.trans (b4.mono (HLE.out _ hS))) (fun hS => by try simp only [Act.put, List.setIfInBounds_toArray, List.set_cons_zero, List.set_cons_succ]; exact hnext.out _ hS b4)
    · intro o w2 hS hR hnext hall
      cases o with
      | none =>
        show wpAnyH _ _ _ _ _ 22 #[true, true, true, true, false, false, true, false, false, true, false, false, true, false, false, true, false, false, true, true, false, false, false, false, true, false, false, true, false, false, false, false, false, false] { tmps := #[.slice A n c, undef, .pointer (some ⟨w.heap.size, 0, none⟩), .slice (some ⟨w.heap.size + 1, 0, none⟩) 14 14, undef, undef, .slice (some ⟨w.heap.size + 1, 0, none⟩) 14 14, (.slice A n c), (.int .u8 x0), (.string s0), (.slice A n c), undef, undef, (.slice A n c), undef, undef, (.slice A n c), undef, undef, (.slice A n c), undef, undef, (.slice A n c), undef, undef, (.slice (some ⟨w.heap.size + 1, 0, none⟩) 14 14), (.slice A n c), undef, undef, undef, undef, (.slice A n c), undef, undef, (.slice A n c), undef, undef, undef, undef, undef, undef, undef, undef, undef, undef, undef, undef, undef, undef, undef, undef, undef, undef, undef, undef, undef, undef, undef, undef, undef, undef, undef, undef, undef, undef, undef, undef, undef, undef, undef, undef, undef, undef, undef, undef, undef, undef, undef, undef, undef, undef, undef, undef, undef, undef, undef, undef, undef, undef, undef, undef, undef, undef, undef, undef, undef, undef, undef, undef, undef, undef, undef, undef, undef, undef, undef, undef, undef, undef, undef, undef, undef, undef, undef, undef], defers := [] } _
        refine twoH (i := 4) (j := 32) 11 4 rfl rfl rfl rfl (by kernel_rfl) (by rfl) (by rfl) (fun K hK => ?_) (fun K hK => ?_)
        · go_simp
          (with_reducible refine (G1.out _ (HS.out _ hS)).mono ?_)
          rintro e w4 ⟨rfl, rfl⟩
          exact hK.out _ _ hS (fun hS => by try simp only [Act.put, List.setIfInBounds_toArray, List.set_cons_zero, List.set_cons_succ]; exact hnext.out _ hS (Below.refl _ _))
        · go_simp
          exact hK.out _ _ (hS.alloc (HLE.out _ hS) _) (fun hS' => by try simp only [Act.put, List.setIfInBounds_toArray, List.set_cons_zero, List.set_cons_succ]; exact hall.out rfl _ _ hS' ⟨HB.new _ {} (.slice none 0 0), HLE.out _ hS⟩)
      | some g =>
        show wpAnyH _ _ _ _ _ 21 #[true, true, true, true, false, false, true, false, false, true, false, false, true, false, false, true, false, false, true, true, false, false, false, false, true, false, false, true, false, false, false, false, true, false] { tmps := #[.slice A n c, undef, .pointer (some ⟨w.heap.size, 0, none⟩), .slice (some ⟨w.heap.size + 1, 0, none⟩) 14 14, .pointer (some ⟨g, 0, none⟩), undef, .slice (some ⟨w.heap.size + 1, 0, none⟩) 14 14, (.slice A n c), (.int .u8 x0), (.string s0), (.slice A n c), undef, undef, (.slice A n c), undef, undef, (.slice A n c), undef, undef, (.slice A n c), undef, undef, (.slice A n c), undef, undef, (.slice (some ⟨w.heap.size + 1, 0, none⟩) 14 14), (.slice A n c), undef, undef, undef, undef, (.slice A n c), undef, undef, (.slice A n c), undef, undef, undef, undef, undef, undef, undef, undef, undef, undef, undef, undef, undef, undef, undef, undef, undef, undef, undef, undef, undef, undef, undef, undef, undef, undef, undef, undef, undef, undef, undef, undef, undef, undef, undef, undef, undef, undef, undef, undef, undef, undef, undef, undef, undef, undef, undef, undef, undef, undef, undef, undef, undef, undef, undef, undef, undef, undef, undef, undef, undef, undef, undef, undef, undef, undef, undef, undef, undef, undef, undef, undef, undef, undef, undef, undef, undef, undef, undef, undef], defers := [] } _
        refine loneH (i := 4) 11 rfl rfl (by kernel_rfl) (by rfl) (fun K hK => ?_)
        go_simp
        (with_reducible refine (G1.out _ (HS.out _ hS)).mono ?_)
        rintro e w4 ⟨rfl, rfl⟩
        exact hK.out _ _ hS (fun hS => by try simp only [Act.put, List.setIfInBounds_toArray, List.set_cons_zero, List.set_cons_succ]; exact hnext.out _ hS (Below.refl _ _))
    · intro o w2 hS hR hnext hall
      cases o with
      | none =>
        show wpAnyH _ _ _ _ _ 21 #[true, true, true, true, true, false, true, false, false, true, false, false, true, false, false, true, false, false, true, true, false, false, false, false, true, false, false, true, false, false, false, false, false, false] { tmps := #[.slice A n c, undef, .pointer (some ⟨w.heap.size, 0, none⟩), .slice (some ⟨w.heap.size + 1, 0, none⟩) 14 14, undef, undef, .slice (some ⟨w.heap.size + 1, 0, none⟩) 14 14, (.slice A n c), (.int .u8 x0), (.string s0), (.slice A n c), (.int .u8 x1), undef, (.slice A n c), undef, undef, (.slice A n c), undef, undef, (.slice A n c), undef, undef, (.slice A n c), undef, undef, (.slice (some ⟨w.heap.size + 1, 0, none⟩) 14 14), (.slice A n c), undef, undef, undef, undef, (.slice A n c), undef, undef, (.slice A n c), undef, undef, undef, undef, undef, undef, undef, undef, undef, undef, undef, undef, undef, undef, undef, undef, undef, undef, undef, undef, undef, undef, undef, undef, undef, undef, undef, undef, undef, undef, undef, undef, undef, undef, undef, undef, undef, undef, undef, undef, undef, undef, undef, undef, undef, undef, undef, undef, undef, undef, undef, undef, undef, undef, undef, undef, undef, undef, undef, undef, undef, undef, undef, undef, undef, undef, undef, undef, undef, undef, undef, undef, undef, undef, undef, undef, undef, undef, undef, undef], defers := [] } _
        refine twoH (i := 5) (j := 32) 12 4 rfl rfl rfl rfl (by kernel_rfl) (by rfl) (by rfl) (fun K hK => ?_) (fun K hK => ?_)
        · go_simp
          (with_reducible refine (Y1.out _).mono ?_)
          rintro e w4 ⟨rfl, b4⟩
          exact hK.out _ _ (hS.trans (b4.mono (HLE.out _ hS))) (fun hS => by try simp only [Act.put, List.setIfInBounds_toArray, List.set_cons_zero, List.set_cons_succ]; exact hnext.out _ hS b4)
        · go_simp
          exact hK.out _ _ (hS.alloc (HLE.out _ hS) _) (fun hS' => by try simp only [Act.put, List.setIfInBounds_toArray, List.set_cons_zero, List.set_cons_succ]; exact hall.out rfl _ _ hS' ⟨HB.new _ {} (.slice none 0 0), HLE.out _ hS⟩)
      | some g =>
        show wpAnyH _ _ _ _ _ 20 #[true, true, true, true, true, false, true, false, false, true, false, false, true, false, false, true, false, false, true, true, false, false, false, false, true, false, false, true, false, false, false, false, true, false] { tmps := #[.slice A n c, undef, .pointer (some ⟨w.heap.size, 0, none⟩), .slice (some ⟨w.heap.size + 1, 0, none⟩) 14 14, .pointer (some ⟨g, 0, none⟩), undef, .slice (some ⟨w.heap.size + 1, 0, none⟩) 14 14, (.slice A n c), (.int .u8 x0), (.string s0), (.slice A n c), (.int .u8 x1), undef, (.slice A n c), undef, undef, (.slice A n c), undef, undef, (.slice A n c), undef, undef, (.slice A n c), undef, undef, (.slice (some ⟨w.heap.size + 1, 0, none⟩) 14 14), (.slice A n c), undef, undef, undef, undef, (.slice A n c), undef, undef, (.slice A n c), undef, undef, undef, undef, undef, undef, undef, undef, undef, undef, undef, undef, undef, undef, undef, undef, undef, undef, undef, undef, undef, undef, undef, undef, undef, undef, undef, undef, undef, undef, undef, undef, undef, undef, undef, undef, undef, undef, undef, undef, undef, undef, undef, undef, undef, undef, undef, undef, undef, undef, undef, undef, undef, undef, undef, undef, undef, undef, undef, undef, undef, undef, undef, undef, undef, undef, undef, undef, undef, undef, undef, undef, undef, undef, undef, undef, undef, undef, undef, undef], defers := [] } _
        refine loneH (i := 5) 12 rfl rfl (by kernel_rfl) (by rfl) (fun K hK => ?_)
        go_simp
        (with_reducible refine (Y1.out _).mono ?_)
        rintro e w4 ⟨rfl, b4⟩
        exact hK.out _ _ (hS.trans (b4.mono (HLE.out _ hS))) (fun hS => by try simp only [Act.put, List.setIfInBounds_toArray, List.set_cons_zero, List.set_cons_succ]; exact hnext.out _ hS b4)
    · intro o w2 hS hR hnext hall
      cases o with
      | none =>
        show wpAnyH _ _ _ _ _ 20 #[true, true, true, true, true, true, true, false, false, true, false, false, true, false, false, true, false, false, true, true, false, false, false, false, true, false, false, true, false, false, false, false, false, false] { tmps := #[.slice A n c, undef, .pointer (some ⟨w.heap.size, 0, none⟩), .slice (some ⟨w.heap.size + 1, 0, none⟩) 14 14, undef, undef, .slice (some ⟨w.heap.size + 1, 0, none⟩) 14 14, (.slice A n c), (.int .u8 x0), (.string s0), (.slice A n c), (.int .u8 x1), (.int .i64 y1), (.slice A n c), undef, undef, (.slice A n c), undef, undef, (.slice A n c), undef, undef, (.slice A n c), undef, undef, (.slice (some ⟨w.heap.size + 1, 0, none⟩) 14 14), (.slice A n c), undef, undef, undef, undef, (.slice A n c), undef, undef, (.slice A n c), undef, undef, undef, undef, undef, undef, undef, undef, undef, undef, undef, undef, undef, undef, undef, undef, undef, undef, undef, undef, undef, undef, undef, undef, undef, undef, undef, undef, undef, undef, undef, undef, undef, undef, undef, undef, undef, undef, undef, undef, undef, undef, undef, undef, undef, undef, undef, undef, undef, undef, undef, undef, undef, undef, undef, undef, undef, undef, undef, undef, undef, undef, undef, undef, undef, undef, undef, undef, undef, undef, undef, undef, undef, undef, undef, undef, undef, undef, undef, undef], defers := [] } _
        refine twoH (i := 7) (j := 32) 14 4 rfl rfl rfl rfl (by kernel_rfl) (by rfl) (by rfl) (fun K hK => ?_) (fun K hK => ?_)
        · go_simp
          (with_reducible refine (G2.out _ (HS.out _ hS)).mono ?_)
          rintro e w4 ⟨rfl, rfl⟩
          exact hK.out _ _ hS (fun hS => by try simp only [Act.put, List.setIfInBounds_toArray, List.set_cons_zero, List.set_cons_succ]; exact hnext.out _ hS (Below.refl _ _))
        · go_simp
          exact hK.out _ _ (hS.alloc (HLE.out _ hS) _) (fun hS' => by try simp only [Act.put, List.setIfInBounds_toArray, List.set_cons_zero, List.set_cons_succ]; exact hall.out rfl _ _ hS' ⟨HB.new _ {} (.slice none 0 0), HLE.out _ hS⟩)
      | some g =>
        show wpAnyH _ _ _ _ _ 19 #[true, true, true, true, true, true, true, false, false, true, false, false, true, false, false, true, false, false, true, true, false, false, false, false, true, false, false, true, false, false, false, false, true, false] { tmps := #[.slice A n c, undef, .pointer (some ⟨w.heap.size, 0, none⟩), .slice (some ⟨w.heap.size + 1, 0, none⟩) 14 14, .pointer (some ⟨g, 0, none⟩), undef, .slice (some ⟨w.heap.size + 1, 0, none⟩) 14 14, (.slice A n c), (.int .u8 x0), (.string s0), (.slice A n c), (.int .u8 x1), (.int .i64 y1), (.slice A n c), undef, undef, (.slice A n c), undef, undef, (.slice A n c), undef, undef, (.slice A n c), undef, undef, (.slice (some ⟨w.heap.size + 1, 0, none⟩) 14 14), (.slice A n c), undef, undef, undef, undef, (.slice A n c), undef, undef, (.slice A n c), undef, undef, undef, undef, undef, undef, undef, undef, undef, undef, undef, undef, undef, undef, undef, undef, undef, undef, undef, undef, undef, undef, undef, undef, undef, undef, undef, undef, undef, undef, undef, undef, undef, undef, undef, undef, undef, undef, undef, undef, undef, undef, undef, undef, undef, undef, undef, undef, undef, undef, undef, undef, undef, undef, undef, undef, undef, undef, undef, undef, undef, undef, undef, undef, undef, undef, undef, undef, undef, undef, undef, undef, undef, undef, undef, undef, undef, undef, undef, undef], defers := [] } _
        refine loneH (i := 7) 14 rfl rfl (by kernel_rfl) (by rfl) (fun K hK => ?_)
        go_simp
        (with_reducible refine (G2.out _ (HS.out _ hS)).mono ?_)
        rintro e w4 ⟨rfl, rfl⟩
        exact hK.out _ _ hS (fun hS => by try simp only [Act.put, List.setIfInBounds_toArray, List.set_cons_zero, List.set_cons_succ]; exact hnext.out _ hS (Below.refl _ _))
    · intro o w2 hS hR hnext hall
      cases o with
      | none =>
        show wpAnyH _ _ _ _ _ 19 #[true, true, true, true, true, true, true, true, false, true, false, false, true, false, false, true, false, false, true, true, false, false, false, false, true, false, false, true, false, false, false, false, false, false] { tmps := #[.slice A n c, undef, .pointer (some ⟨w.heap.size, 0, none⟩), .slice (some ⟨w.heap.size + 1, 0, none⟩) 14 14, undef, undef, .slice (some ⟨w.heap.size + 1, 0, none⟩) 14 14, (.slice A n c), (.int .u8 x0), (.string s0), (.slice A n c), (.int .u8 x1), (.int .i64 y1), (.slice A n c), (.int .u8 x2), undef, (.slice A n c), undef, undef, (.slice A n c), undef, undef, (.slice A n c), undef, undef, (.slice (some ⟨w.heap.size + 1, 0, none⟩) 14 14), (.slice A n c), undef, undef, undef, undef, (.slice A n c), undef, undef, (.slice A n c), undef, undef, undef, undef, undef, undef, undef, undef, undef, undef, undef, undef, undef, undef, undef, undef, undef, undef, undef, undef, undef, undef, undef, undef, undef, undef, undef, undef, undef, undef, undef, undef, undef, undef, undef, undef, undef, undef, undef, undef, undef, undef, undef, undef, undef, undef, undef, undef, undef, undef, undef, undef, undef, undef, undef, undef, undef, undef, undef, undef, undef, undef, undef, undef, undef, undef, undef, undef, undef, undef, undef, undef, undef, undef, undef, undef, undef, undef, undef, undef], defers := [] } _
        refine twoH (i := 8) (j := 32) 15 4 rfl rfl rfl rfl (by kernel_rfl) (by rfl) (by rfl) (fun K hK => ?_) (fun K hK => ?_)
        · go_simp
          (with_reducible refine (Y2.out _).mono ?_)
          rintro e w4 ⟨rfl, b4⟩
          exact hK.out _ _ (hS.trans (b4.mono (HLE.out _ hS))) (fun hS => by try simp only [Act.put, List.setIfInBounds_toArray, List.set_cons_zero, List.set_cons_succ]; exact hnext.out _ hS b4)
        · go_simp
          exact hK.out _ _ (hS.alloc (HLE.out _ hS) _) (fun hS' => by try simp only [Act.put, List.setIfInBounds_toArray, List.set_cons_zero, List.set_cons_succ]; exact hall.out rfl _ _ hS' ⟨HB.new _ {} (.slice none 0 0), HLE.out _ hS⟩)
      | some g =>
        show wpAnyH _ _ _ _ _ 18 #[true, true, true, true, true, true, true, true, false, true, false, false, true, false, false, true, false, false, true, true, false, false, false, false, true, false, false, true, false, false, false, false, true, false] { tmps := #[.slice A n c, undef, .pointer (some ⟨w.heap.size, 0, none⟩), .slice (some ⟨w.heap.size + 1, 0, none⟩) 14 14, .pointer (some ⟨g, 0, none⟩), undef, .slice (some ⟨w.heap.size + 1, 0, none⟩) 14 14, (.slice A n c), (.int .u8 x0), (.string s0), (.slice A n c), (.int .u8 x1), (.int .i64 y1), (.slice A n c), (.int .u8 x2), undef, (.slice A n c), undef, undef, (.slice A n c), undef, undef, (.slice A n c), undef, undef, (.slice (some ⟨w.heap.size + 1, 0, none⟩) 14 14), (.slice A n c), undef, undef, undef, undef, (.slice A n c), undef, undef, (.slice A n c), undef, undef, undef, undef, undef, undef, undef, undef, undef, undef, undef, undef, undef, undef, undef, undef, undef, undef, undef, undef, undef, undef, undef, undef, undef, undef, undef, undef, undef, undef, undef, undef, undef, undef, undef, undef, undef, undef, undef, undef, undef, undef, undef, undef, undef, undef, undef, undef, undef, undef, undef, undef, undef, undef, undef, undef, undef, undef, undef, undef, undef, undef, undef, undef, undef, undef, undef, undef, undef, undef, undef, undef, undef, undef, undef, undef, undef, undef, undef, undef], defers := [] } _
        refine loneH (i := 8) 15 rfl rfl (by kernel_rfl) (by rfl) (fun K hK => ?_)
        go_simp
        (with_reducible refine (Y2.out _).mono ?_)
        rintro e w4 ⟨rfl, b4⟩
        exact hK.out _ _ (hS.trans (b4.mono (HLE.out _ hS))) (fun hS => by try simp only [Act.put, List.setIfInBounds_toArray, List.set_cons_zero, List.set_cons_succ]; exact hnext.out _ hS b4)
    · intro o w2 hS hR hnext hall
      cases o with
      | none =>
        show wpAnyH _ _ _ _ _ 18 #[true, true, true, true, true, true, true, true, true, true, false, false, true, false, false, true, false, false, true, true, false, false, false, false, true, false, false, true, false, false, false, false, false, false] { tmps := #[.slice A n c, undef, .pointer (some ⟨w.heap.size, 0, none⟩), .slice (some ⟨w.heap.size + 1, 0, none⟩) 14 14, undef, undef, .slice (some ⟨w.heap.size + 1, 0, none⟩) 14 14, (.slice A n c), (.int .u8 x0), (.string s0), (.slice A n c), (.int .u8 x1), (.int .i64 y1), (.slice A n c), (.int .u8 x2), (.int .i64 y2), (.slice A n c), undef, undef, (.slice A n c), undef, undef, (.slice A n c), undef, undef, (.slice (some ⟨w.heap.size + 1, 0, none⟩) 14 14), (.slice A n c), undef, undef, undef, undef, (.slice A n c), undef, undef, (.slice A n c), undef, undef, undef, undef, undef, undef, undef, undef, undef, undef, undef, undef, undef, undef, undef, undef, undef, undef, undef, undef, undef, undef, undef, undef, undef, undef, undef, undef, undef, undef, undef, undef, undef, undef, undef, undef, undef, undef, undef, undef, undef, undef, undef, undef, undef, undef, undef, undef, undef, undef, undef, undef, undef, undef, undef, undef, undef, undef, undef, undef, undef, undef, undef, undef, undef, undef, undef, undef, undef, undef, undef, undef, undef, undef, undef, undef, undef, undef, undef, undef], defers := [] } _
        refine twoH (i := 10) (j := 32) 17 4 rfl rfl rfl rfl (by kernel_rfl) (by rfl) (by rfl) (fun K hK => ?_) (fun K hK => ?_)
        · go_simp
          (with_reducible refine (G3.out _ (HS.out _ hS)).mono ?_)
          rintro e w4 ⟨rfl, rfl⟩
          exact hK.out _ _ hS (fun hS => by try simp only [Act.put, List.setIfInBounds_toArray, List.set_cons_zero, List.set_cons_succ]; exact hnext.out _ hS (Below.refl _ _))
        · go_simp
          exact hK.out _ _ (hS.alloc (HLE.out _ hS) _) (fun hS' => by try simp only [Act.put, List.setIfInBounds_toArray, List.set_cons_zero, List.set_cons_succ]; exact hall.out rfl _ _ hS' ⟨HB.new _ {} (.slice none 0 0), HLE.out _ hS⟩)
      | some g =>
        show wpAnyH _ _ _ _ _ 17 #[true, true, true, true, true, true, true, true, true, true, false, false, true, false, false, true, false, false, true, true, false, false, false, false, true, false, false, true, false, false, false, false, true, false] { tmps := #[.slice A n c, undef, .pointer (some ⟨w.heap.size, 0, none⟩), .slice (some ⟨w.heap.size + 1, 0, none⟩) 14 14, .pointer (some ⟨g, 0, none⟩), undef, .slice (some ⟨w.heap.size + 1, 0, none⟩) 14 14, (.slice A n c), (.int .u8 x0), (.string s0), (.slice A n c), (.int .u8 x1), (.int .i64 y1), (.slice A n c), (.int .u8 x2), (.int .i64 y2), (.slice A n c), undef, undef, (.slice A n c), undef, undef, (.slice A n c), undef, undef, (.slice (some ⟨w.heap.size + 1, 0, none⟩) 14 14), (.slice A n c), undef, undef, undef, undef, (.slice A n c), undef, undef, (.slice A n c), undef, undef, undef, undef, undef, undef, undef, undef, undef, undef, undef, undef, undef, undef, undef, undef, undef, undef, undef, undef, undef, undef, undef, undef, undef, undef, undef, undef, undef, undef, undef, undef, undef, undef, undef, undef, undef, undef, undef, undef, undef, undef, undef, undef, undef, undef, undef, undef, undef, undef, undef, undef, undef, undef, undef, undef, undef, undef, undef, undef, undef, undef, undef, undef, undef, undef, undef, undef, undef, undef, undef, undef, undef, undef, undef, undef, undef, undef, undef, undef], defers := [] } _
        refine loneH (i := 10) 17 rfl rfl (by kernel_rfl) (by rfl) (fun K hK => ?_)
        go_simp
        (with_reducible refine (G3.out _ (HS.out _ hS)).mono ?_)
        rintro e w4 ⟨rfl, rfl⟩
        exact hK.out _ _ hS (fun hS => by try simp only [Act.put, List.setIfInBounds_toArray, List.set_cons_zero, List.set_cons_succ]; exact hnext.out _ hS (Below.refl _ _))
    · intro o w2 hS hR hnext hall
      cases o with
      | none =>
        show wpAnyH _ _ _ _ _ 17 #[true, true, true, true, true, true, true, true, true, true, true, false, true, false, false, true, false, false, true, true, false, false, false, false, true, false, false, true, false, false, false, false, false, false] { tmps := #[.slice A n c, undef, .pointer (some ⟨w.heap.size, 0, none⟩), .slice (some ⟨w.heap.size + 1, 0, none⟩) 14 14, undef, undef, .slice (some ⟨w.heap.size + 1, 0, none⟩) 14 14, (.slice A n c), (.int .u8 x0), (.string s0), (.slice A n c), (.int .u8 x1), (.int .i64 y1), (.slice A n c), (.int .u8 x2), (.int .i64 y2), (.slice A n c), (.int .u8 x3), undef, (.slice A n c), undef, undef, (.slice A n c), undef, undef, (.slice (some ⟨w.heap.size + 1, 0, none⟩) 14 14), (.slice A n c), undef, undef, undef, undef, (.slice A n c), undef, undef, (.slice A n c), undef, undef, undef, undef, undef, undef, undef, undef, undef, undef, undef, undef, undef, undef, undef, undef, undef, undef, undef, undef, undef, undef, undef, undef, undef, undef, undef, undef, undef, undef, undef, undef, undef, undef, undef, undef, undef, undef, undef, undef, undef, undef, undef, undef, undef, undef, undef, undef, undef, undef, undef, undef, undef, undef, undef, undef, undef, undef, undef, undef, undef, undef, undef, undef, undef, undef, undef, undef, undef, undef, undef, undef, undef, undef, undef, undef, undef, undef, undef, undef], defers := [] } _
        refine twoH (i := 11) (j := 32) 18 4 rfl rfl rfl rfl (by kernel_rfl) (by rfl) (by rfl) (fun K hK => ?_) (fun K hK => ?_)
        · go_simp
          (with_reducible refine (Y3.out _).mono ?_)
          rintro e w4 ⟨rfl, b4⟩
          exact hK.out _ _ (hS.trans (b4.mono (HLE.out _ hS))) (fun hS => by try simp only [Act.put, List.setIfInBounds_toArray, List.set_cons_zero, List.set_cons_succ]; exact hnext.out _ hS b4)
        · go_simp
          exact hK.out _ _ (hS.alloc (HLE.out _ hS) _) (fun hS' => by try simp only [Act.put, List.setIfInBounds_toArray, List.set_cons_zero, List.set_cons_succ]; exact hall.out rfl _ _ hS' ⟨HB.new _ {} (.slice none 0 0), HLE.out _ hS⟩)
      | some g =>
        show wpAnyH _ _ _ _ _ 16 #[true, true, true, true, true, true, true, true, true, true, true, false, true, false, false, true, false, false, true, true, false, false, false, false, true, false, false, true, false, false, false, false, true, false] { tmps := #[.slice A n c, undef, .pointer (some ⟨w.heap.size, 0, none⟩), .slice (some ⟨w.heap.size + 1, 0, none⟩) 14 14, .pointer (some ⟨g, 0, none⟩), undef, .slice (some ⟨w.heap.size + 1, 0, none⟩) 14 14, (.slice A n c), (.int .u8 x0), (.string s0), (.slice A n c), (.int .u8 x1), (.int .i64 y1), (.slice A n c), (.int .u8 x2), (.int .i64 y2), (.slice A n c), (.int .u8 x3), undef, (.slice A n c), undef, undef, (.slice A n c), undef, undef, (.slice (some ⟨w.heap.size + 1, 0, none⟩) 14 14), (.slice A n c), undef, undef, undef, undef, (.slice A n c), undef, undef, (.slice A n c), undef, undef, undef, undef, undef, undef, undef, undef, undef, undef, undef, undef, undef, undef, undef, undef, undef, undef, undef, undef, undef, undef, undef, undef, undef, undef, undef, undef, undef, undef, undef, undef, undef, undef, undef, undef, undef, undef, undef, undef, undef, undef, undef, undef, undef, undef, undef, undef, undef, undef, undef, undef, undef, undef, undef, undef, undef, undef, undef, undef, undef, undef, undef, undef, undef, undef, undef, undef, undef, undef, undef, undef, undef, undef, undef, undef, undef, undef, undef, undef], defers := [] } _
        refine loneH (i := 11) 18 rfl rfl (by kernel_rfl) (by rfl) (fun K hK => ?_)
        go_simp
        (with_reducible refine (Y3.out _).mono ?_)
        rintro e w4 ⟨rfl, b4⟩
        exact hK.out _ _ (hS.trans (b4.mono (HLE.out _ hS))) (fun hS => by try simp only [Act.put, List.setIfInBounds_toArray, List.set_cons_zero, List.set_cons_succ]; exact hnext.out _ hS b4)
    · intro o w2 hS hR hnext hall
      cases o with
      | none =>
        show wpAnyH _ _ _ _ _ 16 #[true, true, true, true, true, true, true, true, true, true, true, true, true, false, false, true, false, false, true, true, false, false, false, false, true, false, false, true, false, false, false, false, false, false] { tmps := #[.slice A n c, undef, .pointer (some ⟨w.heap.size, 0, none⟩), .slice (some ⟨w.heap.size + 1, 0, none⟩) 14 14, undef, undef, .slice (some ⟨w.heap.size + 1, 0, none⟩) 14 14, (.slice A n c), (.int .u8 x0), (.string s0), (.slice A n c), (.int .u8 x1), (.int .i64 y1), (.slice A n c), (.int .u8 x2), (.int .i64 y2), (.slice A n c), (.int .u8 x3), (.int .i64 y3), (.slice A n c), undef, undef, (.slice A n c), undef, undef, (.slice (some ⟨w.heap.size + 1, 0, none⟩) 14 14), (.slice A n c), undef, undef, undef, undef, (.slice A n c), undef, undef, (.slice A n c), undef, undef, undef, undef, undef, undef, undef, undef, undef, undef, undef, undef, undef, undef, undef, undef, undef, undef, undef, undef, undef, undef, undef, undef, undef, undef, undef, undef, undef, undef, undef, undef, undef, undef, undef, undef, undef, undef, undef, undef, undef, undef, undef, undef, undef, undef, undef, undef, undef, undef, undef, undef, undef, undef, undef, undef, undef, undef, undef, undef, undef, undef, undef, undef, undef, undef, undef, undef, undef, undef, undef, undef, undef, undef, undef, undef, undef, undef, undef, undef], defers := [] } _
        refine twoH (i := 13) (j := 32) 20 4 rfl rfl rfl rfl (by kernel_rfl) (by rfl) (by rfl) (fun K hK => ?_) (fun K hK => ?_)
        · go_simp
          (with_reducible refine (G4.out _ (HS.out _ hS)).mono ?_)
          rintro e w4 ⟨rfl, rfl⟩
          exact hK.out _ _ hS (fun hS => by try simp only [Act.put, List.setIfInBounds_toArray, List.set_cons_zero, List.set_cons_succ]; exact hnext.out _ hS (Below.refl _ _))
        · go_simp
          exact hK.out _ _ (hS.alloc (HLE.out _ hS) _) (fun hS' => by try simp only [Act.put, List.setIfInBounds_toArray, List.set_cons_zero, List.set_cons_succ]; exact hall.out rfl _ _ hS' ⟨HB.new _ {} (.slice none 0 0), HLE.out _ hS⟩)
      | some g =>
        show wpAnyH _ _ _ _ _ 15 #[true, true, true, true, true, true, true, true, true, true, true, true, true, false, false, true, false, false, true, true, false, false, false, false, true, false, false, true, false, false, false, false, true, false] { tmps := #[.slice A n c, undef, .pointer (some ⟨w.heap.size, 0, none⟩), .slice (some ⟨w.heap.size + 1, 0, none⟩) 14 14, .pointer (some ⟨g, 0, none⟩), undef, .slice (some ⟨w.heap.size + 1, 0, none⟩) 14 14, (.slice A n c), (.int .u8 x0), (.string s0), (.slice A n c), (.int .u8 x1), (.int .i64 y1), (.slice A n c), (.int .u8 x2), (.int .i64 y2), (.slice A n c), (.int .u8 x3), (.int .i64 y3), (.slice A n c), undef, undef, (.slice A n c), undef, undef, (.slice (some ⟨w.heap.size + 1, 0, none⟩) 14 14), (.slice A n c), undef, undef, undef, undef, (.slice A n c), undef, undef, (.slice A n c), undef, undef, undef, undef, undef, undef, undef, undef, undef, undef, undef, undef, undef, undef, undef, undef, undef, undef, undef, undef, undef, undef, undef, undef, undef, undef, undef, undef, undef, undef, undef, undef, undef, undef, undef, undef, undef, undef, undef, undef, undef, undef, undef, undef, undef, undef, undef, undef, undef, undef, undef, undef, undef, undef, undef, undef, undef, undef, undef, undef, undef, undef, undef, undef, undef, undef, undef, undef, undef, undef, undef, undef, undef, undef, undef, undef, undef, undef, undef, undef], defers := [] } _
        refine loneH (i := 13) 20 rfl rfl (by kernel_rfl) (by rfl) (fun K hK => ?_)
        go_simp
        (with_reducible refine (G4.out _ (HS.out _ hS)).mono ?_)
        rintro e w4 ⟨rfl, rfl⟩
        exact hK.out _ _ hS (fun hS => by try simp only [Act.put, List.setIfInBounds_toArray, List.set_cons_zero, List.set_cons_succ]; exact hnext.out _ hS (Below.refl _ _))
    · intro o w2 hS hR hnext hall
      cases o with
      | none =>
        show wpAnyH _ _ _ _ _ 15 #[true, true, true, true, true, true, true, true, true, true, true, true, true, true, false, true, false, false, true, true, false, false, false, false, true, false, false, true, false, false, false, false, false, false] { tmps := #[.slice A n c, undef, .pointer (some ⟨w.heap.size, 0, none⟩), .slice (some ⟨w.heap.size + 1, 0, none⟩) 14 14, undef, undef, .slice (some ⟨w.heap.size + 1, 0, none⟩) 14 14, (.slice A n c), (.int .u8 x0), (.string s0), (.slice A n c), (.int .u8 x1), (.int .i64 y1), (.slice A n c), (.int .u8 x2), (.int .i64 y2), (.slice A n c), (.int .u8 x3), (.int .i64 y3), (.slice A n c), (.int .u8 x4), undef, (.slice A n c), undef, undef, (.slice (some ⟨w.heap.size + 1, 0, none⟩) 14 14), (.slice A n c), undef, undef, undef, undef, (.slice A n c), undef, undef, (.slice A n c), undef, undef, undef, undef, undef, undef, undef, undef, undef, undef, undef, undef, undef, undef, undef, undef, undef, undef, undef, undef, undef, undef, undef, undef, undef, undef, undef, undef, undef, undef, undef, undef, undef, undef, undef, undef, undef, undef, undef, undef, undef, undef, undef, undef, undef, undef, undef, undef, undef, undef, undef, undef, undef, undef, undef, undef, undef, undef, undef, undef, undef, undef, undef, undef, undef, undef, undef, undef, undef, undef, undef, undef, undef, undef, undef, undef, undef, undef, undef, undef], defers := [] } _
        refine twoH (i := 14) (j := 32) 21 4 rfl rfl rfl rfl (by kernel_rfl) (by rfl) (by rfl) (fun K hK => ?_) (fun K hK => ?_)
        · go_simp
          (with_reducible refine (Y4.out _).mono ?_)
          rintro e w4 ⟨rfl, b4⟩
          exact hK.out _ _ (hS.trans (b4.mono (HLE.out _ hS))) (fun hS => by try simp only [Act.put, List.setIfInBounds_toArray, List.set_cons_zero, List.set_cons_succ]; exact hnext.out _ hS b4)
        · go_simp
          exact hK.out _ _ (hS.alloc (HLE.out _ hS) _) (fun hS' => by try simp only [Act.put, List.setIfInBounds_toArray, List.set_cons_zero, List.set_cons_succ]; exact hall.out rfl _ _ hS' ⟨HB.new _ {} (.slice none 0 0), HLE.out _ hS⟩)
      | some g =>
        show wpAnyH _ _ _ _ _ 14 #[true, true, true, true, true, true, true, true, true, true, true, true, true, true, false, true, false, false, true, true, false, false, false, false, true, false, false, true, false, false, false, false, true, false] { tmps := #[.slice A n c, undef, .pointer (some ⟨w.heap.size, 0, none⟩), .slice (some ⟨w.heap.size + 1, 0, none⟩) 14 14, .pointer (some ⟨g, 0, none⟩), undef, .slice (some ⟨w.heap.size + 1, 0, none⟩) 14 14, (.slice A n c), (.int .u8 x0), (.string s0), (.slice A n c), (.int .u8 x1), (.int .i64 y1), (.slice A n c), (.int .u8 x2), (.int .i64 y2), (.slice A n c), (.int .u8 x3), (.int .i64 y3), (.slice A n c), (.int .u8 x4), undef, (.slice A n c), undef, undef, (.slice (some ⟨w.heap.size + 1, 0, none⟩) 14 14), (.slice A n c), undef, undef, undef, undef, (.slice A n c), undef, undef, (.slice A n c), undef, undef, undef, undef, undef, undef, undef, undef, undef, undef, undef, undef, undef, undef, undef, undef, undef, undef, undef, undef, undef, undef, undef, undef, undef, undef, undef, undef, undef, undef, undef, undef, undef, undef, undef, undef, undef, undef, undef, undef, undef, undef, undef, undef, undef, undef, undef, undef, undef, undef, undef, undef, undef, undef, undef, undef, undef, undef, undef, undef, undef, undef, undef, undef, undef, undef, undef, undef, undef, undef, undef, undef, undef, undef, undef, undef, undef, undef, undef, undef], defers := [] } _
        refine loneH (i := 14) 21 rfl rfl (by kernel_rfl) (by rfl) (fun K hK => ?_)
        go_simp
        (with_reducible refine (Y4.out _).mono ?_)
        rintro e w4 ⟨rfl, b4⟩
        exact hK.out _ _ (hS.trans (b4.mono (HLE.out _ hS))) (fun hS => by try simp only [Act.put, List.setIfInBounds_toArray, List.set_cons_zero, List.set_cons_succ]; exact hnext.out _ hS b4)
    · intro o w2 hS hR hnext hall
      cases o with
      | none =>
        show wpAnyH _ _ _ _ _ 14 #[true, true, true, true, true, true, true, true, true, true, true, true, true, true, true, true, false, false, true, true, false, false, false, false, true, false, false, true, false, false, false, false, false, false] { tmps := #[.slice A n c, undef, .pointer (some ⟨w.heap.size, 0, none⟩), .slice (some ⟨w.heap.size + 1, 0, none⟩) 14 14, undef, undef, .slice (some ⟨w.heap.size + 1, 0, none⟩) 14 14, (.slice A n c), (.int .u8 x0), (.string s0), (.slice A n c), (.int .u8 x1), (.int .i64 y1), (.slice A n c), (.int .u8 x2), (.int .i64 y2), (.slice A n c), (.int .u8 x3), (.int .i64 y3), (.slice A n c), (.int .u8 x4), (.int .i64 y4), (.slice A n c), undef, undef, (.slice (some ⟨w.heap.size + 1, 0, none⟩) 14 14), (.slice A n c), undef, undef, undef, undef, (.slice A n c), undef, undef, (.slice A n c), undef, undef, undef, undef, undef, undef, undef, undef, undef, undef, undef, undef, undef, undef, undef, undef, undef, undef, undef, undef, undef, undef, undef, undef, undef, undef, undef, undef, undef, undef, undef, undef, undef, undef, undef, undef, undef, undef, undef, undef, undef, undef, undef, undef, undef, undef, undef, undef, undef, undef, undef, undef, undef, undef, undef, undef, undef, undef, undef, undef, undef, undef, undef, undef, undef, undef, undef, undef, undef, undef, undef, undef, undef, undef, undef, undef, undef, undef, undef, undef], defers := [] } _
        refine twoH (i := 16) (j := 32) 23 4 rfl rfl rfl rfl (by kernel_rfl) (by rfl) (by rfl) (fun K hK => ?_) (fun K hK => ?_)
        · go_simp
          (with_reducible refine (G5.out _ (HS.out _ hS)).mono ?_)
          rintro e w4 ⟨rfl, rfl⟩
          exact hK.out _ _ hS (fun hS => by try simp only [Act.put, List.setIfInBounds_toArray, List.set_cons_zero, List.set_cons_succ]; exact hnext.out _ hS (Below.refl _ _))
        · go_simp
          exact hK.out _ _ (hS.alloc (HLE.out _ hS) _) (fun hS' => by try simp only [Act.put, List.setIfInBounds_toArray, List.set_cons_zero, List.set_cons_succ]; exact hall.out rfl _ _ hS' ⟨HB.new _ {} (.slice none 0 0), HLE.out _ hS⟩)
      | some g =>
        show wpAnyH _ _ _ _ _ 13 #[true, true, true, true, true, true, true, true, true, true, true, true, true, true, true, true, false, false, true, true, false, false, false, false, true, false, false, true, false, false, false, false, true, false] { tmps := #[.slice A n c, undef, .pointer (some ⟨w.heap.size, 0, none⟩), .slice (some ⟨w.heap.size + 1, 0, none⟩) 14 14, .pointer (some ⟨g, 0, none⟩), undef, .slice (some ⟨w.heap.size + 1, 0, none⟩) 14 14, (.slice A n c), (.int .u8 x0), (.string s0), (.slice A n c), (.int .u8 x1), (.int .i64 y1), (.slice A n c), (.int .u8 x2), (.int .i64 y2), (.slice A n c), (.int .u8 x3), (.int .i64 y3), (.slice A n c), (.int .u8 x4), (.int .i64 y4), (.slice A n c), undef, undef, (.slice (some ⟨w.heap.size + 1, 0, none⟩) 14 14), (.slice A n c), undef, undef, undef, undef, (.slice A n c), undef, undef, (.slice A n c), undef, undef, undef, undef, undef, undef, undef, undef, undef, undef, undef, undef, undef, undef, undef, undef, undef, undef, undef, undef, undef, undef, undef, undef, undef, undef, undef, undef, undef, undef, undef, undef, undef, undef, undef, undef, undef, undef, undef, undef, undef, undef, undef, undef, undef, undef, undef, undef, undef, undef, undef, undef, undef, undef, undef, undef, undef, undef, undef, undef, undef, undef, undef, undef, undef, undef, undef, undef, undef, undef, undef, undef, undef, undef, undef, undef, undef, undef, undef, undef], defers := [] } _
        refine loneH (i := 16) 23 rfl rfl (by kernel_rfl) (by rfl) (fun K hK => ?_)
        go_simp
        (with_reducible refine (G5.out _ (HS.out _ hS)).mono ?_)
        rintro e w4 ⟨rfl, rfl⟩
        exact hK.out _ _ hS (fun hS => by try simp only [Act.put, List.setIfInBounds_toArray, List.set_cons_zero, List.set_cons_succ]; exact hnext.out _ hS (Below.refl _ _))
    · intro o w2 hS hR hnext hall
      cases o with
      | none =>
        show wpAnyH _ _ _ _ _ 13 #[true, true, true, true, true, true, true, true, true, true, true, true, true, true, true, true, true, false, true, true, false, false, false, false, true, false, false, true, false, false, false, false, false, false] { tmps := #[.slice A n c, undef, .pointer (some ⟨w.heap.size, 0, none⟩), .slice (some ⟨w.heap.size + 1, 0, none⟩) 14 14, undef, undef, .slice (some ⟨w.heap.size + 1, 0, none⟩) 14 14, (.slice A n c), (.int .u8 x0), (.string s0), (.slice A n c), (.int .u8 x1), (.int .i64 y1), (.slice A n c), (.int .u8 x2), (.int .i64 y2), (.slice A n c), (.int .u8 x3), (.int .i64 y3), (.slice A n c), (.int .u8 x4), (.int .i64 y4), (.slice A n c), (.int .u8 x5), undef, (.slice (some ⟨w.heap.size + 1, 0, none⟩) 14 14), (.slice A n c), undef, undef, undef, undef, (.slice A n c), undef, undef, (.slice A n c), undef, undef, undef, undef, undef, undef, undef, undef, undef, undef, undef, undef, undef, undef, undef, undef, undef, undef, undef, undef, undef, undef, undef, undef, undef, undef, undef, undef, undef, undef, undef, undef, undef, undef, undef, undef, undef, undef, undef, undef, undef, undef, undef, undef, undef, undef, undef, undef, undef, undef, undef, undef, undef, undef, undef, undef, undef, undef, undef, undef, undef, undef, undef, undef, undef, undef, undef, undef, undef, undef, undef, undef, undef, undef, undef, undef, undef, undef, undef, undef], defers := [] } _
        refine twoH (i := 17) (j := 32) 24 4 rfl rfl rfl rfl (by kernel_rfl) (by rfl) (by rfl) (fun K hK => ?_) (fun K hK => ?_)
        · go_simp
          (with_reducible refine (Y5.out _).mono ?_)
          rintro e w4 ⟨rfl, b4⟩
          exact hK.out _ _ (hS.trans (b4.mono (HLE.out _ hS))) (fun hS => by try simp only [Act.put, List.setIfInBounds_toArray, List.set_cons_zero, List.set_cons_succ]; exact hnext.out _ hS b4)
        · go_simp
          exact hK.out _ _ (hS.alloc (HLE.out _ hS) _) (fun hS' => by try simp only [Act.put, List.setIfInBounds_toArray, List.set_cons_zero, List.set_cons_succ]; exact hall.out rfl _ _ hS' ⟨HB.new _ {} (.slice none 0 0), HLE.out _ hS⟩)
      | some g =>
        show wpAnyH _ _ _ _ _ 12 #[true, true, true, true, true, true, true, true, true, true, true, true, true, true, true, true, true, false, true, true, false, false, false, false, true, false, false, true, false, false, false, false, true, false] { tmps := #[.slice A n c, undef, .pointer (some ⟨w.heap.size, 0, none⟩), .slice (some ⟨w.heap.size + 1, 0, none⟩) 14 14, .pointer (some ⟨g, 0, none⟩), undef, .slice (some ⟨w.heap.size + 1, 0, none⟩) 14 14, (.slice A n c), (.int .u8 x0), (.string s0), (.slice A n c), (.int .u8 x1), (.int .i64 y1), (.slice A n c), (.int .u8 x2), (.int .i64 y2), (.slice A n c), (.int .u8 x3), (.int .i64 y3), (.slice A n c), (.int .u8 x4), (.int .i64 y4), (.slice A n c), (.int .u8 x5), undef, (.slice (some ⟨w.heap.size + 1, 0, none⟩) 14 14), (.slice A n c), undef, undef, undef, undef, (.slice A n c), undef, undef, (.slice A n c), undef, undef, undef, undef, undef, undef, undef, undef, undef, undef, undef, undef, undef, undef, undef, undef, undef, undef, undef, undef, undef, undef, undef, undef, undef, undef, undef, undef, undef, undef, undef, undef, undef, undef, undef, undef, undef, undef, undef, undef, undef, undef, undef, undef, undef, undef, undef, undef, undef, undef, undef, undef, undef, undef, undef, undef, undef, undef, undef, undef, undef, undef, undef, undef, undef, undef, undef, undef, undef, undef, undef, undef, undef, undef, undef, undef, undef, undef, undef, undef], defers := [] } _
        refine loneH (i := 17) 24 rfl rfl (by kernel_rfl) (by rfl) (fun K hK => ?_)
        go_simp
        (with_reducible refine (Y5.out _).mono ?_)
        rintro e w4 ⟨rfl, b4⟩
        exact hK.out _ _ (hS.trans (b4.mono (HLE.out _ hS))) (fun hS => by try simp only [Act.put, List.setIfInBounds_toArray, List.set_cons_zero, List.set_cons_succ]; exact hnext.out _ hS b4)
    · intro o w2 hS hR hnext hall
      cases o with
      | none =>
        show wpAnyH _ _ _ _ _ 12 #[true, true, true, true, true, true, true, true, true, true, true, true, true, true, true, true, true, true, true, true, false, false, false, false, true, false, false, true, false, false, false, false, false, false] { tmps := #[.slice A n c, undef, .pointer (some ⟨w.heap.size, 0, none⟩), .slice (some ⟨w.heap.size + 1, 0, none⟩) 14 14, undef, undef, .slice (some ⟨w.heap.size + 1, 0, none⟩) 14 14, (.slice A n c), (.int .u8 x0), (.string s0), (.slice A n c), (.int .u8 x1), (.int .i64 y1), (.slice A n c), (.int .u8 x2), (.int .i64 y2), (.slice A n c), (.int .u8 x3), (.int .i64 y3), (.slice A n c), (.int .u8 x4), (.int .i64 y4), (.slice A n c), (.int .u8 x5), (.int .i64 y5), (.slice (some ⟨w.heap.size + 1, 0, none⟩) 14 14), (.slice A n c), undef, undef, undef, undef, (.slice A n c), undef, undef, (.slice A n c), undef, undef, undef, undef, undef, undef, undef, undef, undef, undef, undef, undef, undef, undef, undef, undef, undef, undef, undef, undef, undef, undef, undef, undef, undef, undef, undef, undef, undef, undef, undef, undef, undef, undef, undef, undef, undef, undef, undef, undef, undef, undef, undef, undef, undef, undef, undef, undef, undef, undef, undef, undef, undef, undef, undef, undef, undef, undef, undef, undef, undef, undef, undef, undef, undef, undef, undef, undef, undef, undef, undef, undef, undef, undef, undef, undef, undef, undef, undef, undef], defers := [] } _
        refine twoH (i := 20) (j := 32) 27 4 rfl rfl rfl rfl (by kernel_rfl) (by rfl) (by rfl) (fun K hK => ?_) (fun K hK => ?_)
        · go_simp
          (with_reducible refine (G6.out _ (HS.out _ hS)).mono ?_)
          rintro e w4 ⟨rfl, rfl⟩
          exact hK.out _ _ hS (fun hS => by try simp only [Act.put, List.setIfInBounds_toArray, List.set_cons_zero, List.set_cons_succ]; exact hnext.out _ hS (Below.refl _ _))
        · go_simp
          exact hK.out _ _ (hS.alloc (HLE.out _ hS) _) (fun hS' => by try simp only [Act.put, List.setIfInBounds_toArray, List.set_cons_zero, List.set_cons_succ]; exact hall.out rfl _ _ hS' ⟨HB.new _ {} (.slice none 0 0), HLE.out _ hS⟩)
      | some g =>
        show wpAnyH _ _ _ _ _ 11 #[true, true, true, true, true, true, true, true, true, true, true, true, true, true, true, true, true, true, true, true, false, false, false, false, true, false, false, true, false, false, false, false, true, false] { tmps := #[.slice A n c, undef, .pointer (some ⟨w.heap.size, 0, none⟩), .slice (some ⟨w.heap.size + 1, 0, none⟩) 14 14, .pointer (some ⟨g, 0, none⟩), undef, .slice (some ⟨w.heap.size + 1, 0, none⟩) 14 14, (.slice A n c), (.int .u8 x0), (.string s0), (.slice A n c), (.int .u8 x1), (.int .i64 y1), (.slice A n c), (.int .u8 x2), (.int .i64 y2), (.slice A n c), (.int .u8 x3), (.int .i64 y3), (.slice A n c), (.int .u8 x4), (.int .i64 y4), (.slice A n c), (.int .u8 x5), (.int .i64 y5), (.slice (some ⟨w.heap.size + 1, 0, none⟩) 14 14), (.slice A n c), undef, undef, undef, undef, (.slice A n c), undef, undef, (.slice A n c), undef, undef, undef, undef, undef, undef, undef, undef, undef, undef, undef, undef, undef, undef, undef, undef, undef, undef, undef, undef, undef, undef, undef, undef, undef, undef, undef, undef, undef, undef, undef, undef, undef, undef, undef, undef, undef, undef, undef, undef, undef, undef, undef, undef, undef, undef, undef, undef, undef, undef, undef, undef, undef, undef, undef, undef, undef, undef, undef, undef, undef, undef, undef, undef, undef, undef, undef, undef, undef, undef, undef, undef, undef, undef, undef, undef, undef, undef, undef, undef], defers := [] } _
        refine loneH (i := 20) 27 rfl rfl (by kernel_rfl) (by rfl) (fun K hK => ?_)
        go_simp
        (with_reducible refine (G6.out _ (HS.out _ hS)).mono ?_)
        rintro e w4 ⟨rfl, rfl⟩
        exact hK.out _ _ hS (fun hS => by try simp only [Act.put, List.setIfInBounds_toArray, List.set_cons_zero, List.set_cons_succ]; exact hnext.out _ hS (Below.refl _ _))
    · intro o w2 hS hR hnext hall
      cases o with
      | none =>
        show wpAnyH _ _ _ _ _ 11 #[true, true, true, true, true, true, true, true, true, true, true, true, true, true, true, true, true, true, true, true, true, false, false, false, true, false, false, true, false, false, false, false, false, false] { tmps := #[.slice A n c, undef, .pointer (some ⟨w.heap.size, 0, none⟩), .slice (some ⟨w.heap.size + 1, 0, none⟩) 14 14, undef, undef, .slice (some ⟨w.heap.size + 1, 0, none⟩) 14 14, (.slice A n c), (.int .u8 x0), (.string s0), (.slice A n c), (.int .u8 x1), (.int .i64 y1), (.slice A n c), (.int .u8 x2), (.int .i64 y2), (.slice A n c), (.int .u8 x3), (.int .i64 y3), (.slice A n c), (.int .u8 x4), (.int .i64 y4), (.slice A n c), (.int .u8 x5), (.int .i64 y5), (.slice (some ⟨w.heap.size + 1, 0, none⟩) 14 14), (.slice A n c), (.int .u8 x6), undef, undef, undef, (.slice A n c), undef, undef, (.slice A n c), undef, undef, undef, undef, undef, undef, undef, undef, undef, undef, undef, undef, undef, undef, undef, undef, undef, undef, undef, undef, undef, undef, undef, undef, undef, undef, undef, undef, undef, undef, undef, undef, undef, undef, undef, undef, undef, undef, undef, undef, undef, undef, undef, undef, undef, undef, undef, undef, undef, undef, undef, undef, undef, undef, undef, undef, undef, undef, undef, undef, undef, undef, undef, undef, undef, undef, undef, undef, undef, undef, undef, undef, undef, undef, undef, undef, undef, undef, undef, undef], defers := [] } _
        refine takeH (i := 21) (v := .int .u8 j) 28 rfl rfl (by kernel_rfl) (by kernel_rfl) (by kernel_rfl) (fun _ _ _ h => h) (by rfl) ?hy23n hS ?rest23n
        case hy23n => (intro W hW; have f0 := E13.out; have f1 := EW.out; clear hW; go_simp; first | done | with_reducible rfl)
        case rest23n => (try simp only [Act.put, List.setIfInBounds_toArray, List.set_cons_zero, List.set_cons_succ]; exact hnext.out _ hS (Below.refl _ _))
      | some g =>
        show wpAnyH _ _ _ _ _ 10 #[true, true, true, true, true, true, true, true, true, true, true, true, true, true, true, true, true, true, true, true, true, false, false, false, true, false, false, true, false, false, false, false, true, false] { tmps := #[.slice A n c, undef, .pointer (some ⟨w.heap.size, 0, none⟩), .slice (some ⟨w.heap.size + 1, 0, none⟩) 14 14, .pointer (some ⟨g, 0, none⟩), undef, .slice (some ⟨w.heap.size + 1, 0, none⟩) 14 14, (.slice A n c), (.int .u8 x0), (.string s0), (.slice A n c), (.int .u8 x1), (.int .i64 y1), (.slice A n c), (.int .u8 x2), (.int .i64 y2), (.slice A n c), (.int .u8 x3), (.int .i64 y3), (.slice A n c), (.int .u8 x4), (.int .i64 y4), (.slice A n c), (.int .u8 x5), (.int .i64 y5), (.slice (some ⟨w.heap.size + 1, 0, none⟩) 14 14), (.slice A n c), (.int .u8 x6), undef, undef, undef, (.slice A n c), undef, undef, (.slice A n c), undef, undef, undef, undef, undef, undef, undef, undef, undef, undef, undef, undef, undef, undef, undef, undef, undef, undef, undef, undef, undef, undef, undef, undef, undef, undef, undef, undef, undef, undef, undef, undef, undef, undef, undef, undef, undef, undef, undef, undef, undef, undef, undef, undef, undef, undef, undef, undef, undef, undef, undef, undef, undef, undef, undef, undef, undef, undef, undef, undef, undef, undef, undef, undef, undef, undef, undef, undef, undef, undef, undef, undef, undef, undef, undef, undef, undef, undef, undef, undef], defers := [] } _
        refine takeH (i := 21) (v := .int .u8 j) 28 rfl rfl (by kernel_rfl) (by kernel_rfl) (by kernel_rfl) (fun _ _ _ h => h) (by rfl) ?hy23s hS ?rest23s
        case hy23s => (intro W hW; have f0 := E13.out; have f1 := EW.out; clear hW; go_simp; first | done | with_reducible rfl)
        case rest23s => (try simp only [Act.put, List.setIfInBounds_toArray, List.set_cons_zero, List.set_cons_succ]; exact hnext.out _ hS (Below.refl _ _))
    · intro o w2 hS hR hnext hall
      cases o with
      | none =>
        show wpAnyH _ _ _ _ _ 10 #[true, true, true, true, true, true, true, true, true, true, true, true, true, true, true, true, true, true, true, true, true, true, false, false, true, false, false, true, false, false, false, false, false, false] { tmps := #[.slice A n c, undef, .pointer (some ⟨w.heap.size, 0, none⟩), .slice (some ⟨w.heap.size + 1, 0, none⟩) 14 14, undef, undef, .slice (some ⟨w.heap.size + 1, 0, none⟩) 14 14, (.slice A n c), (.int .u8 x0), (.string s0), (.slice A n c), (.int .u8 x1), (.int .i64 y1), (.slice A n c), (.int .u8 x2), (.int .i64 y2), (.slice A n c), (.int .u8 x3), (.int .i64 y3), (.slice A n c), (.int .u8 x4), (.int .i64 y4), (.slice A n c), (.int .u8 x5), (.int .i64 y5), (.slice (some ⟨w.heap.size + 1, 0, none⟩) 14 14), (.slice A n c), (.int .u8 x6), (.int .u8 j), undef, undef, (.slice A n c), undef, undef, (.slice A n c), undef, undef, undef, undef, undef, undef, undef, undef, undef, undef, undef, undef, undef, undef, undef, undef, undef, undef, undef, undef, undef, undef, undef, undef, undef, undef, undef, undef, undef, undef, undef, undef, undef, undef, undef, undef, undef, undef, undef, undef, undef, undef, undef, undef, undef, undef, undef, undef, undef, undef, undef, undef, undef, undef, undef, undef, undef, undef, undef, undef, undef, undef, undef, undef, undef, undef, undef, undef, undef, undef, undef, undef, undef, undef, undef, undef, undef, undef, undef, undef], defers := [] } _
        refine takeH (i := 22) (v := .pointer (some ⟨w.heap.size + 1, j, none⟩)) 29 rfl rfl (by kernel_rfl) (by kernel_rfl) (by kernel_rfl) (fun _ _ _ h => h) (by rfl) ?hy24n hS ?rest24n
        case hy24n => (intro W hW; have f0 : (j : Int) < 14 := (by have := HJ.out; omega); clear hW; go_simp; first | done | with_reducible rfl)
        case rest24n => (try simp only [Act.put, List.setIfInBounds_toArray, List.set_cons_zero, List.set_cons_succ]; exact hnext.out _ hS (Below.refl _ _))
      | some g =>
        show wpAnyH _ _ _ _ _ 9 #[true, true, true, true, true, true, true, true, true, true, true, true, true, true, true, true, true, true, true, true, true, true, false, false, true, false, false, true, false, false, false, false, true, false] { tmps := #[.slice A n c, undef, .pointer (some ⟨w.heap.size, 0, none⟩), .slice (some ⟨w.heap.size + 1, 0, none⟩) 14 14, .pointer (some ⟨g, 0, none⟩), undef, .slice (some ⟨w.heap.size + 1, 0, none⟩) 14 14, (.slice A n c), (.int .u8 x0), (.string s0), (.slice A n c), (.int .u8 x1), (.int .i64 y1), (.slice A n c), (.int .u8 x2), (.int .i64 y2), (.slice A n c), (.int .u8 x3), (.int .i64 y3), (.slice A n c), (.int .u8 x4), (.int .i64 y4), (.slice A n c), (.int .u8 x5), (.int .i64 y5), (.slice (some ⟨w.heap.size + 1, 0, none⟩) 14 14), (.slice A n c), (.int .u8 x6), (.int .u8 j), undef, undef, (.slice A n c), undef, undef, (.slice A n c), undef, undef, undef, undef, undef, undef, undef, undef, undef, undef, undef, undef, undef, undef, undef, undef, undef, undef, undef, undef, undef, undef, undef, undef, undef, undef, undef, undef, undef, undef, undef, undef, undef, undef, undef, undef, undef, undef, undef, undef, undef, undef, undef, undef, undef, undef, undef, undef, undef, undef, undef, undef, undef, undef, undef, undef, undef, undef, undef, undef, undef, undef, undef, undef, undef, undef, undef, undef, undef, undef, undef, undef, undef, undef, undef, undef, undef, undef, undef, undef], defers := [] } _
        refine takeH (i := 22) (v := .pointer (some ⟨w.heap.size + 1, j, none⟩)) 29 rfl rfl (by kernel_rfl) (by kernel_rfl) (by kernel_rfl) (fun _ _ _ h => h) (by rfl) ?hy24s hS ?rest24s
        case hy24s => (intro W hW; have f0 : (j : Int) < 14 := (by have := HJ.out; omega); clear hW; go_simp; first | done | with_reducible rfl)
        case rest24s => (try simp only [Act.put, List.setIfInBounds_toArray, List.set_cons_zero, List.set_cons_succ]; exact hnext.out _ hS (Below.refl _ _))
    · intro o w2 hS hR hnext hall
      cases o with
      | none =>
        show wpAnyH _ _ _ _ _ 9 #[true, true, true, true, true, true, true, true, true, true, true, true, true, true, true, true, true, true, true, true, true, true, true, false, true, false, false, true, false, false, false, false, false, false] { tmps := #[.slice A n c, undef, .pointer (some ⟨w.heap.size, 0, none⟩), .slice (some ⟨w.heap.size + 1, 0, none⟩) 14 14, undef, undef, .slice (some ⟨w.heap.size + 1, 0, none⟩) 14 14, (.slice A n c), (.int .u8 x0), (.string s0), (.slice A n c), (.int .u8 x1), (.int .i64 y1), (.slice A n c), (.int .u8 x2), (.int .i64 y2), (.slice A n c), (.int .u8 x3), (.int .i64 y3), (.slice A n c), (.int .u8 x4), (.int .i64 y4), (.slice A n c), (.int .u8 x5), (.int .i64 y5), (.slice (some ⟨w.heap.size + 1, 0, none⟩) 14 14), (.slice A n c), (.int .u8 x6), (.int .u8 j), (.pointer (some ⟨w.heap.size + 1, j, none⟩)), undef, (.slice A n c), undef, undef, (.slice A n c), undef, undef, undef, undef, undef, undef, undef, undef, undef, undef, undef, undef, undef, undef, undef, undef, undef, undef, undef, undef, undef, undef, undef, undef, undef, undef, undef, undef, undef, undef, undef, undef, undef, undef, undef, undef, undef, undef, undef, undef, undef, undef, undef, undef, undef, undef, undef, undef, undef, undef, undef, undef, undef, undef, undef, undef, undef, undef, undef, undef, undef, undef, undef, undef, undef, undef, undef, undef, undef, undef, undef, undef, undef, undef, undef, undef, undef, undef, undef, undef], defers := [] } _
        refine takeH (i := 23) (v := .int .u8 kk) 30 rfl rfl (by kernel_rfl) (by kernel_rfl) (by kernel_rfl) (fun _ _ _ h => h) (by rfl) ?hy25n hS ?rest25n
        case hy25n => (intro W hW; have f0 := HKc.out W hW; clear hW; go_simp; first | done | with_reducible rfl)
        case rest25n => (try simp only [Act.put, List.setIfInBounds_toArray, List.set_cons_zero, List.set_cons_succ]; exact hnext.out _ hS (Below.refl _ _))
      | some g =>
        show wpAnyH _ _ _ _ _ 8 #[true, true, true, true, true, true, true, true, true, true, true, true, true, true, true, true, true, true, true, true, true, true, true, false, true, false, false, true, false, false, false, false, true, false] { tmps := #[.slice A n c, undef, .pointer (some ⟨w.heap.size, 0, none⟩), .slice (some ⟨w.heap.size + 1, 0, none⟩) 14 14, .pointer (some ⟨g, 0, none⟩), undef, .slice (some ⟨w.heap.size + 1, 0, none⟩) 14 14, (.slice A n c), (.int .u8 x0), (.string s0), (.slice A n c), (.int .u8 x1), (.int .i64 y1), (.slice A n c), (.int .u8 x2), (.int .i64 y2), (.slice A n c), (.int .u8 x3), (.int .i64 y3), (.slice A n c), (.int .u8 x4), (.int .i64 y4), (.slice A n c), (.int .u8 x5), (.int .i64 y5), (.slice (some ⟨w.heap.size + 1, 0, none⟩) 14 14), (.slice A n c), (.int .u8 x6), (.int .u8 j), (.pointer (some ⟨w.heap.size + 1, j, none⟩)), undef, (.slice A n c), undef, undef, (.slice A n c), undef, undef, undef, undef, undef, undef, undef, undef, undef, undef, undef, undef, undef, undef, undef, undef, undef, undef, undef, undef, undef, undef, undef, undef, undef, undef, undef, undef, undef, undef, undef, undef, undef, undef, undef, undef, undef, undef, undef, undef, undef, undef, undef, undef, undef, undef, undef, undef, undef, undef, undef, undef, undef, undef, undef, undef, undef, undef, undef, undef, undef, undef, undef, undef, undef, undef, undef, undef, undef, undef, undef, undef, undef, undef, undef, undef, undef, undef, undef, undef], defers := [] } _
        refine takeH (i := 23) (v := .int .u8 kk) 30 rfl rfl (by kernel_rfl) (by kernel_rfl) (by kernel_rfl) (fun _ _ _ h => h) (by rfl) ?hy25s hS ?rest25s
        case hy25s => (intro W hW; have f0 := HKc.out W hW; clear hW; go_simp; first | done | with_reducible rfl)
        case rest25s => (try simp only [Act.put, List.setIfInBounds_toArray, List.set_cons_zero, List.set_cons_succ]; exact hnext.out _ hS (Below.refl _ _))
    · intro o w2 hS hR hnext hall
      cases o with
      | none =>
        show wpAnyH _ _ _ _ _ 8 #[true, true, true, true, true, true, true, true, true, true, true, true, true, true, true, true, true, true, true, true, true, true, true, true, true, false, false, true, false, false, false, false, false, false] { tmps := #[.slice A n c, undef, .pointer (some ⟨w.heap.size, 0, none⟩), .slice (some ⟨w.heap.size + 1, 0, none⟩) 14 14, undef, undef, .slice (some ⟨w.heap.size + 1, 0, none⟩) 14 14, (.slice A n c), (.int .u8 x0), (.string s0), (.slice A n c), (.int .u8 x1), (.int .i64 y1), (.slice A n c), (.int .u8 x2), (.int .i64 y2), (.slice A n c), (.int .u8 x3), (.int .i64 y3), (.slice A n c), (.int .u8 x4), (.int .i64 y4), (.slice A n c), (.int .u8 x5), (.int .i64 y5), (.slice (some ⟨w.heap.size + 1, 0, none⟩) 14 14), (.slice A n c), (.int .u8 x6), (.int .u8 j), (.pointer (some ⟨w.heap.size + 1, j, none⟩)), (.int .u8 kk), (.slice A n c), undef, undef, (.slice A n c), undef, undef, undef, undef, undef, undef, undef, undef, undef, undef, undef, undef, undef, undef, undef, undef, undef, undef, undef, undef, undef, undef, undef, undef, undef, undef, undef, undef, undef, undef, undef, undef, undef, undef, undef, undef, undef, undef, undef, undef, undef, undef, undef, undef, undef, undef, undef, undef, undef, undef, undef, undef, undef, undef, undef, undef, undef, undef, undef, undef, undef, undef, undef, undef, undef, undef, undef, undef, undef, undef, undef, undef, undef, undef, undef, undef, undef, undef, undef, undef], defers := [] } _
        refine twoH (i := 25) (j := 32) 32 4 rfl rfl rfl rfl (by kernel_rfl) (by rfl) (by rfl) (fun K hK => ?_) (fun K hK => ?_)
        · go_simp
          (with_reducible refine (G7.out _ (HS.out _ hS)).mono ?_)
          rintro e w4 ⟨rfl, rfl⟩
          exact hK.out _ _ hS (fun hS => by try simp only [Act.put, List.setIfInBounds_toArray, List.set_cons_zero, List.set_cons_succ]; exact hnext.out _ hS (Below.refl _ _))
        · go_simp
          exact hK.out _ _ (hS.alloc (HLE.out _ hS) _) (fun hS' => by try simp only [Act.put, List.setIfInBounds_toArray, List.set_cons_zero, List.set_cons_succ]; exact hall.out rfl _ _ hS' ⟨HB.new _ {} (.slice none 0 0), HLE.out _ hS⟩)
      | some g =>
        show wpAnyH _ _ _ _ _ 7 #[true, true, true, true, true, true, true, true, true, true, true, true, true, true, true, true, true, true, true, true, true, true, true, true, true, false, false, true, false, false, false, false, true, false] { tmps := #[.slice A n c, undef, .pointer (some ⟨w.heap.size, 0, none⟩), .slice (some ⟨w.heap.size + 1, 0, none⟩) 14 14, .pointer (some ⟨g, 0, none⟩), undef, .slice (some ⟨w.heap.size + 1, 0, none⟩) 14 14, (.slice A n c), (.int .u8 x0), (.string s0), (.slice A n c), (.int .u8 x1), (.int .i64 y1), (.slice A n c), (.int .u8 x2), (.int .i64 y2), (.slice A n c), (.int .u8 x3), (.int .i64 y3), (.slice A n c), (.int .u8 x4), (.int .i64 y4), (.slice A n c), (.int .u8 x5), (.int .i64 y5), (.slice (some ⟨w.heap.size + 1, 0, none⟩) 14 14), (.slice A n c), (.int .u8 x6), (.int .u8 j), (.pointer (some ⟨w.heap.size + 1, j, none⟩)), (.int .u8 kk), (.slice A n c), undef, undef, (.slice A n c), undef, undef, undef, undef, undef, undef, undef, undef, undef, undef, undef, undef, undef, undef, undef, undef, undef, undef, undef, undef, undef, undef, undef, undef, undef, undef, undef, undef, undef, undef, undef, undef, undef, undef, undef, undef, undef, undef, undef, undef, undef, undef, undef, undef, undef, undef, undef, undef, undef, undef, undef, undef, undef, undef, undef, undef, undef, undef, undef, undef, undef, undef, undef, undef, undef, undef, undef, undef, undef, undef, undef, undef, undef, undef, undef, undef, undef, undef, undef, undef], defers := [] } _
        refine loneH (i := 25) 32 rfl rfl (by kernel_rfl) (by rfl) (fun K hK => ?_)
        go_simp
        (with_reducible refine (G7.out _ (HS.out _ hS)).mono ?_)
        rintro e w4 ⟨rfl, rfl⟩
        exact hK.out _ _ hS (fun hS => by try simp only [Act.put, List.setIfInBounds_toArray, List.set_cons_zero, List.set_cons_succ]; exact hnext.out _ hS (Below.refl _ _))
    · intro o w2 hS hR hnext hall
      cases o with
      | none =>
        show wpAnyH _ _ _ _ _ 7 #[true, true, true, true, true, true, true, true, true, true, true, true, true, true, true, true, true, true, true, true, true, true, true, true, true, true, false, true, false, false, false, false, false, false] { tmps := #[.slice A n c, undef, .pointer (some ⟨w.heap.size, 0, none⟩), .slice (some ⟨w.heap.size + 1, 0, none⟩) 14 14, undef, undef, .slice (some ⟨w.heap.size + 1, 0, none⟩) 14 14, (.slice A n c), (.int .u8 x0), (.string s0), (.slice A n c), (.int .u8 x1), (.int .i64 y1), (.slice A n c), (.int .u8 x2), (.int .i64 y2), (.slice A n c), (.int .u8 x3), (.int .i64 y3), (.slice A n c), (.int .u8 x4), (.int .i64 y4), (.slice A n c), (.int .u8 x5), (.int .i64 y5), (.slice (some ⟨w.heap.size + 1, 0, none⟩) 14 14), (.slice A n c), (.int .u8 x6), (.int .u8 j), (.pointer (some ⟨w.heap.size + 1, j, none⟩)), (.int .u8 kk), (.slice A n c), (.int .u8 x7), undef, (.slice A n c), undef, undef, undef, undef, undef, undef, undef, undef, undef, undef, undef, undef, undef, undef, undef, undef, undef, undef, undef, undef, undef, undef, undef, undef, undef, undef, undef, undef, undef, undef, undef, undef, undef, undef, undef, undef, undef, undef, undef, undef, undef, undef, undef, undef, undef, undef, undef, undef, undef, undef, undef, undef, undef, undef, undef, undef, undef, undef, undef, undef, undef, undef, undef, undef, undef, undef, undef, undef, undef, undef, undef, undef, undef, undef, undef, undef, undef, undef, undef, undef], defers := [] } _
        refine twoH (i := 26) (j := 32) 33 4 rfl rfl rfl rfl (by kernel_rfl) (by rfl) (by rfl) (fun K hK => ?_) (fun K hK => ?_)
        · go_simp
          (with_reducible refine (N7.out _).mono ?_)
          rintro e w4 ⟨rfl, b4⟩
          exact hK.out _ _ (hS.trans (b4.mono (HLE.out _ hS))) (fun hS => by try simp only [Act.put, List.setIfInBounds_toArray, List.set_cons_zero, List.set_cons_succ]; exact hnext.out _ hS b4)
        · go_simp
          exact hK.out _ _ (hS.alloc (HLE.out _ hS) _) (fun hS' => by try simp only [Act.put, List.setIfInBounds_toArray, List.set_cons_zero, List.set_cons_succ]; exact hall.out rfl _ _ hS' ⟨HB.new _ {} (.slice none 0 0), HLE.out _ hS⟩)
      | some g =>
        show wpAnyH _ _ _ _ _ 6 #[true, true, true, true, true, true, true, true, true, true, true, true, true, true, true, true, true, true, true, true, true, true, true, true, true, true, false, true, false, false, false, false, true, false] { tmps := #[.slice A n c, undef, .pointer (some ⟨w.heap.size, 0, none⟩), .slice (some ⟨w.heap.size + 1, 0, none⟩) 14 14, .pointer (some ⟨g, 0, none⟩), undef, .slice (some ⟨w.heap.size + 1, 0, none⟩) 14 14, (.slice A n c), (.int .u8 x0), (.string s0), (.slice A n c), (.int .u8 x1), (.int .i64 y1), (.slice A n c), (.int .u8 x2), (.int .i64 y2), (.slice A n c), (.int .u8 x3), (.int .i64 y3), (.slice A n c), (.int .u8 x4), (.int .i64 y4), (.slice A n c), (.int .u8 x5), (.int .i64 y5), (.slice (some ⟨w.heap.size + 1, 0, none⟩) 14 14), (.slice A n c), (.int .u8 x6), (.int .u8 j), (.pointer (some ⟨w.heap.size + 1, j, none⟩)), (.int .u8 kk), (.slice A n c), (.int .u8 x7), undef, (.slice A n c), undef, undef, undef, undef, undef, undef, undef, undef, undef, undef, undef, undef, undef, undef, undef, undef, undef, undef, undef, undef, undef, undef, undef, undef, undef, undef, undef, undef, undef, undef, undef, undef, undef, undef, undef, undef, undef, undef, undef, undef, undef, undef, undef, undef, undef, undef, undef, undef, undef, undef, undef, undef, undef, undef, undef, undef, undef, undef, undef, undef, undef, undef, undef, undef, undef, undef, undef, undef, undef, undef, undef, undef, undef, undef, undef, undef, undef, undef, undef, undef], defers := [] } _
        refine loneH (i := 26) 33 rfl rfl (by kernel_rfl) (by rfl) (fun K hK => ?_)
        go_simp
        (with_reducible refine (N7.out _).mono ?_)
        rintro e w4 ⟨rfl, b4⟩
        exact hK.out _ _ (hS.trans (b4.mono (HLE.out _ hS))) (fun hS => by try simp only [Act.put, List.setIfInBounds_toArray, List.set_cons_zero, List.set_cons_succ]; exact hnext.out _ hS b4)
    · intro o w2 hS hR hnext hall
      cases o with
      | none =>
        show wpAnyH _ _ _ _ _ 6 #[true, true, true, true, true, true, true, true, true, true, true, true, true, true, true, true, true, true, true, true, true, true, true, true, true, true, true, true, false, false, false, false, false, false] { tmps := #[.slice A n c, undef, .pointer (some ⟨w.heap.size, 0, none⟩), .slice (some ⟨w.heap.size + 1, 0, none⟩) 14 14, undef, undef, .slice (some ⟨w.heap.size + 1, 0, none⟩) 14 14, (.slice A n c), (.int .u8 x0), (.string s0), (.slice A n c), (.int .u8 x1), (.int .i64 y1), (.slice A n c), (.int .u8 x2), (.int .i64 y2), (.slice A n c), (.int .u8 x3), (.int .i64 y3), (.slice A n c), (.int .u8 x4), (.int .i64 y4), (.slice A n c), (.int .u8 x5), (.int .i64 y5), (.slice (some ⟨w.heap.size + 1, 0, none⟩) 14 14), (.slice A n c), (.int .u8 x6), (.int .u8 j), (.pointer (some ⟨w.heap.size + 1, j, none⟩)), (.int .u8 kk), (.slice A n c), (.int .u8 x7), (.string s7), (.slice A n c), undef, undef, undef, undef, undef, undef, undef, undef, undef, undef, undef, undef, undef, undef, undef, undef, undef, undef, undef, undef, undef, undef, undef, undef, undef, undef, undef, undef, undef, undef, undef, undef, undef, undef, undef, undef, undef, undef, undef, undef, undef, undef, undef, undef, undef, undef, undef, undef, undef, undef, undef, undef, undef, undef, undef, undef, undef, undef, undef, undef, undef, undef, undef, undef, undef, undef, undef, undef, undef, undef, undef, undef, undef, undef, undef, undef, undef, undef, undef, undef], defers := [] } _
        refine twoH (i := 28) (j := 32) 35 4 rfl rfl rfl rfl (by kernel_rfl) (by rfl) (by rfl) (fun K hK => ?_) (fun K hK => ?_)
        · go_simp
          (with_reducible refine (G8.out _ (HS.out _ hS)).mono ?_)
          rintro e w4 ⟨rfl, rfl⟩
          exact hK.out _ _ hS (fun hS => by try simp only [Act.put, List.setIfInBounds_toArray, List.set_cons_zero, List.set_cons_succ]; exact hnext.out _ hS (Below.refl _ _))
        · go_simp
          exact hK.out _ _ (hS.alloc (HLE.out _ hS) _) (fun hS' => by try simp only [Act.put, List.setIfInBounds_toArray, List.set_cons_zero, List.set_cons_succ]; exact hall.out rfl _ _ hS' ⟨HB.new _ {} (.slice none 0 0), HLE.out _ hS⟩)
      | some g =>
        show wpAnyH _ _ _ _ _ 5 #[true, true, true, true, true, true, true, true, true, true, true, true, true, true, true, true, true, true, true, true, true, true, true, true, true, true, true, true, false, false, false, false, true, false] { tmps := #[.slice A n c, undef, .pointer (some ⟨w.heap.size, 0, none⟩), .slice (some ⟨w.heap.size + 1, 0, none⟩) 14 14, .pointer (some ⟨g, 0, none⟩), undef, .slice (some ⟨w.heap.size + 1, 0, none⟩) 14 14, (.slice A n c), (.int .u8 x0), (.string s0), (.slice A n c), (.int .u8 x1), (.int .i64 y1), (.slice A n c), (.int .u8 x2), (.int .i64 y2), (.slice A n c), (.int .u8 x3), (.int .i64 y3), (.slice A n c), (.int .u8 x4), (.int .i64 y4), (.slice A n c), (.int .u8 x5), (.int .i64 y5), (.slice (some ⟨w.heap.size + 1, 0, none⟩) 14 14), (.slice A n c), (.int .u8 x6), (.int .u8 j), (.pointer (some ⟨w.heap.size + 1, j, none⟩)), (.int .u8 kk), (.slice A n c), (.int .u8 x7), (.string s7), (.slice A n c), undef, undef, undef, undef, undef, undef, undef, undef, undef, undef, undef, undef, undef, undef, undef, undef, undef, undef, undef, undef, undef, undef, undef, undef, undef, undef, undef, undef, undef, undef, undef, undef, undef, undef, undef, undef, undef, undef, undef, undef, undef, undef, undef, undef, undef, undef, undef, undef, undef, undef, undef, undef, undef, undef, undef, undef, undef, undef, undef, undef, undef, undef, undef, undef, undef, undef, undef, undef, undef, undef, undef, undef, undef, undef, undef, undef, undef, undef, undef, undef], defers := [] } _
        refine loneH (i := 28) 35 rfl rfl (by kernel_rfl) (by rfl) (fun K hK => ?_)
        go_simp
        (with_reducible refine (G8.out _ (HS.out _ hS)).mono ?_)
        rintro e w4 ⟨rfl, rfl⟩
        exact hK.out _ _ hS (fun hS => by try simp only [Act.put, List.setIfInBounds_toArray, List.set_cons_zero, List.set_cons_succ]; exact hnext.out _ hS (Below.refl _ _))
    · intro o w2 hS hR hnext hall
      cases o with
      | none =>
        show wpAnyH _ _ _ _ _ 5 #[true, true, true, true, true, true, true, true, true, true, true, true, true, true, true, true, true, true, true, true, true, true, true, true, true, true, true, true, true, false, false, false, false, false] { tmps := #[.slice A n c, undef, .pointer (some ⟨w.heap.size, 0, none⟩), .slice (some ⟨w.heap.size + 1, 0, none⟩) 14 14, undef, undef, .slice (some ⟨w.heap.size + 1, 0, none⟩) 14 14, (.slice A n c), (.int .u8 x0), (.string s0), (.slice A n c), (.int .u8 x1), (.int .i64 y1), (.slice A n c), (.int .u8 x2), (.int .i64 y2), (.slice A n c), (.int .u8 x3), (.int .i64 y3), (.slice A n c), (.int .u8 x4), (.int .i64 y4), (.slice A n c), (.int .u8 x5), (.int .i64 y5), (.slice (some ⟨w.heap.size + 1, 0, none⟩) 14 14), (.slice A n c), (.int .u8 x6), (.int .u8 j), (.pointer (some ⟨w.heap.size + 1, j, none⟩)), (.int .u8 kk), (.slice A n c), (.int .u8 x7), (.string s7), (.slice A n c), (.int .u8 x8), undef, undef, undef, undef, undef, undef, undef, undef, undef, undef, undef, undef, undef, undef, undef, undef, undef, undef, undef, undef, undef, undef, undef, undef, undef, undef, undef, undef, undef, undef, undef, undef, undef, undef, undef, undef, undef, undef, undef, undef, undef, undef, undef, undef, undef, undef, undef, undef, undef, undef, undef, undef, undef, undef, undef, undef, undef, undef, undef, undef, undef, undef, undef, undef, undef, undef, undef, undef, undef, undef, undef, undef, undef, undef, undef, undef, undef, undef, undef], defers := [] } _
        refine takeH (i := 29) (v := .int .u8 m8) 36 rfl rfl (by kernel_rfl) (by kernel_rfl) (by kernel_rfl) (fun _ _ _ h => h) (by rfl) ?hy29n hS ?rest29n
        case hy29n => (intro W hW; have f0 := E3.out; have f1 := EM.out; clear hW; go_simp; first | done | with_reducible rfl)
        case rest29n => (try simp only [Act.put, List.setIfInBounds_toArray, List.set_cons_zero, List.set_cons_succ]; exact hnext.out _ hS (Below.refl _ _))
      | some g =>
        show wpAnyH _ _ _ _ _ 4 #[true, true, true, true, true, true, true, true, true, true, true, true, true, true, true, true, true, true, true, true, true, true, true, true, true, true, true, true, true, false, false, false, true, false] { tmps := #[.slice A n c, undef, .pointer (some ⟨w.heap.size, 0, none⟩), .slice (some ⟨w.heap.size + 1, 0, none⟩) 14 14, .pointer (some ⟨g, 0, none⟩), undef, .slice (some ⟨w.heap.size + 1, 0, none⟩) 14 14, (.slice A n c), (.int .u8 x0), (.string s0), (.slice A n c), (.int .u8 x1), (.int .i64 y1), (.slice A n c), (.int .u8 x2), (.int .i64 y2), (.slice A n c), (.int .u8 x3), (.int .i64 y3), (.slice A n c), (.int .u8 x4), (.int .i64 y4), (.slice A n c), (.int .u8 x5), (.int .i64 y5), (.slice (some ⟨w.heap.size + 1, 0, none⟩) 14 14), (.slice A n c), (.int .u8 x6), (.int .u8 j), (.pointer (some ⟨w.heap.size + 1, j, none⟩)), (.int .u8 kk), (.slice A n c), (.int .u8 x7), (.string s7), (.slice A n c), (.int .u8 x8), undef, undef, undef, undef, undef, undef, undef, undef, undef, undef, undef, undef, undef, undef, undef, undef, undef, undef, undef, undef, undef, undef, undef, undef, undef, undef, undef, undef, undef, undef, undef, undef, undef, undef, undef, undef, undef, undef, undef, undef, undef, undef, undef, undef, undef, undef, undef, undef, undef, undef, undef, undef, undef, undef, undef, undef, undef, undef, undef, undef, undef, undef, undef, undef, undef, undef, undef, undef, undef, undef, undef, undef, undef, undef, undef, undef, undef, undef, undef], defers := [] } _
        refine takeH (i := 29) (v := .int .u8 m8) 36 rfl rfl (by kernel_rfl) (by kernel_rfl) (by kernel_rfl) (fun _ _ _ h => h) (by rfl) ?hy29s hS ?rest29s
        case hy29s => (intro W hW; have f0 := E3.out; have f1 := EM.out; clear hW; go_simp; first | done | with_reducible rfl)
        case rest29s => (try simp only [Act.put, List.setIfInBounds_toArray, List.set_cons_zero, List.set_cons_succ]; exact hnext.out _ hS (Below.refl _ _))
    · intro o w2 hS hR hnext hall
      cases o with
      | none =>
        show wpAnyH _ _ _ _ _ 4 #[true, true, true, true, true, true, true, true, true, true, true, true, true, true, true, true, true, true, true, true, true, true, true, true, true, true, true, true, true, true, false, false, false, false] { tmps := #[.slice A n c, undef, .pointer (some ⟨w.heap.size, 0, none⟩), .slice (some ⟨w.heap.size + 1, 0, none⟩) 14 14, undef, undef, .slice (some ⟨w.heap.size + 1, 0, none⟩) 14 14, (.slice A n c), (.int .u8 x0), (.string s0), (.slice A n c), (.int .u8 x1), (.int .i64 y1), (.slice A n c), (.int .u8 x2), (.int .i64 y2), (.slice A n c), (.int .u8 x3), (.int .i64 y3), (.slice A n c), (.int .u8 x4), (.int .i64 y4), (.slice A n c), (.int .u8 x5), (.int .i64 y5), (.slice (some ⟨w.heap.size + 1, 0, none⟩) 14 14), (.slice A n c), (.int .u8 x6), (.int .u8 j), (.pointer (some ⟨w.heap.size + 1, j, none⟩)), (.int .u8 kk), (.slice A n c), (.int .u8 x7), (.string s7), (.slice A n c), (.int .u8 x8), (.int .u8 m8), undef, undef, undef, undef, undef, undef, undef, undef, undef, undef, undef, undef, undef, undef, undef, undef, undef, undef, undef, undef, undef, undef, undef, undef, undef, undef, undef, undef, undef, undef, undef, undef, undef, undef, undef, undef, undef, undef, undef, undef, undef, undef, undef, undef, undef, undef, undef, undef, undef, undef, undef, undef, undef, undef, undef, undef, undef, undef, undef, undef, undef, undef, undef, undef, undef, undef, undef, undef, undef, undef, undef, undef, undef, undef, undef, undef, undef, undef], defers := [] } _
        refine takeH (i := 30) (v := .int .i64 m8) 37 rfl rfl (by kernel_rfl) (by kernel_rfl) (by kernel_rfl) (fun _ _ _ h => h) (by rfl) ?hy30n hS ?rest30n
        case hy30n => (intro W hW; have f0 := EI.out; clear hW; go_simp; first | done | with_reducible rfl)
        case rest30n => (try simp only [Act.put, List.setIfInBounds_toArray, List.set_cons_zero, List.set_cons_succ]; exact hnext.out _ hS (Below.refl _ _))
      | some g =>
        show wpAnyH _ _ _ _ _ 3 #[true, true, true, true, true, true, true, true, true, true, true, true, true, true, true, true, true, true, true, true, true, true, true, true, true, true, true, true, true, true, false, false, true, false] { tmps := #[.slice A n c, undef, .pointer (some ⟨w.heap.size, 0, none⟩), .slice (some ⟨w.heap.size + 1, 0, none⟩) 14 14, .pointer (some ⟨g, 0, none⟩), undef, .slice (some ⟨w.heap.size + 1, 0, none⟩) 14 14, (.slice A n c), (.int .u8 x0), (.string s0), (.slice A n c), (.int .u8 x1), (.int .i64 y1), (.slice A n c), (.int .u8 x2), (.int .i64 y2), (.slice A n c), (.int .u8 x3), (.int .i64 y3), (.slice A n c), (.int .u8 x4), (.int .i64 y4), (.slice A n c), (.int .u8 x5), (.int .i64 y5), (.slice (some ⟨w.heap.size + 1, 0, none⟩) 14 14), (.slice A n c), (.int .u8 x6), (.int .u8 j), (.pointer (some ⟨w.heap.size + 1, j, none⟩)), (.int .u8 kk), (.slice A n c), (.int .u8 x7), (.string s7), (.slice A n c), (.int .u8 x8), (.int .u8 m8), undef, undef, undef, undef, undef, undef, undef, undef, undef, undef, undef, undef, undef, undef, undef, undef, undef, undef, undef, undef, undef, undef, undef, undef, undef, undef, undef, undef, undef, undef, undef, undef, undef, undef, undef, undef, undef, undef, undef, undef, undef, undef, undef, undef, undef, undef, undef, undef, undef, undef, undef, undef, undef, undef, undef, undef, undef, undef, undef, undef, undef, undef, undef, undef, undef, undef, undef, undef, undef, undef, undef, undef, undef, undef, undef, undef, undef, undef], defers := [] } _
        refine takeH (i := 30) (v := .int .i64 m8) 37 rfl rfl (by kernel_rfl) (by kernel_rfl) (by kernel_rfl) (fun _ _ _ h => h) (by rfl) ?hy30s hS ?rest30s
        case hy30s => (intro W hW; have f0 := EI.out; clear hW; go_simp; first | done | with_reducible rfl)
        case rest30s => (try simp only [Act.put, List.setIfInBounds_toArray, List.set_cons_zero, List.set_cons_succ]; exact hnext.out _ hS (Below.refl _ _))
    · intro o w2 hS hR hnext hall
      cases o with
      | none =>
        show wpAnyH _ _ _ _ _ 3 #[true, true, true, true, true, true, true, true, true, true, true, true, true, true, true, true, true, true, true, true, true, true, true, true, true, true, true, true, true, true, true, false, false, false] { tmps := #[.slice A n c, undef, .pointer (some ⟨w.heap.size, 0, none⟩), .slice (some ⟨w.heap.size + 1, 0, none⟩) 14 14, undef, undef, .slice (some ⟨w.heap.size + 1, 0, none⟩) 14 14, (.slice A n c), (.int .u8 x0), (.string s0), (.slice A n c), (.int .u8 x1), (.int .i64 y1), (.slice A n c), (.int .u8 x2), (.int .i64 y2), (.slice A n c), (.int .u8 x3), (.int .i64 y3), (.slice A n c), (.int .u8 x4), (.int .i64 y4), (.slice A n c), (.int .u8 x5), (.int .i64 y5), (.slice (some ⟨w.heap.size + 1, 0, none⟩) 14 14), (.slice A n c), (.int .u8 x6), (.int .u8 j), (.pointer (some ⟨w.heap.size + 1, j, none⟩)), (.int .u8 kk), (.slice A n c), (.int .u8 x7), (.string s7), (.slice A n c), (.int .u8 x8), (.int .u8 m8), (.int .i64 m8), undef, undef, undef, undef, undef, undef, undef, undef, undef, undef, undef, undef, undef, undef, undef, undef, undef, undef, undef, undef, undef, undef, undef, undef, undef, undef, undef, undef, undef, undef, undef, undef, undef, undef, undef, undef, undef, undef, undef, undef, undef, undef, undef, undef, undef, undef, undef, undef, undef, undef, undef, undef, undef, undef, undef, undef, undef, undef, undef, undef, undef, undef, undef, undef, undef, undef, undef, undef, undef, undef, undef, undef, undef, undef, undef, undef, undef], defers := [] } _
        refine takeH (i := 31) (v := .agg #[.string s0, .int .i64 y1, .int .i64 y2, .int .i64 y3, .int .i64 y4, .int .i64 y5, .int .u8 kk, .string s7, .int .i64 m8, .string ⟨#[]⟩, .string ⟨#[]⟩, .int .i64 0, .int .i64 0, .string ⟨#[]⟩, .slice none 0 0, .bool false, .int .i64 0]) 38 rfl rfl (by kernel_rfl) (by kernel_rfl) (by kernel_rfl) (fun _ _ _ h => h) (by rfl) ?hy31n hS ?rest31n
        case hy31n => (intro W hW; clear hW; go_simp; first | done | with_reducible rfl)
        case rest31n => (try simp only [Act.put, List.setIfInBounds_toArray, List.set_cons_zero, List.set_cons_succ]; exact hnext.out _ hS (Below.refl _ _))
      | some g =>
        show wpAnyH _ _ _ _ _ 2 #[true, true, true, true, true, true, true, true, true, true, true, true, true, true, true, true, true, true, true, true, true, true, true, true, true, true, true, true, true, true, true, false, true, false] { tmps := #[.slice A n c, undef, .pointer (some ⟨w.heap.size, 0, none⟩), .slice (some ⟨w.heap.size + 1, 0, none⟩) 14 14, .pointer (some ⟨g, 0, none⟩), undef, .slice (some ⟨w.heap.size + 1, 0, none⟩) 14 14, (.slice A n c), (.int .u8 x0), (.string s0), (.slice A n c), (.int .u8 x1), (.int .i64 y1), (.slice A n c), (.int .u8 x2), (.int .i64 y2), (.slice A n c), (.int .u8 x3), (.int .i64 y3), (.slice A n c), (.int .u8 x4), (.int .i64 y4), (.slice A n c), (.int .u8 x5), (.int .i64 y5), (.slice (some ⟨w.heap.size + 1, 0, none⟩) 14 14), (.slice A n c), (.int .u8 x6), (.int .u8 j), (.pointer (some ⟨w.heap.size + 1, j, none⟩)), (.int .u8 kk), (.slice A n c), (.int .u8 x7), (.string s7), (.slice A n c), (.int .u8 x8), (.int .u8 m8), (.int .i64 m8), undef, undef, undef, undef, undef, undef, undef, undef, undef, undef, undef, undef, undef, undef, undef, undef, undef, undef, undef, undef, undef, undef, undef, undef, undef, undef, undef, undef, undef, undef, undef, undef, undef, undef, undef, undef, undef, undef, undef, undef, undef, undef, undef, undef, undef, undef, undef, undef, undef, undef, undef, undef, undef, undef, undef, undef, undef, undef, undef, undef, undef, undef, undef, undef, undef, undef, undef, undef, undef, undef, undef, undef, undef, undef, undef, undef, undef], defers := [] } _
        refine takeH (i := 31) (v := .agg #[.string s0, .int .i64 y1, .int .i64 y2, .int .i64 y3, .int .i64 y4, .int .i64 y5, .int .u8 kk, .string s7, .int .i64 m8, .string ⟨#[]⟩, .string ⟨#[]⟩, .int .i64 0, .int .i64 0, .string ⟨#[]⟩, .slice none 0 0, .bool false, .int .i64 0]) 38 rfl rfl (by kernel_rfl) (by kernel_rfl) (by kernel_rfl) (fun _ _ _ h => h) (by rfl) ?hy31s hS ?rest31s
        case hy31s => (intro W hW; clear hW; go_simp; first | done | with_reducible rfl)
        case rest31s => (try simp only [Act.put, List.setIfInBounds_toArray, List.set_cons_zero, List.set_cons_succ]; exact hnext.out _ hS (Below.refl _ _))
  case hnone =>
    intro w2 hS hall
    show wpAnyH _ _ _ _ _ 2 #[true, true, true, true, true, true, true, true, true, true, true, true, true, true, true, true, true, true, true, true, true, true, true, true, true, true, true, true, true, true, true, true, false, false] { tmps := #[.slice A n c, undef, .pointer (some ⟨w.heap.size, 0, none⟩), .slice (some ⟨w.heap.size + 1, 0, none⟩) 14 14, undef, undef, .slice (some ⟨w.heap.size + 1, 0, none⟩) 14 14, (.slice A n c), (.int .u8 x0), (.string s0), (.slice A n c), (.int .u8 x1), (.int .i64 y1), (.slice A n c), (.int .u8 x2), (.int .i64 y2), (.slice A n c), (.int .u8 x3), (.int .i64 y3), (.slice A n c), (.int .u8 x4), (.int .i64 y4), (.slice A n c), (.int .u8 x5), (.int .i64 y5), (.slice (some ⟨w.heap.size + 1, 0, none⟩) 14 14), (.slice A n c), (.int .u8 x6), (.int .u8 j), (.pointer (some ⟨w.heap.size + 1, j, none⟩)), (.int .u8 kk), (.slice A n c), (.int .u8 x7), (.string s7), (.slice A n c), (.int .u8 x8), (.int .u8 m8), (.int .i64 m8), (.agg #[.string s0, .int .i64 y1, .int .i64 y2, .int .i64 y3, .int .i64 y4, .int .i64 y5, .int .u8 kk, .string s7, .int .i64 m8, .string ⟨#[]⟩, .string ⟨#[]⟩, .int .i64 0, .int .i64 0, .string ⟨#[]⟩, .slice none 0 0, .bool false, .int .i64 0]), undef, undef, undef, undef, undef, undef, undef, undef, undef, undef, undef, undef, undef, undef, undef, undef, undef, undef, undef, undef, undef, undef, undef, undef, undef, undef, undef, undef, undef, undef, undef, undef, undef, undef, undef, undef, undef, undef, undef, undef, undef, undef, undef, undef, undef, undef, undef, undef, undef, undef, undef, undef, undef, undef, undef, undef, undef, undef, undef, undef, undef, undef, undef, undef, undef, undef, undef, undef, undef, undef, undef, undef, undef, undef, undef, undef], defers := [] } _
    refine loneH (i := 32) 4 rfl rfl (by kernel_rfl) (by rfl) (fun K hK => ?_)
    go_simp
    exact hK.out _ _ (hS.alloc (HLE.out _ hS) _) (fun hS' => by try simp only [Act.put, List.setIfInBounds_toArray, List.set_cons_zero, List.set_cons_succ]; exact hall _ _ hS' ⟨HB.new _ {} (.slice none 0 0), HLE.out _ hS⟩)
  case hend =>
    intro g w2 hS hR
    obtain ⟨hbx, hgw⟩ := hR
    have hst2 := store_row w2 g _ 28 (hcells { name := s0, mode := y1, uid := y2, gid := y3, size := y4, mtime := y5, kind := kk, link := s7, way := m8 } (.slice none 0 0)).toList hbx rfl (by intro v hv; simp [hcells] at hv; rcases hv with rfl | rfl | rfl | rfl | rfl | rfl | rfl | rfl | rfl | rfl | rfl | rfl | rfl | rfl | rfl | rfl | rfl <;> rfl)
    show wpAnyH _ _ _ _ _ 1 #[true, true, true, true, true, true, true, true, true, true, true, true, true, true, true, true, true, true, true, true, true, true, true, true, true, true, true, true, true, true, true, true, true, false] { tmps := #[.slice A n c, undef, .pointer (some ⟨w.heap.size, 0, none⟩), .slice (some ⟨w.heap.size + 1, 0, none⟩) 14 14, .pointer (some ⟨g, 0, none⟩), undef, .slice (some ⟨w.heap.size + 1, 0, none⟩) 14 14, (.slice A n c), (.int .u8 x0), (.string s0), (.slice A n c), (.int .u8 x1), (.int .i64 y1), (.slice A n c), (.int .u8 x2), (.int .i64 y2), (.slice A n c), (.int .u8 x3), (.int .i64 y3), (.slice A n c), (.int .u8 x4), (.int .i64 y4), (.slice A n c), (.int .u8 x5), (.int .i64 y5), (.slice (some ⟨w.heap.size + 1, 0, none⟩) 14 14), (.slice A n c), (.int .u8 x6), (.int .u8 j), (.pointer (some ⟨w.heap.size + 1, j, none⟩)), (.int .u8 kk), (.slice A n c), (.int .u8 x7), (.string s7), (.slice A n c), (.int .u8 x8), (.int .u8 m8), (.int .i64 m8), (.agg (hcells { name := s0, mode := y1, uid := y2, gid := y3, size := y4, mtime := y5, kind := kk, link := s7, way := m8 } (.slice none 0 0))), undef, undef, undef, undef, undef, undef, undef, undef, undef, undef, undef, undef, undef, undef, undef, undef, undef, undef, undef, undef, undef, undef, undef, undef, undef, undef, undef, undef, undef, undef, undef, undef, undef, undef, undef, undef, undef, undef, undef, undef, undef, undef, undef, undef, undef, undef, undef, undef, undef, undef, undef, undef, undef, undef, undef, undef, undef, undef, undef, undef, undef, undef, undef, undef, undef, undef, undef, undef, undef, undef, undef, undef, undef, undef, undef, undef], defers := [] } _
    refine loneN (i := 33) rfl rfl (by kernel_rfl) (by rfl) (fun K hK => ?_)
    go_simp
    have B3 : Below (w.heap.size + 2) w1 (w2.setRow g (hcells { name := s0, mode := y1, uid := y2, gid := y3, size := y4, mtime := y5, kind := kk, link := s7, way := m8 } (.slice none 0 0))) := below_setRow hS hgw _
    have D3 : HD w (w2.setRow g (hcells { name := s0, mode := y1, uid := y2, gid := y3, size := y4, mtime := y5, kind := kk, link := s7, way := m8 } (.slice none 0 0))) g { name := s0, mode := y1, uid := y2, gid := y3, size := y4, mtime := y5, kind := kk, link := s7, way := m8 } (.slice none 0 0) :=
      ⟨setRow_heap _ _ _ _ _ _ hbx, (setRow_other _ _ _ _ (by omega)).trans (HZ.out _ hS).2.1, by omega, PartsIs.nil _ _, Nat.zero_le _, HMB.out, (by intro p hp; cases hp), HKB.out,
        (by have := HYB.out; have := HX.out; dsimp only; omega), ⟨HSB.out.1, HSB.out.2.1, Nat.zero_le _, Nat.zero_le _, Nat.zero_le _⟩, HS.out _ B3⟩
    refine hK.out _ _ B3 (fun hS3 => ?_)
    clear hK K
    refine wpAnyH_done (by kernel_rfl) ?_ _
    have HD3 := hid D3
    clear D3 B3 hS3 hbx hst2 hS
    try simp only [Act.put, List.setIfInBounds_toArray, List.set_cons_zero, List.set_cons_succ]
    generalize (w2.setRow g _) = w3 at *
    obtain ⟨h0, hh0⟩ : ∃ h : M.Hdr, ({ name := s0, mode := y1, uid := y2, gid := y3, size := y4, mtime := y5, kind := kk, link := s7, way := m8 } : M.Hdr) = h := ⟨_, rfl⟩
    have hp0 : h0.parts = [] := by rw [← hh0]
    rw [hh0] at HD3 ⊢
    have HP0 := hid hp0
    clear hh0 hp0 hgw
    go_wp2_with fail
    go_upto_if 41 with ((with_reducible refine (G6.out _ HD3.out.below).mono ?_); rintro e w9 ⟨rfl, rfl⟩)
    go_cut [42] from 42 to 42 (fun _ wc => ∃ h, Hid (HD w wc g h (.slice none 0 0)) ∧ Hid (h.parts = []))
    case first =>
      have f6 := HB.frozen HD3.out.box 6
      have k6 := HD3.out.cell (i := 6) (v := .int .u8 h0.kind) rfl
      by_cases hk6 : 250 < x6
      · go_wp2_with fail
        go_meet
        case rel => exact ⟨_, hid (HD3.out.set (h' := { h0 with kind := 122 }) 6 _ rfl rfl HD3.out.way ⟨show (0 : Int) ≤ 122 by decide, show (122 : Int) ≤ 255 by decide⟩ HD3.out.ints HD3.out.texts), HP0⟩
      · go_wp2_with fail
        go_meet
        case rel => exact ⟨h0, HD3, HP0⟩
    case rest =>
      obtain ⟨h1, HD4, HP4⟩ := hcut
      clear HD3 HP0
      have k6 := HD4.out.cell (i := 6) (v := .int .u8 h1.kind) rfl
      obtain ⟨b83, hb83⟩ : ∃ b, (h1.kind == 83) = b := ⟨_, rfl⟩
      go_upto_if 45 with fail
      clear hb83
      go_cut [5, 45] from 46 to 76 (fun _ _ wc => ∃ h pv, Hid (HD w wc g h pv))
      case first =>
        cases b83
        case true =>
          have k8 := HD4.out.cell (i := 8) (v := .int .i64 h1.way) rfl
          have f8 := HB.frozen HD4.out.box 8
          go_wp2_with fail
          have HD5 := hid (HD4.out.set (h' := { h1 with way := 2 }) 8 (.int .i64 2) rfl rfl ⟨show (0 : Int) ≤ 2 by decide, show (2 : Int) ≤ 2 by decide⟩ HD4.out.kind HD4.out.ints HD4.out.texts)
          have HP5 := hid (show ({ h1 with way := 2 } : M.Hdr).parts = [] from HP4.out)
          generalize ({ h1 with way := 2 } : M.Hdr) = h5 at *
          clear k6 k8 f8
          go_loopw [5] (fun i wr => ∃ (k : Nat) (h2 : M.Hdr) (A1 : Option Addr) (n1 c1 : Nat), i = .int .i64 k ∧ k ≤ 4 ∧ Hid (HD w wr g h2 (.slice A1 n1 c1)) ∧ Hid (OwnP wr (g + 1) (.slice A1 n1 c1) h2.parts) ∧ Hid (h2.parts.length = k)) (fun i _ => 5 - (RowKit.intOf i).toNat)
          case atStart => exact ⟨0, h5, none, 0, 0, rfl, by decide, HD5, hid (by rw [HP5.out]; exact OwnP.nil _ _), hid (by rw [HP5.out]; rfl)⟩
          case round =>
            obtain ⟨k, h2, A1, n1, c1, rfl, hk, HDr, HOr, HLn⟩ := hrel
            clear HD5 HD4 HP5 HP4
            have e5 := E5.out
            have ew5 := EW5.out
            have ei5 := EI5.out
            go_wp2_with fail
            (with_reducible refine (G9.out _ HDr.out.below).mono ?_)
            rintro e w9 ⟨rfl, rfl⟩
            by_cases hkm : k < m9
            · go_wp2_with fail
              obtain ⟨xg, hxg, Gx0⟩ := GI.out (10 + k) (by omega)
              obtain ⟨yg, hyg, Yg0⟩ := HY.out xg hxg
              have Gx := hid (fun (W : World) (hW : Below w.heap.size w W) => (show ((10 + k : Nat) : Int) = 10 + (k : Int) by omega) ▸ Gx0 W hW)
              have Yg := hid Yg0
              have EK5 := hid (show IntKind.i64.wrap (512 * (k : Int)) = 512 * (k : Int) from IntWalk.i64_in _ (by omega))
              have EK1 := hid (show IntKind.i64.wrap (10 + (k : Int)) = 10 + (k : Int) from IntWalk.i64_in _ (by omega))
              have EY := hid (show IntKind.i64.wrap (1 + yg) = 1 + yg from IntWalk.i64_in _ (by omega))
              have HPQ := hid (show (-9223372036854775808 ≤ (512 * (k : Int)) ∧ (512 * (k : Int)) ≤ 9223372036854775807) ∧ (-9223372036854775808 ≤ 1 + yg ∧ 1 + yg ≤ 9223372036854775807) by omega)
              clear Gx0 Yg0 hxg hyg e5 ew5 ei5
              refine wp_region_held_drew (S := fun W => Below g wr W) (by kernel_rfl) (below_drw (Below.refl _ _)) (fun hS => ?_)
              have HOc := hid (OwnP.later HOr.out (below_drw (Below.refl _ _)))
              have HDc := hid (HDr.out.later (below_drw (Below.refl _ _)))
              clear HOr HDr
              refine takeH (i := 0) (v := .pointer (some ⟨g, 14, none⟩)) 55 rfl rfl (by kernel_rfl) (by kernel_rfl) (by kernel_rfl) (fun _ _ _ h => h) (by rfl) ?hz0z hS ?rz0z
              case hz0z => (intro W hW; clear hW; go_simp; first | done | with_reducible rfl)
              try simp only [Act.put, List.setIfInBounds_toArray, List.set_cons_zero, List.set_cons_succ]
              refine takeH (i := 2) (v := .int .i64 (k : Int)) 57 rfl rfl (by kernel_rfl) (by kernel_rfl) (by kernel_rfl) (fun _ _ _ h => h) (by rfl) ?hz2z hS ?rz2z
              case hz2z => (intro W hW; clear hW; go_simp; first | done | with_reducible rfl)
              try simp only [Act.put, List.setIfInBounds_toArray, List.set_cons_zero, List.set_cons_succ]
              refine takeH (i := 3) (v := .int .i64 (512 * (k : Int))) 58 rfl rfl (by kernel_rfl) (by kernel_rfl) (by kernel_rfl) (fun _ _ _ h => h) (by rfl) ?hz3z hS ?rz3z
              case hz3z => (intro W hW; have f0 := EK5.out; clear hW; go_simp; first | done | with_reducible rfl)
              try simp only [Act.put, List.setIfInBounds_toArray, List.set_cons_zero, List.set_cons_succ]
              refine takeH (i := 4) (v := .slice A n c) 59 rfl rfl (by kernel_rfl) (by kernel_rfl) (by kernel_rfl) (fun _ _ _ h => h) (by rfl) ?hz4z hS ?rz4z
              case hz4z => (intro W hW; clear hW; go_simp; first | done | with_reducible rfl)
              try simp only [Act.put, List.setIfInBounds_toArray, List.set_cons_zero, List.set_cons_succ]
              refine takeH (i := 5) (v := .int .i64 (k : Int)) 60 rfl rfl (by kernel_rfl) (by kernel_rfl) (by kernel_rfl) (fun _ _ _ h => h) (by rfl) ?hz5z hS ?rz5z
              case hz5z => (intro W hW; clear hW; go_simp; first | done | with_reducible rfl)
              try simp only [Act.put, List.setIfInBounds_toArray, List.set_cons_zero, List.set_cons_succ]
              refine takeH (i := 6) (v := .int .i64 (10 + (k : Int))) 61 rfl rfl (by kernel_rfl) (by kernel_rfl) (by kernel_rfl) (fun _ _ _ h => h) (by rfl) ?hz6z hS ?rz6z
              case hz6z => (intro W hW; have f0 := EK1.out; clear hW; go_simp; first | done | with_reducible rfl)
              try simp only [Act.put, List.setIfInBounds_toArray, List.set_cons_zero, List.set_cons_succ]
              refine twoH (i := 1) (j := 7) 56 62 rfl rfl rfl rfl (by kernel_rfl) (by rfl) (by rfl) (fun K hK => ?_) (fun K hK => ?_)
              · skip
                have k14 := HDc.out.cell (i := 14) (v := .slice A1 n1 c1) rfl
                go_simp
                refine hK.out _ _ hS (fun hS => ?_)
                clear hK K k14
                try simp only [Act.put, List.setIfInBounds_toArray, List.set_cons_zero, List.set_cons_succ]
                refine loneH (i := 7) 62 rfl rfl (by kernel_rfl) (by rfl) (fun K hK => ?_)
                go_simp
                (with_reducible refine (Gx.out _ HDc.out.below).mono ?_)
                rintro e w9 ⟨rfl, rfl⟩
                refine hK.out _ _ hS (fun hS => ?_)
                clear hK K
                try simp only [Act.put, List.setIfInBounds_toArray, List.set_cons_zero, List.set_cons_succ]
                refine loneH (i := 8) 63 rfl rfl (by kernel_rfl) (by rfl) (fun K hK => ?_)
                go_simp
                (with_reducible refine (Yg.out _).mono ?_)
                rintro e w4 ⟨rfl, b4⟩
                have HOc := hid (OwnP.later HOc.out b4)
                have B4 := hS.trans (b4.mono (Nat.le_of_lt (HB.lt HDc.out.box)))
                have HDc := hid (HDc.out.later b4)
                clear b4
                refine hK.out _ _ B4 (fun hS => ?_)
                clear hK K B4
                try simp only [Act.put, List.setIfInBounds_toArray, List.set_cons_zero, List.set_cons_succ]
                refine takeH (i := 9) (v := .int .i64 (1 + yg)) 64 rfl rfl (by kernel_rfl) (by kernel_rfl) (by kernel_rfl) (fun _ _ _ h => h) (by rfl) ?hz9m1 hS ?rz9m1
                case hz9m1 => (intro W hW; have f0 := EY.out; clear hW; go_simp; first | done | with_reducible rfl)
                try simp only [Act.put, List.setIfInBounds_toArray, List.set_cons_zero, List.set_cons_succ]
                refine takeH (i := 10) (v := .agg #[.int .i64 (512 * (k : Int)), .int .i64 (1 + yg)]) 65 rfl rfl (by kernel_rfl) (by kernel_rfl) (by kernel_rfl) (fun _ _ _ h => h) (by rfl) ?hz10m1 hS ?rz10m1
                case hz10m1 => (intro W hW; clear hW; go_simp; first | done | with_reducible rfl)
                try simp only [Act.put, List.setIfInBounds_toArray, List.set_cons_zero, List.set_cons_succ]
                refine loneH (i := 11) 66 rfl rfl (by kernel_rfl) (by rfl) (fun K hK => ?_)
                go_simp
                have HBk := hid (heap_alloc_new w4 (.cells #[.int .i64 (512 * (k : Int)), .int .i64 (1 + yg)] 43))
                have bA : Below w4.heap.size w4 (w4.alloc (.cells #[.int .i64 (512 * (k : Int)), .int .i64 (1 + yg)] 43)) := (Below.refl _ _).alloc (Nat.le_refl _) _
                have B4 := hS.trans (bA.mono (Nat.le_of_lt (HB.lt HDc.out.box)))
                have HOc := hid (OwnP.later HOc.out bA)
                have HDc := hid (HDc.out.later bA)
                refine hK.out _ _ B4 (fun hS => ?_)
                clear hK K B4 bA
                try simp only [Act.put, List.setIfInBounds_toArray, List.set_cons_zero, List.set_cons_succ]
                refine loneH (i := 12) 67 rfl rfl (by kernel_rfl) (by rfl) (fun K hK => ?_)
                refine wp_appP (.tmp 56) (.tmp 66) rfl (g + 1) (.slice A1 n1 c1) h2.parts _ _ rfl HOc.out (HB.lt HDc.out.box) _ rfl HBk.out (by have := HLn.out; omega) ?_
                intro v' w5 ho5 hb5
                obtain ⟨A5, c5, hv5, _, _⟩ := ho5.out.parts
                generalize (h2.parts ++ [_]).length = n5 at hv5
                subst hv5
                have HN := hid (HDc.out.next ho5.out hb5.out (by have := HLn.out; omega) HPQ.out.1 HPQ.out.2)
                have k14 : w5.cell? ⟨g, 14, none⟩ = some (.slice A1 n1 c1) := (hb5.out.cell (p := ⟨g, 14, none⟩) (Nat.lt_succ_self _)).trans (HDc.out.cell (i := 14) rfl)
                have f14 : w5.frozen? ⟨g, 14, none⟩ = false := HB.frozen (HB.below HDc.out.box hb5.out (Nat.lt_succ_self _)) 14
                have B5 := hS.trans (hb5.out.mono (Nat.le_succ _))
                clear ho5 hb5 HBk HOc HDc
                refine hK.out _ _ B5 (fun hS => ?_)
                clear hK K B5
                try simp only [Act.put, List.setIfInBounds_toArray, List.set_cons_zero, List.set_cons_succ]
                refine takeH (i := 13) (v := .pointer (some ⟨g, 14, none⟩)) 68 rfl rfl (by kernel_rfl) (by kernel_rfl) (by kernel_rfl) (fun _ _ _ h => h) (by rfl) ?hz13f2 hS ?rz13f2
                case hz13f2 => (intro W hW; clear hW; go_simp; first | done | with_reducible rfl)
                try simp only [Act.put, List.setIfInBounds_toArray, List.set_cons_zero, List.set_cons_succ]
                refine loneN (i := 14) rfl rfl (by kernel_rfl) (by rfl) (fun K hK => ?_)
                go_simp
                refine hK.out _ _ (hS.setCell (p := ⟨g, 14, none⟩) (Nat.le_refl _) _) (fun hS => ?_)
                clear hK K hS
                refine wpAnyH_done (by kernel_rfl) ?_ _
                try simp only [Act.put, List.setIfInBounds_toArray, List.set_cons_zero, List.set_cons_succ]
                go_wp2_with fail
                go_roundw
                case rel => exact ⟨k + 1, _, A5, n5, c5, (show Value.int .i64 _ = Value.int .i64 ((k + 1 : Nat) : Int) by go_num), by have := HM9.out; omega, hid HN.out.1, hid HN.out.2, hid (by show (h2.parts ++ [_]).length = k + 1; rw [List.length_append, HLn.out]; rfl)⟩
                case measure => simp [RowKit.intOf]; omega
              · skip
                go_simp
                (with_reducible refine (Gx.out _ HDc.out.below).mono ?_)
                rintro e w9 ⟨rfl, rfl⟩
                refine hK.out _ _ hS (fun hS => ?_)
                clear hK K
                try simp only [Act.put, List.setIfInBounds_toArray, List.set_cons_zero, List.set_cons_succ]
                refine twoH (i := 1) (j := 8) 56 63 rfl rfl rfl rfl (by kernel_rfl) (by rfl) (by rfl) (fun K hK => ?_) (fun K hK => ?_)
                · skip
                  have k14 := HDc.out.cell (i := 14) (v := .slice A1 n1 c1) rfl
                  go_simp
                  refine hK.out _ _ hS (fun hS => ?_)
                  clear hK K k14
                  try simp only [Act.put, List.setIfInBounds_toArray, List.set_cons_zero, List.set_cons_succ]
                  refine loneH (i := 8) 63 rfl rfl (by kernel_rfl) (by rfl) (fun K hK => ?_)
                  go_simp
                  (with_reducible refine (Yg.out _).mono ?_)
                  rintro e w4 ⟨rfl, b4⟩
                  have HOc := hid (OwnP.later HOc.out b4)
                  have B4 := hS.trans (b4.mono (Nat.le_of_lt (HB.lt HDc.out.box)))
                  have HDc := hid (HDc.out.later b4)
                  clear b4
                  refine hK.out _ _ B4 (fun hS => ?_)
                  clear hK K B4
                  try simp only [Act.put, List.setIfInBounds_toArray, List.set_cons_zero, List.set_cons_succ]
                  refine takeH (i := 9) (v := .int .i64 (1 + yg)) 64 rfl rfl (by kernel_rfl) (by kernel_rfl) (by kernel_rfl) (fun _ _ _ h => h) (by rfl) ?hz9m3 hS ?rz9m3
                  case hz9m3 => (intro W hW; have f0 := EY.out; clear hW; go_simp; first | done | with_reducible rfl)
                  try simp only [Act.put, List.setIfInBounds_toArray, List.set_cons_zero, List.set_cons_succ]
                  refine takeH (i := 10) (v := .agg #[.int .i64 (512 * (k : Int)), .int .i64 (1 + yg)]) 65 rfl rfl (by kernel_rfl) (by kernel_rfl) (by kernel_rfl) (fun _ _ _ h => h) (by rfl) ?hz10m3 hS ?rz10m3
                  case hz10m3 => (intro W hW; clear hW; go_simp; first | done | with_reducible rfl)
                  try simp only [Act.put, List.setIfInBounds_toArray, List.set_cons_zero, List.set_cons_succ]
                  refine loneH (i := 11) 66 rfl rfl (by kernel_rfl) (by rfl) (fun K hK => ?_)
                  go_simp
                  have HBk := hid (heap_alloc_new w4 (.cells #[.int .i64 (512 * (k : Int)), .int .i64 (1 + yg)] 43))
                  have bA : Below w4.heap.size w4 (w4.alloc (.cells #[.int .i64 (512 * (k : Int)), .int .i64 (1 + yg)] 43)) := (Below.refl _ _).alloc (Nat.le_refl _) _
                  have B4 := hS.trans (bA.mono (Nat.le_of_lt (HB.lt HDc.out.box)))
                  have HOc := hid (OwnP.later HOc.out bA)
                  have HDc := hid (HDc.out.later bA)
                  refine hK.out _ _ B4 (fun hS => ?_)
                  clear hK K B4 bA
                  try simp only [Act.put, List.setIfInBounds_toArray, List.set_cons_zero, List.set_cons_succ]
                  refine loneH (i := 12) 67 rfl rfl (by kernel_rfl) (by rfl) (fun K hK => ?_)
                  refine wp_appP (.tmp 56) (.tmp 66) rfl (g + 1) (.slice A1 n1 c1) h2.parts _ _ rfl HOc.out (HB.lt HDc.out.box) _ rfl HBk.out (by have := HLn.out; omega) ?_
                  intro v' w5 ho5 hb5
                  obtain ⟨A5, c5, hv5, _, _⟩ := ho5.out.parts
                  generalize (h2.parts ++ [_]).length = n5 at hv5
                  subst hv5
                  have HN := hid (HDc.out.next ho5.out hb5.out (by have := HLn.out; omega) HPQ.out.1 HPQ.out.2)
                  have k14 : w5.cell? ⟨g, 14, none⟩ = some (.slice A1 n1 c1) := (hb5.out.cell (p := ⟨g, 14, none⟩) (Nat.lt_succ_self _)).trans (HDc.out.cell (i := 14) rfl)
                  have f14 : w5.frozen? ⟨g, 14, none⟩ = false := HB.frozen (HB.below HDc.out.box hb5.out (Nat.lt_succ_self _)) 14
                  have B5 := hS.trans (hb5.out.mono (Nat.le_succ _))
                  clear ho5 hb5 HBk HOc HDc
                  refine hK.out _ _ B5 (fun hS => ?_)
                  clear hK K B5
                  try simp only [Act.put, List.setIfInBounds_toArray, List.set_cons_zero, List.set_cons_succ]
                  refine takeH (i := 13) (v := .pointer (some ⟨g, 14, none⟩)) 68 rfl rfl (by kernel_rfl) (by kernel_rfl) (by kernel_rfl) (fun _ _ _ h => h) (by rfl) ?hz13f4 hS ?rz13f4
                  case hz13f4 => (intro W hW; clear hW; go_simp; first | done | with_reducible rfl)
                  try simp only [Act.put, List.setIfInBounds_toArray, List.set_cons_zero, List.set_cons_succ]
                  refine loneN (i := 14) rfl rfl (by kernel_rfl) (by rfl) (fun K hK => ?_)
                  go_simp
                  refine hK.out _ _ (hS.setCell (p := ⟨g, 14, none⟩) (Nat.le_refl _) _) (fun hS => ?_)
                  clear hK K hS
                  refine wpAnyH_done (by kernel_rfl) ?_ _
                  try simp only [Act.put, List.setIfInBounds_toArray, List.set_cons_zero, List.set_cons_succ]
                  go_wp2_with fail
                  go_roundw
                  case rel => exact ⟨k + 1, _, A5, n5, c5, (show Value.int .i64 _ = Value.int .i64 ((k + 1 : Nat) : Int) by go_num), by have := HM9.out; omega, hid HN.out.1, hid HN.out.2, hid (by show (h2.parts ++ [_]).length = k + 1; rw [List.length_append, HLn.out]; rfl)⟩
                  case measure => simp [RowKit.intOf]; omega
                · skip
                  go_simp
                  (with_reducible refine (Yg.out _).mono ?_)
                  rintro e w4 ⟨rfl, b4⟩
                  have HOc := hid (OwnP.later HOc.out b4)
                  have B4 := hS.trans (b4.mono (Nat.le_of_lt (HB.lt HDc.out.box)))
                  have HDc := hid (HDc.out.later b4)
                  clear b4
                  refine hK.out _ _ B4 (fun hS => ?_)
                  clear hK K B4
                  try simp only [Act.put, List.setIfInBounds_toArray, List.set_cons_zero, List.set_cons_succ]
                  refine takeH (i := 9) (v := .int .i64 (1 + yg)) 64 rfl rfl (by kernel_rfl) (by kernel_rfl) (by kernel_rfl) (fun _ _ _ h => h) (by rfl) ?hz9m5 hS ?rz9m5
                  case hz9m5 => (intro W hW; have f0 := EY.out; clear hW; go_simp; first | done | with_reducible rfl)
                  try simp only [Act.put, List.setIfInBounds_toArray, List.set_cons_zero, List.set_cons_succ]
                  refine takeH (i := 10) (v := .agg #[.int .i64 (512 * (k : Int)), .int .i64 (1 + yg)]) 65 rfl rfl (by kernel_rfl) (by kernel_rfl) (by kernel_rfl) (fun _ _ _ h => h) (by rfl) ?hz10m5 hS ?rz10m5
                  case hz10m5 => (intro W hW; clear hW; go_simp; first | done | with_reducible rfl)
                  try simp only [Act.put, List.setIfInBounds_toArray, List.set_cons_zero, List.set_cons_succ]
                  refine twoH (i := 1) (j := 11) 56 66 rfl rfl rfl rfl (by kernel_rfl) (by rfl) (by rfl) (fun K hK => ?_) (fun K hK => ?_)
                  · skip
                    have k14 := HDc.out.cell (i := 14) (v := .slice A1 n1 c1) rfl
                    go_simp
                    refine hK.out _ _ hS (fun hS => ?_)
                    clear hK K k14
                    try simp only [Act.put, List.setIfInBounds_toArray, List.set_cons_zero, List.set_cons_succ]
                    refine loneH (i := 11) 66 rfl rfl (by kernel_rfl) (by rfl) (fun K hK => ?_)
                    go_simp
                    have HBk := hid (heap_alloc_new w4 (.cells #[.int .i64 (512 * (k : Int)), .int .i64 (1 + yg)] 43))
                    have bA : Below w4.heap.size w4 (w4.alloc (.cells #[.int .i64 (512 * (k : Int)), .int .i64 (1 + yg)] 43)) := (Below.refl _ _).alloc (Nat.le_refl _) _
                    have B4 := hS.trans (bA.mono (Nat.le_of_lt (HB.lt HDc.out.box)))
                    have HOc := hid (OwnP.later HOc.out bA)
                    have HDc := hid (HDc.out.later bA)
                    refine hK.out _ _ B4 (fun hS => ?_)
                    clear hK K B4 bA
                    try simp only [Act.put, List.setIfInBounds_toArray, List.set_cons_zero, List.set_cons_succ]
                    refine loneH (i := 12) 67 rfl rfl (by kernel_rfl) (by rfl) (fun K hK => ?_)
                    refine wp_appP (.tmp 56) (.tmp 66) rfl (g + 1) (.slice A1 n1 c1) h2.parts _ _ rfl HOc.out (HB.lt HDc.out.box) _ rfl HBk.out (by have := HLn.out; omega) ?_
                    intro v' w5 ho5 hb5
                    obtain ⟨A5, c5, hv5, _, _⟩ := ho5.out.parts
                    generalize (h2.parts ++ [_]).length = n5 at hv5
                    subst hv5
                    have HN := hid (HDc.out.next ho5.out hb5.out (by have := HLn.out; omega) HPQ.out.1 HPQ.out.2)
                    have k14 : w5.cell? ⟨g, 14, none⟩ = some (.slice A1 n1 c1) := (hb5.out.cell (p := ⟨g, 14, none⟩) (Nat.lt_succ_self _)).trans (HDc.out.cell (i := 14) rfl)
                    have f14 : w5.frozen? ⟨g, 14, none⟩ = false := HB.frozen (HB.below HDc.out.box hb5.out (Nat.lt_succ_self _)) 14
                    have B5 := hS.trans (hb5.out.mono (Nat.le_succ _))
                    clear ho5 hb5 HBk HOc HDc
                    refine hK.out _ _ B5 (fun hS => ?_)
                    clear hK K B5
                    try simp only [Act.put, List.setIfInBounds_toArray, List.set_cons_zero, List.set_cons_succ]
                    refine takeH (i := 13) (v := .pointer (some ⟨g, 14, none⟩)) 68 rfl rfl (by kernel_rfl) (by kernel_rfl) (by kernel_rfl) (fun _ _ _ h => h) (by rfl) ?hz13f6 hS ?rz13f6
                    case hz13f6 => (intro W hW; clear hW; go_simp; first | done | with_reducible rfl)
                    try simp only [Act.put, List.setIfInBounds_toArray, List.set_cons_zero, List.set_cons_succ]
                    refine loneN (i := 14) rfl rfl (by kernel_rfl) (by rfl) (fun K hK => ?_)
                    go_simp
                    refine hK.out _ _ (hS.setCell (p := ⟨g, 14, none⟩) (Nat.le_refl _) _) (fun hS => ?_)
                    clear hK K hS
                    refine wpAnyH_done (by kernel_rfl) ?_ _
                    try simp only [Act.put, List.setIfInBounds_toArray, List.set_cons_zero, List.set_cons_succ]
                    go_wp2_with fail
                    go_roundw
                    case rel => exact ⟨k + 1, _, A5, n5, c5, (show Value.int .i64 _ = Value.int .i64 ((k + 1 : Nat) : Int) by go_num), by have := HM9.out; omega, hid HN.out.1, hid HN.out.2, hid (by show (h2.parts ++ [_]).length = k + 1; rw [List.length_append, HLn.out]; rfl)⟩
                    case measure => simp [RowKit.intOf]; omega
                  · skip
                    go_simp
                    have HBk := hid (heap_alloc_new w4 (.cells #[.int .i64 (512 * (k : Int)), .int .i64 (1 + yg)] 43))
                    have bA : Below w4.heap.size w4 (w4.alloc (.cells #[.int .i64 (512 * (k : Int)), .int .i64 (1 + yg)] 43)) := (Below.refl _ _).alloc (Nat.le_refl _) _
                    have B4 := hS.trans (bA.mono (Nat.le_of_lt (HB.lt HDc.out.box)))
                    have HOc := hid (OwnP.later HOc.out bA)
                    have HDc := hid (HDc.out.later bA)
                    refine hK.out _ _ B4 (fun hS => ?_)
                    clear hK K B4 bA
                    try simp only [Act.put, List.setIfInBounds_toArray, List.set_cons_zero, List.set_cons_succ]
                    refine loneH (i := 1) 56 rfl rfl (by kernel_rfl) (by rfl) (fun K hK => ?_)
                    have k14 := HDc.out.cell (i := 14) (v := .slice A1 n1 c1) rfl
                    go_simp
                    refine hK.out _ _ hS (fun hS => ?_)
                    clear hK K k14
                    try simp only [Act.put, List.setIfInBounds_toArray, List.set_cons_zero, List.set_cons_succ]
                    refine loneH (i := 12) 67 rfl rfl (by kernel_rfl) (by rfl) (fun K hK => ?_)
                    refine wp_appP (.tmp 56) (.tmp 66) rfl (g + 1) (.slice A1 n1 c1) h2.parts _ _ rfl HOc.out (HB.lt HDc.out.box) _ rfl HBk.out (by have := HLn.out; omega) ?_
                    intro v' w5 ho5 hb5
                    obtain ⟨A5, c5, hv5, _, _⟩ := ho5.out.parts
                    generalize (h2.parts ++ [_]).length = n5 at hv5
                    subst hv5
                    have HN := hid (HDc.out.next ho5.out hb5.out (by have := HLn.out; omega) HPQ.out.1 HPQ.out.2)
                    have k14 : w5.cell? ⟨g, 14, none⟩ = some (.slice A1 n1 c1) := (hb5.out.cell (p := ⟨g, 14, none⟩) (Nat.lt_succ_self _)).trans (HDc.out.cell (i := 14) rfl)
                    have f14 : w5.frozen? ⟨g, 14, none⟩ = false := HB.frozen (HB.below HDc.out.box hb5.out (Nat.lt_succ_self _)) 14
                    have B5 := hS.trans (hb5.out.mono (Nat.le_succ _))
                    clear ho5 hb5 HBk HOc HDc
                    refine hK.out _ _ B5 (fun hS => ?_)
                    clear hK K B5
                    try simp only [Act.put, List.setIfInBounds_toArray, List.set_cons_zero, List.set_cons_succ]
                    refine takeH (i := 13) (v := .pointer (some ⟨g, 14, none⟩)) 68 rfl rfl (by kernel_rfl) (by kernel_rfl) (by kernel_rfl) (fun _ _ _ h => h) (by rfl) ?hz13f7 hS ?rz13f7
                    case hz13f7 => (intro W hW; clear hW; go_simp; first | done | with_reducible rfl)
                    try simp only [Act.put, List.setIfInBounds_toArray, List.set_cons_zero, List.set_cons_succ]
                    refine loneN (i := 14) rfl rfl (by kernel_rfl) (by rfl) (fun K hK => ?_)
                    go_simp
                    refine hK.out _ _ (hS.setCell (p := ⟨g, 14, none⟩) (Nat.le_refl _) _) (fun hS => ?_)
                    clear hK K hS
                    refine wpAnyH_done (by kernel_rfl) ?_ _
                    try simp only [Act.put, List.setIfInBounds_toArray, List.set_cons_zero, List.set_cons_succ]
                    go_wp2_with fail
                    go_roundw
                    case rel => exact ⟨k + 1, _, A5, n5, c5, (show Value.int .i64 _ = Value.int .i64 ((k + 1 : Nat) : Int) by go_num), by have := HM9.out; omega, hid HN.out.1, hid HN.out.2, hid (by show (h2.parts ++ [_]).length = k + 1; rw [List.length_append, HLn.out]; rfl)⟩
                    case measure => simp [RowKit.intOf]; omega
            · go_wp2_with fail
              (with_reducible refine (G9.out _ HDr.out.below).mono ?_)
              rintro e w9 ⟨rfl, rfl⟩
              have k15 := HDr.out.cell (i := 15) (v := .bool h2.more) rfl
              have f15 := HB.frozen HDr.out.box 15
              go_wp2_with fail
              have HD7 := hid (HDr.out.set (h' := { h2 with more := decide (128 < x9) }) 15 (.bool (decide (128 < x9))) rfl rfl HDr.out.way HDr.out.kind HDr.out.ints HDr.out.texts)
              generalize ({ h2 with more := decide (128 < x9) } : M.Hdr) = h7 at *
              generalize wr.setCell _ _ = w7 at *
              clear k15 f15 HDr HOr HLn
              (with_reducible refine (G14.out _ HD7.out.below).mono ?_)
              rintro e w9 ⟨rfl, rfl⟩
              go_wp2_with fail
              (with_reducible refine (Y14.out _).mono ?_)
              rintro e w8 ⟨rfl, b8⟩
              have HD8 := hid (HD7.out.later b8)
              have k16 := HD8.out.cell (i := 16) (v := .int .i64 h7.real) rfl
              have f16 := HB.frozen HD8.out.box 16
              clear b8 HD7
              go_wp2_with fail
              go_meet
              case rel => exact ⟨_, _, hid (HD8.out.set (h' := { h7 with real := y14 }) 16 (.int .i64 y14) rfl rfl HD8.out.way HD8.out.kind (by have := HD8.out.ints; have := HYB.out; dsimp only; omega) HD8.out.texts)⟩
        case false =>
          go_wp2_with fail
          go_meet
          case rel => exact ⟨h1, _, HD4⟩
      case rest =>
        obtain ⟨h6, pv6, HD6⟩ := hcut
        clear HD4 HP4 k6
        have k8 := HD6.out.cell (i := 8) (v := .int .i64 h6.way) rfl
        go_upto_region 13 with fail
        go_cut [84] from 77 to 84 (fun s84 wx => ∃ b : Bool, s84 = .bool b ∧ Hid (HD w wx g h6 pv6))
        case first =>
          by_cases hw0 : 0 < h6.way
          · go_wp2_with fail
            go_meet
            case rel => exact ⟨true, rfl, HD6⟩
          · go_wp2_with ((with_reducible refine (G8.out _ HD6.out.below).mono ?_); rintro e w9 ⟨rfl, rfl⟩)
            go_meet
            case rel => exact ⟨decide (240 < x8), rfl, HD6⟩
        case rest =>
          obtain ⟨b13, rfl, HDa⟩ := hcut
          clear HD6 k8
          go_upto_if 84 with fail
          go_cut [85] from 85 to 101 (fun _ wx => ∃ h, Hid (HD w wx g h pv6))
          case first =>
            cases b13
            case true =>
              go_wp2_with fail
              (with_reducible refine (G15.out _ HDa.out.below).mono ?_)
              rintro e w9 ⟨rfl, rfl⟩
              go_wp2_with fail
              (with_reducible refine (N15.out _).mono ?_)
              rintro e w70 ⟨rfl, b7⟩
              have HDb7 := hid (HDa.out.later b7)
              have kk9 := HDb7.out.cell (i := 9) (v := .string h6.user) rfl
              have ff9 := HB.frozen HDb7.out.box 9
              clear b7 HDa
              go_wp2_with fail
              have HDc7 := hid (HDb7.out.set (h' := { h6 with user := s15 }) 9 (.string s15) rfl rfl HDb7.out.way HDb7.out.kind HDb7.out.ints ⟨HDb7.out.texts.1, HDb7.out.texts.2.1, HSB.out.2.2.1, HDb7.out.texts.2.2.2.1, HDb7.out.texts.2.2.2.2⟩)
              generalize ({ h6 with user := s15 } : M.Hdr) = h70 at *
              generalize w70.setCell _ _ = w71 at *
              clear kk9 ff9 HDb7
              (with_reducible refine (G16.out _ HDc7.out.below).mono ?_)
              rintro e w9 ⟨rfl, rfl⟩
              go_wp2_with fail
              (with_reducible refine (N16.out _).mono ?_)
              rintro e w80 ⟨rfl, b8⟩
              have HDb8 := hid (HDc7.out.later b8)
              have kk10 := HDb8.out.cell (i := 10) (v := .string h70.group) rfl
              have ff10 := HB.frozen HDb8.out.box 10
              clear b8 HDc7
              go_wp2_with fail
              have HDc8 := hid (HDb8.out.set (h' := { h70 with group := s16 }) 10 (.string s16) rfl rfl HDb8.out.way HDb8.out.kind HDb8.out.ints ⟨HDb8.out.texts.1, HDb8.out.texts.2.1, HDb8.out.texts.2.2.1, HSB.out.2.2.2.1, HDb8.out.texts.2.2.2.2⟩)
              generalize ({ h70 with group := s16 } : M.Hdr) = h80 at *
              generalize w80.setCell _ _ = w81 at *
              clear kk10 ff10 HDb8
              (with_reducible refine (G17.out _ HDc8.out.below).mono ?_)
              rintro e w9 ⟨rfl, rfl⟩
              go_wp2_with fail
              (with_reducible refine (Y17.out _).mono ?_)
              rintro e w90 ⟨rfl, b9⟩
              have HDb9 := hid (HDc8.out.later b9)
              have kk11 := HDb9.out.cell (i := 11) (v := .int .i64 h80.major) rfl
              have ff11 := HB.frozen HDb9.out.box 11
              have e17 := E17.out
              have ew17 := EW17.out
              clear b9 HDc8
              go_wp2_with fail
              have HDc9 := hid (HDb9.out.set (h' := { h80 with major := t17 }) 11 (.int .i64 t17) rfl rfl HDb9.out.way HDb9.out.kind (by have := HDb9.out.ints; have := BT17.out; dsimp only; omega) HDb9.out.texts)
              generalize ({ h80 with major := t17 } : M.Hdr) = h90 at *
              generalize w90.setCell _ _ = w91 at *
              clear kk11 ff11 HDb9 e17 ew17
              (with_reducible refine (G18.out _ HDc9.out.below).mono ?_)
              rintro e w9 ⟨rfl, rfl⟩
              have kk12 := HDc9.out.cell (i := 12) (v := .int .i64 h90.minor) rfl
              have ff12 := HB.frozen HDc9.out.box 12
              have ew18 := EW18.out
              go_wp2_with fail
              go_meet
              case rel => exact ⟨_, hid (HDc9.out.set (h' := { h90 with minor := x18 }) 12 (.int .i64 x18) rfl rfl HDc9.out.way HDc9.out.kind (by have := HDc9.out.ints; have := HX.out; dsimp only; omega) HDc9.out.texts)⟩
            case false =>
              go_wp2_with fail
              go_meet
              case rel => exact ⟨h6, HDa⟩
          case rest =>
            obtain ⟨hx, HDd⟩ := hcut
            clear HDa
            have k8 := HDd.out.cell (i := 8) (v := .int .i64 hx.way) rfl
            go_upto_region 18 with fail
            go_cut [109] from 102 to 109 (fun s109 wx => ∃ b : Bool, s109 = .bool b ∧ Hid (HD w wx g hx pv6))
            case first =>
              by_cases hw1 : hx.way = 1
              · have hwb : (hx.way == 1) = true := by simp [hw1]
                clear hw1
                go_wp2_with fail
                go_meet
                case rel => exact ⟨true, rfl, HDd⟩
              · have hwb : (hx.way == 1) = false := by simp [hw1]
                clear hw1
                go_wp2_with ((with_reducible refine (G8.out _ HDd.out.below).mono ?_); rintro e w9 ⟨rfl, rfl⟩)
                go_meet
                case rel => exact ⟨decide (250 < x8), rfl, HDd⟩
            case rest =>
              obtain ⟨b18, rfl, HDe⟩ := hcut
              clear HDd k8
              go_upto_if 109 with fail
              go_cut [110] from 110 to 113 (fun _ wx => ∃ h, Hid (HD w wx g h pv6))
              case first =>
                cases b18
                case true =>
                  go_wp2_with fail
                  (with_reducible refine (G19.out _ HDe.out.below).mono ?_)
                  rintro e w9 ⟨rfl, rfl⟩
                  go_wp2_with fail
                  (with_reducible refine (N19.out _).mono ?_)
                  rintro e w60 ⟨rfl, b6⟩
                  have HDb6 := hid (HDe.out.later b6)
                  have kk13 := HDb6.out.cell (i := 13) (v := .string hx.pre) rfl
                  have ff13 := HB.frozen HDb6.out.box 13
                  clear b6 HDe
                  go_wp2_with fail
                  have HDc6 := hid (HDb6.out.set (h' := { hx with pre := s19 }) 13 (.string s19) rfl rfl HDb6.out.way HDb6.out.kind HDb6.out.ints ⟨HDb6.out.texts.1, HDb6.out.texts.2.1, HDb6.out.texts.2.2.1, HDb6.out.texts.2.2.2.1, HSB.out.2.2.2.2⟩)
                  go_meet
                  case rel => exact ⟨_, HDc6⟩
                case false =>
                  go_wp2_with fail
                  go_meet
                  case rel => exact ⟨hx, HDe⟩
              case rest =>
                obtain ⟨hf, HDf⟩ := hcut
                clear HDe
                obtain ⟨Af, cf, rfl, _, _⟩ := HDf.out.own
                go_wp2_with (first | (refine wpList_load_row rfl 28 (.tmp 4) rfl g (by rfl) 28 (hcells hf (.slice Af hf.parts.length cf)) (0, 0) _ HDf.out.box Try.underlying28 rfl hdr_size ?_) | (refine wpList_store_row rfl 28 (.tmp 2) (.tmp 114) rfl w.heap.size (hcells hf (.slice Af hf.parts.length cf)) (by rfl) (by rfl) 28 _ HDf.out.res hdr_size rfl (hcells_one _ rfl) ?_))
                refine bodyPost_ret (results_row rfl rfl Try.underlying28 (by rfl) (setRow_heap _ _ _ _ _ _ HDf.out.res) hdr_size) rfl ⟨hf, _, rfl, ?_, HDf.out.few, HDf.out.way, below_setRow HDf.out.below (Nat.le_refl _) _⟩
                exact ⟨PartsB.mono (PartsIs.in_ (HDf.out.own.row _ (by have := HDf.out.apart; omega) _)) (by simp), HDf.out.nums, HDf.out.kind, HDf.out.ints, HDf.out.texts⟩
end Go.Proofs.Ytcedcfagfklohaa.Hd
