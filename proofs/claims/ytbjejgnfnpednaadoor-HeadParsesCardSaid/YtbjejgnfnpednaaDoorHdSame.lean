/-
  The document's Same, of two headers that are one.
-/
import Derived.Test.YtbjejgnfnpednaaDoorHMe
import Derived.Test.YtbjejgnfnpednaaDoorHdPrintW
namespace Go.Proofs.YtbjejgnfnpednaaDoor
open Go.RowKit Go.Lib

/-- Two variables that hold one header. -/
structure Two (w0 W : World) (g : Nat) (h : M.Hdr) (pa pb : Value) : Prop where
  one : HB W g h pa
  two : HB W (g + 1) h pb
  below : Below g w0 W

set_option maxRecDepth 100000 in
set_option maxHeartbeats 2000000 in
theorem same_yes (h : M.Hdr) (pa pb : Value) (w : World) (ha : PartsB w w.heap.size pa h.parts) (hb : PartsB w w.heap.size pb h.parts) (h4 : h.parts.length ≤ 1000) :
    Calls Tryd.prog 14 #[.agg (hcells h pa), .agg (hcells h pb)] w fun e w' => e = .returned (.bool true) ∧ Below w.heap.size w w' := by
  have HA := hid ha
  have HB' := hid hb
  obtain ⟨Aa, ca, rfl, hla, _⟩ := ha
  obtain ⟨Ab, cb, rfl, hlb, _⟩ := hb
  have hb1 : Below w.heap.size w ((w.alloc (.cells (hcells h (.slice Aa h.parts.length ca)) 25)).alloc (.cells (hcells h (.slice Ab h.parts.length cb)) 25)) :=
    ((Below.refl _ _).alloc (Nat.le_refl _) _).alloc (by simp) _
  have TT := hid (⟨(HB.new w h (.slice Aa h.parts.length ca)).alloc _, by
    have := HB.new (w.alloc (.cells (hcells h (.slice Aa h.parts.length ca)) 25)) h (.slice Ab h.parts.length cb)
    rw [show (w.alloc (.cells (hcells h (.slice Aa h.parts.length ca)) 25)).heap.size = w.heap.size + 1 from by simp] at this
    exact this, hb1⟩ : Two w _ w.heap.size h (.slice Aa h.parts.length ca) (.slice Ab h.parts.length cb))
  generalize hn : h.parts.length = n at *
  have hnn := hid hn
  have k14 := HB.cell TT.out.one (i := 14) (v := .slice Aa n ca) rfl
  have l14 := HB.cell TT.out.two (i := 14) (v := .slice Ab n cb) rfl
  clear hb1
  go_enter Tryd.func14, Tryd.ntmps14
  go_wp2_with fail
  generalize (World.alloc _ (.cells (hcells h (.slice Ab n cb)) 25)) = W at *
  go_loopw [5] (fun i wr => ∃ k : Nat, i = .int .i64 k ∧ k ≤ n ∧ Hid (Two w wr w.heap.size h (.slice Aa n ca) (.slice Ab n cb))) (fun i _ => n - (RowKit.intOf i).toNat)
  case atStart => exact ⟨0, rfl, Nat.zero_le _, TT⟩
  case round =>
    clear TT k14 l14
    obtain ⟨k, rfl, hk, TT⟩ := hrel
    have k14 := HB.cell TT.out.one (i := 14) (v := .slice Aa n ca) rfl
    have l14 := HB.cell TT.out.two (i := 14) (v := .slice Ab n cb) rfl
    by_cases hkn : k < n
    · obtain ⟨A', c', he, _, hcells⟩ := PartsB.below HA.out (TT.out.below)
      injection he with he1 he2 he3
      clear he2
      subst he1 he3
      obtain ⟨ba, oa, rfl, hga, hca⟩ := hcells (by rw [hnn.out]; omega)
      clear hcells
      obtain ⟨A', c', he, _, hcells⟩ := PartsB.below HB'.out (TT.out.below)
      injection he with he1 he2 he3
      clear he2
      subst he1 he3
      obtain ⟨bb, ob, rfl, hgb, hcb⟩ := hcells (by rw [hnn.out]; omega)
      clear hcells
      obtain ⟨⟨p, q⟩, hpk⟩ : ∃ p, h.parts[k]? = some p := ⟨_, List.getElem?_eq_getElem (by rw [hnn.out]; exact hkn)⟩
      obtain ⟨a0, a1⟩ := hca k _ hpk
      obtain ⟨b0, b1⟩ := hcb k _ hpk
      dsimp only at a0 a1 b0 b1
      rw [show 2 * k = k * 2 by omega] at a0 a1 b0 b1
      clear hca hcb hpk HA HB'
      go_wp2_with fail
      go_quiet (fail)
      go_wp2_with fail
      go_roundw
      case rel => exact ⟨k + 1, (show Value.int .i64 _ = Value.int .i64 ((k + 1 : Nat) : Int) by go_num), hkn, hid ⟨TT.out.one, TT.out.two, below_drewN' TT.out.below _⟩⟩
      case measure => simp [RowKit.intOf]; omega
    · have k0 := HB.cell TT.out.one (i := 0) (v := .string h.name) rfl; have l0 := HB.cell TT.out.two (i := 0) (v := .string h.name) rfl; have k1 := HB.cell TT.out.one (i := 1) (v := .int .i64 h.mode) rfl; have l1 := HB.cell TT.out.two (i := 1) (v := .int .i64 h.mode) rfl; have k2 := HB.cell TT.out.one (i := 2) (v := .int .i64 h.uid) rfl; have l2 := HB.cell TT.out.two (i := 2) (v := .int .i64 h.uid) rfl; have k3 := HB.cell TT.out.one (i := 3) (v := .int .i64 h.gid) rfl; have l3 := HB.cell TT.out.two (i := 3) (v := .int .i64 h.gid) rfl; have k4 := HB.cell TT.out.one (i := 4) (v := .int .i64 h.size) rfl; have l4 := HB.cell TT.out.two (i := 4) (v := .int .i64 h.size) rfl; have k5 := HB.cell TT.out.one (i := 5) (v := .int .i64 h.mtime) rfl; have l5 := HB.cell TT.out.two (i := 5) (v := .int .i64 h.mtime) rfl; have k6 := HB.cell TT.out.one (i := 6) (v := .int .u8 h.kind) rfl; have l6 := HB.cell TT.out.two (i := 6) (v := .int .u8 h.kind) rfl; have k7 := HB.cell TT.out.one (i := 7) (v := .string h.link) rfl; have l7 := HB.cell TT.out.two (i := 7) (v := .string h.link) rfl; have k8 := HB.cell TT.out.one (i := 8) (v := .int .i64 h.way) rfl; have l8 := HB.cell TT.out.two (i := 8) (v := .int .i64 h.way) rfl; have k9 := HB.cell TT.out.one (i := 9) (v := .string h.user) rfl; have l9 := HB.cell TT.out.two (i := 9) (v := .string h.user) rfl; have k10 := HB.cell TT.out.one (i := 10) (v := .string h.group) rfl; have l10 := HB.cell TT.out.two (i := 10) (v := .string h.group) rfl; have k11 := HB.cell TT.out.one (i := 11) (v := .int .i64 h.major) rfl; have l11 := HB.cell TT.out.two (i := 11) (v := .int .i64 h.major) rfl; have k12 := HB.cell TT.out.one (i := 12) (v := .int .i64 h.minor) rfl; have l12 := HB.cell TT.out.two (i := 12) (v := .int .i64 h.minor) rfl; have k13 := HB.cell TT.out.one (i := 13) (v := .string h.pre) rfl; have l13 := HB.cell TT.out.two (i := 13) (v := .string h.pre) rfl; have k15 := HB.cell TT.out.one (i := 15) (v := .bool h.more) rfl; have l15 := HB.cell TT.out.two (i := 15) (v := .bool h.more) rfl; have k16 := HB.cell TT.out.one (i := 16) (v := .int .i64 h.real) rfl; have l16 := HB.cell TT.out.two (i := 16) (v := .int .i64 h.real) rfl
      go_wp2_with fail
      go_ret
      exact ⟨rfl, TT.out.below⟩
end Go.Proofs.YtbjejgnfnpednaaDoor
