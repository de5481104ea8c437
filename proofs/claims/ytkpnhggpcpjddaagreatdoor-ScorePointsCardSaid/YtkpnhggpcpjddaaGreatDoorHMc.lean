/-
  Texts of one chapter, merged.
-/
import Derived.Test.YtkpnhggpcpjddaaGreatDoorHMb
import Derived.Test.YtkpnhggpcpjddaaGreatDoorHMi
import Derived.Defers
import Derived.Recover
import Derived.Laws.Pointers
import Derived.WalkSmall
import Derived.WalkLawsBesides
import Derived.BigRegion
import Derived.StillTailTactics
set_option linter.unusedVariables false
set_option linter.unusedSimpArgs false
/-! A header in memory; what stops a call; the deferred functions' contracts. -/
namespace Go.Proofs.YtkpnhggpcpjddaaGreatDoor
open Go.RowKit

/-- A header's cells; pv: its parts' slice. -/
def hcells (h : M.Hdr) (pv : Value) : Array Value :=
  #[.string h.name, .int .i64 h.mode, .int .i64 h.uid, .int .i64 h.gid, .int .i64 h.size, .int .i64 h.mtime, .int .u8 h.kind, .string h.link, .int .i64 h.way, .string h.user, .string h.group, .int .i64 h.major, .int .i64 h.minor, .string h.pre, pv, .bool h.more, .int .i64 h.real]
theorem hcells_one (h : M.Hdr) {pv : Value} (hp : pv.oneCell' = true) : (hcells h pv).all (·.oneCell') = true := by simpa [hcells, Value.oneCell'] using hp
theorem hcells_size (h : M.Hdr) (pv : Value) : (hcells h pv).size = 17 := rfl
/-- Block g is a header. -/
def HB (w : World) (g : Nat) (h : M.Hdr) (pv : Value) : Prop := w.heap[g]? = some (.cells (hcells h pv) 33 (0, 0))
section
variable {w w' : World} {g : Nat} {h : M.Hdr} {pv : Value}
theorem HB.lt (hb : HB w g h pv) : g < w.heap.size := (Array.getElem?_eq_some_iff.1 hb).1
theorem HB.cell (hb : HB w g h pv) {i : Nat} {v : Value} (hv : (hcells h pv)[i]? = some v) : w.cell? ⟨g, i, none⟩ = some v := by
  rw [cell_of_row w g i _ _ (0, 0) hb]; exact hv
theorem HB.frozen (hb : HB w g h pv) (i : Nat) : w.frozen? ⟨g, i, none⟩ = false := frozen_of_row w g i _ _ hb
theorem HB.of_block (hb : HB w g h pv) (e : w'.heap[g]? = w.heap[g]?) : HB w' g h pv := e.trans hb
theorem HB.other (hb : HB w g h pv) {a : Addr} (hn : g ≠ a.block) (v : Value) : HB (w.setCell a v) g h pv := hb.of_block (heap_setCell_other w a g v hn)
theorem HB.alloc (hb : HB w g h pv) (o : Obj) : HB (w.alloc o) g h pv := hb.of_block (by show (w.heap.push o)[g]? = _; rw [Array.getElem?_push, if_neg (Nat.ne_of_lt hb.lt)])
theorem HB.drew (hb : HB w g h pv) : HB w.drew g h pv := hb
theorem HB.drewN (hb : HB w g h pv) (n : Nat) : HB (w.drewN n) g h pv := hb
theorem HB.below {B : Nat} (hb : HB w g h pv) (hw : Below B w w') (hB : g < B) : HB w' g h pv := hb.of_block (hw.block g hB)
theorem HB.new (w : World) (h : M.Hdr) (pv : Value) : HB (w.alloc (.cells (hcells h pv) 33)) w.heap.size h pv := heap_alloc_new w _
theorem HB.set (hb : HB w g h pv) (i : Nat) (v : Value) {h' : M.Hdr} {pv' : Value} (e : (hcells h pv).set! i v = hcells h' pv') : HB (w.setCell ⟨g, i, none⟩ v) g h' pv' := by
  unfold HB
  rw [heap_setCell_same w g i _ _ _ hb, ← e]
  simp
end

theorem frozen_of_heap {w w' : World} {a : Addr} (e : w'.heap[a.block]? = w.heap[a.block]?) : w'.frozen? a = w.frozen? a := by
  unfold World.frozen?
  rw [e]

theorem after_alloc {w W : World} {o : Obj} (h : w.alloc o = W) : W.heap[w.heap.size]? = some o ∧ Below w.heap.size w W ∧ ∀ a : Addr, a.block < w.heap.size → W.cell? a = w.cell? a := by
  subst h
  exact ⟨heap_alloc_new w o, (Below.refl _ w).alloc (Nat.le_refl _) o, fun a ha => World.cell?_alloc_lt w o a ha⟩
/-- What stops a call, told by a number. -/
def boom (n : Int) : List PanicEntry := [{ v := .iface 42 (.int .u16 n), recovered := false }]

theorem demand_yes (n : Int) (w : World) : Calls Tryz.prog 48 #[.bool true, .int .u16 n] w fun e w' => e = .returned (.tuple #[]) ∧ w = w' := by
  go_enter Tryz.func48, Tryz.ntmps48
  go_wp2
  go_end0
  all_goals exact ⟨rfl, rfl⟩
theorem demand_no (n : Int) (w : World) : Calls Tryz.prog 48 #[.bool false, .int .u16 n] w fun e w' => e = .panicked (boom n) ∧ w = w' := by
  go_enter Tryz.func48, Tryz.ntmps48
  go_wp2
  all_goals exact ⟨rfl, rfl, rfl⟩

/-! Parse's deferred function. -/
theorem errno_nil (w : World) : (Instr.typeAssert .nilIface 20 42 true).run Tryz.prog w = .ok (.tuple #[.int .u16 0, .bool false]) w := by kernel_rfl
theorem errno_some (n : Int) (w : World) : (Instr.typeAssert (.iface 42 (.int .u16 n)) 20 42 true).run Tryz.prog w = .ok (.tuple #[.int .u16 n, .bool true]) w := by kernel_rfl
theorem parse_idle (p q : Addr) (w : World) :
    CallsD Tryz.prog 47 #[.pointer (some p), .pointer (some q)] .returning w fun e u' w' => e = .returned (.tuple #[]) ∧ u' = .returning ∧ w' = w := by
  have hrep : Array.replicate 10 undef = #[undef, undef, undef, undef, undef, undef, undef, undef, undef, undef] := rfl
  refine callsD_of_wpS Tryz.func47 rfl fun c₀ cs hu => ?_
  apply wpS_seq
  apply wpS_region
  simp [wpOpsS, go_sem, recoverD, hu, Tryz.ntmps47, Exit.thenS, errno_nil, hrep]
  refine wpS_of_wp ?_
  go_wp2
  cases c₀
  simp_all [bodyPostS, results, Tryz.results47]
theorem hdr_size : (Tryz.prog.info? 33).map (·.size) = some 17 := by kernel_rfl
theorem parse_caught (g eb : Nat) (h : M.Hdr) (pv : Value) (n : Int) (w : World) (hb : HB w g h pv) (hne : eb ≠ g) (he : w.cell? ⟨eb, 0, none⟩ = some (.int .u16 0)) (hf : w.frozen? ⟨eb, 0, none⟩ = false) :
    CallsD Tryz.prog 47 #[.pointer (some ⟨g, 0, none⟩), .pointer (some ⟨eb, 0, none⟩)] (.panicking (boom n)) w fun e u' w' =>
      e = .returned (.tuple #[]) ∧ u' = .panicking [{ v := .iface 42 (.int .u16 n), recovered := true }] ∧ w' = (w.setRow g (hcells {} (.slice none 0 0))).setCell ⟨eb, 0, none⟩ (.int .u16 n) := by
  have hrep : Array.replicate 10 undef = #[undef, undef, undef, undef, undef, undef, undef, undef, undef, undef] := rfl
  have he1 : (w.setRow g (hcells {} (.slice none 0 0))).cell? ⟨eb, 0, none⟩ = some (.int .u16 0) := (cell_setRow_other w g _ _ hne).trans he
  have hf1 : (w.setRow g (hcells {} (.slice none 0 0))).frozen? ⟨eb, 0, none⟩ = false := by
    rw [frozen_of_heap (setRow_other w g eb _ hne)]; exact hf
  refine callsD_of_wpS Tryz.func47 rfl fun c₀ cs hu => ?_
  unfold boom at hu
  apply wpS_seq
  apply wpS_region
  simp [wpOpsS, go_sem, recoverD, hu, Tryz.ntmps47, Exit.thenS, errno_some, hrep]
  refine wpS_of_wp ?_
  go_wp2_with ((refine wpList_store_row rfl 33 (.tmp 0) (.tmp 10) rfl g (hcells {} (.slice none 0 0)) (by simp [Act.eval]) (by simp [Act.eval, hcells]) 33 (hcells h pv) hb hdr_size rfl (hcells_one _ rfl) ?_))
  cases c₀
  simp_all [bodyPostS, results, Tryz.results47]
end Go.Proofs.YtkpnhggpcpjddaaGreatDoor

/-! The small functions of layer 8: kinds, what may be laid, the fields of texts and of numbers. -/
namespace Go.Proofs.YtkpnhggpcpjddaaGreatDoor
open Go.RowKit Go.Lib

/-- A text's field, a number's: as values. -/
def tfv (a n : Int) (there : Bool) (p : Addr) : Value := .agg #[.int .i64 a, .int .i64 n, .bool there, .pointer (some p)]
def nfv (a n : Int) (there : Bool) (lo up : Int) (p : Addr) : Value := .agg #[.int .i64 a, .int .i64 n, .bool there, .int .i64 lo, .int .i64 up, .pointer (some p)]

set_option maxHeartbeats 1000000 in
theorem known_any (c : Int) (w : World) : Calls Tryz.prog 50 #[.int .u8 c] w fun e w' => e = .returned (.bool (M.known c)) ∧ w = w' := by
  go_enter Tryz.func50, Tryz.ntmps50
  go_wp2
  all_goals
    go_ret
    refine ⟨ret_bool (Bool.eq_iff_iff.2 ?_), rfl⟩
    unfold M.known
    simp at *
    try omega
set_option maxHeartbeats 1000000 in
theorem may_any (k v : Int) (w : World) : Calls Tryz.prog 56 #[.int .u8 k, .int .i64 v] w fun e w' => e = .returned (.bool (M.may k v)) ∧ w = w' := by
  cases hk : k != 83
  · go_enter Tryz.func56, Tryz.ntmps56
    go_wp2
    go_ret
    exact ⟨ret_bool (by unfold M.may; rw [hk]; rfl), rfl⟩
  · go_enter Tryz.func56, Tryz.ntmps56
    go_wp2
    go_ret
    exact ⟨ret_bool (by unfold M.may; rw [hk]; rfl), rfl⟩
set_option maxHeartbeats 1000000 in
theorem kindOf_any (A : Option Addr) (n c : Nat) (zs : List Int) (w : World) (B : Nat) (hr : Rd w B A n zs) (hn : n = 512) :
    Calls Tryz.prog 49 #[.slice A n c] w fun e w' => e = .returned (.int .u8 (M.kind zs)) ∧ w = w' := by
  subst hn
  obtain ⟨b, off, z, rfl, hb, hz0, hz1, hzk, hc⟩ := hr.at_ (k := 156) (by decide)
  have hz : M.byt zs 156 = z := by unfold M.byt; rw [List.getD_eq_getElem?_getD, hzk]; rfl
  have HK := hid (show M.kind zs = if z = 0 then 48 else z by unfold M.kind; rw [hz])
  clear hzk hz
  by_cases h0 : z = 0
  · subst h0
    go_enter Tryz.func49, Tryz.ntmps49
    go_wp2
    go_ret
    exact ⟨ret_int HK.out.symm, rfl⟩
  · have e1 : (z == 0) = false := by simpa using h0
    have HN := hid h0
    clear h0
    go_enter Tryz.func49, Tryz.ntmps49
    go_wp2
    go_ret
    exact ⟨ret_int (by rw [HK.out, if_neg HN.out]), rfl⟩
set_option maxHeartbeats 1000000 in
theorem mayTell_any (a m : Int) (there : Bool) (lo up : Int) (p : Addr) (x : Int) (w : World) :
    Calls Tryz.prog 75 #[nfv a m there lo up p, .int .i64 x] w fun e w' => e = .returned (.bool (decide (lo ≤ x) && decide (x ≤ up))) ∧ Below w.heap.size w w' := by
  unfold nfv
  cases hl : decide (lo ≤ x)
  · go_enter Tryz.func75, Tryz.ntmps75
    go_wp2
    go_ret
    exact ⟨rfl, (Below.refl _ _).alloc (Nat.le_refl _) _⟩
  · go_enter Tryz.func75, Tryz.ntmps75
    go_wp2
    go_ret
    exact ⟨rfl, (Below.refl _ _).alloc (Nat.le_refl _) _⟩
end Go.Proofs.YtkpnhggpcpjddaaGreatDoor
