/-
  The contract of whole: b as a block.
-/
import Derived.Test.YtkpnhggpcpjddaaGreatDoorHSumCount
set_option linter.unusedVariables false
set_option linter.unusedSimpArgs false
namespace Go.Proofs.YtkpnhggpcpjddaaGreatDoor
open Go.RowKit Go.Lib
attribute [local go_sem] zeroBlk
attribute [local go_sem ↓] zc_blk
attribute [local go_sem ↓] run_buildBlk run_toArr

theorem block_of_add' (a : Addr) (n : Nat) : (a.add n).block = a.block := by unfold Addr.add; split <;> rfl
theorem add_lit' (b off j : Nat) : (⟨b, off, none⟩ : Addr).add j = ⟨b, off + j, none⟩ := by
  unfold Addr.add
  split
  · rename_i h0
    subst h0
    rfl
  · rfl
/-- A block out of its cell, and a bool. -/
theorem results_blk {fn : Func} {p q : Tmp} (h : fn.results = #[.cell p 65, .tmp q]) (tmps : Array Value) {w : World} {g : Nat} {t : TypeId} {zs : List Int} {ok : Bool}
    (hp : tmps.getD p undef = .pointer (some ⟨g, 0, none⟩)) (hq : tmps.getD q undef = .bool ok) (hg : Arr w g t zs) (hl : zs.length = 512) :
    (results fn tmps).run Tryz.prog w = .ok (.tuple #[.agg (bcells zs).toArray, .bool ok]) w := by
  have hp' : tmps[p]?.getD undef = .pointer (some ⟨g, 0, none⟩) := by simpa using hp
  have hq' : tmps[q]?.getD undef = .bool ok := by simpa using hq
  have hld := run_loadVar_cells w ⟨g, 0, none⟩ zs hl (fun j z hj => by rw [add_lit', Nat.zero_add]; exact hg.cell hj)
  simp [results, h, hp', hq', asAddr, hld]

/-- A block's value and whether there is one. -/
def Whole (zs : List Int) (w : World) (e : Ending) (w' : World) : Prop :=
  e = .returned (.tuple #[.agg (bcells (if zs.length = 512 then zs else nils 512)).toArray, .bool (decide (zs.length = 512))]) ∧ Below w.heap.size w w'

set_option maxRecDepth 100000 in
set_option maxHeartbeats 400000 in
theorem whole_any (A : Option Addr) (n c : Nat) (zs : List Int) (w : World) (B : Nat) (hr : Rd w B A n zs) (hB : B ≤ w.heap.size) :
    Calls Tryz.prog 40 #[.slice A n c] w (Whole zs w) := by
  by_cases h : n = 512
  · subst h
    have HL := hid hr.len
    obtain ⟨b, off, rfl, hbB, hcell⟩ := hr.2.2 (by decide)
    have HC := hid hcell
    clear hcell hr
    go_enter Tryz.func40, Tryz.ntmps40
    go_wp2_with (first
      | (refine wpList_load_cells rfl (.tmp 9) rfl ⟨b, off, none⟩ (by simp [Act.eval]) zs HL.out (fun j z hj => ?cc) ?_)
      | (refine wpList_store_arr rfl (.tmp 2) (.tmp 10) rfl w.heap.size (by simp [Act.eval, Act.put]) zs (nils 512) (by simp [Act.eval, Act.put]) _ (Arr.new _ _ _) HL.out (nils_len _) ?_; rw [setRow_alloc_arr]))
    · rw [World.cell?_alloc_lt _ _ _ (by rw [block_of_add']; exact Nat.lt_of_lt_of_le hbB hB), add_lit']
      exact HC.out j z hj
    · refine bodyPost_ret (results_blk rfl _ (by rfl) (by rfl) (Arr.new _ _ _) HL.out) rfl ⟨?_, (Below.refl _ _).alloc (Nat.le_refl _) _⟩
      rw [if_pos HL.out, HL.out]
      rfl
  · have hd : (decide (n = 512)) = false := by simpa using h
    have hne : ((n : Int) != 512) = true := by simp; omega
    have HL := hid hr.len
    have H := hid h
    clear hr h
    go_enter Tryz.func40, Tryz.ntmps40
    go_wp2_with (refine wpList_store_arr rfl (.tmp 2) (.tmp 7) rfl w.heap.size (by simp [Act.eval]) (nils 512) (nils 512) (by simp [Act.eval]) _ (Arr.new _ _ _) (nils_len _) (nils_len _) ?_; rw [setRow_alloc_arr])
    refine bodyPost_ret (results_blk rfl _ (by rfl) (by rfl) (Arr.new _ _ _) (nils_len _)) rfl ⟨?_, (Below.refl _ _).alloc (Nat.le_refl _) _⟩
    rw [if_neg (by rw [HL.out]; exact H.out), HL.out, decide_eq_false H.out]
end Go.Proofs.YtkpnhggpcpjddaaGreatDoor
