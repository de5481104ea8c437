/-
  Texts of one chapter, merged.
-/
import Derived.Test.YtkpnhggpcpjddaaGreatDoorHMc
import Derived.Test.YtkpnhggpcpjddaaGreatDoorHMi
import Derived.Test.YtkpnhggpcpjddaaGreatDoorHMj
set_option linter.unusedVariables false
set_option linter.unusedSimpArgs false
/-! The document's lay, as far as its bytes are bytes: a block of 512 stays one. -/
namespace Go.Proofs.YtkpnhggpcpjddaaGreatDoor
open Go.RowKit Go.Lib

/-- Block g has 512 bytes. -/
def B512 (w : World) (g : Nat) : Prop := ∃ zs : List Int, zs.length = 512 ∧ (∀ z ∈ zs, 0 ≤ z ∧ z ≤ 255) ∧ Arr w g 5 zs
/-- All blocks but one are as they were. -/
structure But (g : Nat) (w w' : World) : Prop where
  os : w'.os = w.os
  tape : w'.tape = w.tape
  output : w'.output = w.output
  size : w.heap.size ≤ w'.heap.size
  block : ∀ k, k < w.heap.size → k ≠ g → w'.heap[k]? = w.heap[k]?
theorem But.refl (g : Nat) (w : World) : But g w w := ⟨rfl, rfl, rfl, Nat.le_refl _, fun _ _ _ => rfl⟩
theorem But.trans {g : Nat} {a b c : World} (h : But g a b) (k : But g b c) : But g a c :=
  ⟨k.os.trans h.os, k.tape.trans h.tape, k.output.trans h.output, Nat.le_trans h.size k.size, fun i hi hg => (k.block i (Nat.lt_of_lt_of_le hi h.size) hg).trans (h.block i hi hg)⟩
theorem But.of_below {g : Nat} {w w' : World} (h : Below w.heap.size w w') : But g w w' := ⟨h.os, h.tape, h.output, h.size, fun k hk _ => h.block k hk⟩
theorem But.below {g B : Nat} {w w' : World} (h : But g w w') (hB : B ≤ w.heap.size) (hg : B ≤ g) : Below B w w' := ⟨h.os, h.tape, h.output, h.size, fun k hk => h.block k (by omega) (by omega)⟩
theorem But.set (g : Nat) (w : World) (i : Nat) (v : Value) : But g w (w.setCell ⟨g, i, none⟩ v) := ⟨rfl, rfl, rfl, by simp [World.setCell], fun k _ hk => Below.heap_setCell _ _ _ _ hk⟩
theorem But.drewN {g : Nat} {a w : World} (h : But g a w) (n : Nat) : But g a (w.drewN n) := ⟨h.os, h.tape, h.output, h.size, h.block⟩
theorem But.alloc {g : Nat} {a w : World} (h : But g a w) (o : Obj) : But g a (w.alloc o) := h.trans (But.of_below ((Below.refl _ _).alloc (Nat.le_refl _) o))
theorem B512.lt {w : World} {g : Nat} (h : B512 w g) : g < w.heap.size := by obtain ⟨_, _, _, h⟩ := h; exact h.lt
theorem B512.of_block {w w' : World} {g : Nat} (h : B512 w g) (e : w'.heap[g]? = w.heap[g]?) : B512 w' g := by obtain ⟨zs, h1, h2, h3⟩ := h; exact ⟨zs, h1, h2, h3.of_block e⟩
theorem B512.below {w w' : World} {g B : Nat} (h : B512 w g) (hb : Below B w w') (hg : g < B) : B512 w' g := h.of_block (hb.block g hg)
theorem B512.set {w : World} {g : Nat} (h : B512 w g) (i : Nat) {v : Int} (hv : 0 ≤ v ∧ v ≤ 255) : B512 (w.setCell ⟨g, i, none⟩ (.int .u8 v)) g := by
  obtain ⟨zs, h1, h2, h3⟩ := h
  refine ⟨zs.set i v, by rw [List.length_set]; exact h1, fun z hz => ?_, h3.set i v⟩
  rcases List.mem_or_eq_of_mem_set hz with h | h
  · exact h2 z h
  · subst h; exact hv
theorem B512.at_ {w : World} {g : Nat} (h : B512 w g) {i : Nat} (hi : i < 512) : ∃ z : Int, w.cell? ⟨g, i, none⟩ = some (.int .u8 z) ∧ w.frozen? ⟨g, i, none⟩ = false := by
  obtain ⟨zs, h1, h2, h3⟩ := h
  exact ⟨zs[i]'(by omega), h3.cell (List.getElem?_eq_getElem (by omega)), h3.frozen i⟩
theorem B512.of_arr {w : World} {g : Nat} {zs : List Int} (h : Arr w g 5 zs) (hl : zs.length = 512) (hz : ∀ z ∈ zs, 0 ≤ z ∧ z ≤ 255) : B512 w g := ⟨zs, hl, hz, h⟩
/-- Some bytes. -/
def RdW (w : World) (A : Option Addr) (n : Nat) : Prop := 0 < n → ∃ b off, A = some ⟨b, off, none⟩ ∧ ∀ j, j < n → ∃ z : Int, (0 ≤ z ∧ z ≤ 255) ∧ w.cell? ⟨b, off + j, none⟩ = some (.int .u8 z)
theorem RdW.of_rd {w : World} {A : Option Addr} {B n : Nat} {zs : List Int} (h : Rd w B A n zs) : RdW w A n := by
  intro hn
  obtain ⟨b, off, e, _, hc⟩ := h.2.2 hn
  refine ⟨b, off, e, fun j hj => ?_⟩
  have hl := h.len
  exact ⟨zs[j]'(by omega), h.bd _ (List.getElem_mem _), hc j _ (List.getElem?_eq_getElem (by omega))⟩
theorem RdW.set {w : World} {A : Option Addr} {n : Nat} (h : RdW w A n) (a : Addr) {v : Int} (hv : 0 ≤ v ∧ v ≤ 255) {x : Value} (hx : w.cell? a = some x) (hf : w.frozen? a = false) : RdW (w.setCell a (.int .u8 v)) A n := by
  intro hn
  obtain ⟨b, off, e, hc⟩ := h hn
  refine ⟨b, off, e, fun j hj => ?_⟩
  by_cases ha : a = ⟨b, off + j, none⟩
  · subst ha
    exact ⟨v, hv, by simp [World.cell?_setCell_same, hx]⟩
  · obtain ⟨z, hz, hcz⟩ := hc j hj
    exact ⟨z, hz, (World.cell?_setCell_other w a _ _ ha).trans hcz⟩

set_option maxRecDepth 100000 in
set_option maxHeartbeats 1000000 in
theorem lay_any (g a : Nat) (A : Option Addr) (n c : Nat) (w : World) (hb : B512 w g) (hf : RdW w A n) (hn : a + n ≤ 512) :
    Calls Tryz.prog 33 #[.slice (some ⟨g, 0, none⟩) 512 512, .int .i64 a, .slice A n c] w fun e w' => e = .returned (.slice (some ⟨g, 0, none⟩) 512 512) ∧ B512 w' g ∧ But g w w' := by
  have HB := hid hb
  have HF := hid hf
  clear hb hf
  go_enter Tryz.func33, Tryz.ntmps33
  go_wp2
  go_loopw [7] (fun i wr => ∃ k : Nat, i = .int .i64 k ∧ k ≤ n ∧ Hid (B512 wr g) ∧ Hid (RdW wr A n) ∧ Hid (But g w wr)) (fun i _ => n - (RowKit.intOf i).toNat)
  case atStart => exact ⟨0, rfl, Nat.zero_le _, HB, HF, hid (But.refl _ _)⟩
  case round =>
    obtain ⟨k, rfl, hk, HB, HF, HW⟩ := hrel
    by_cases hlt : k < n
    · obtain ⟨b, off, rfl, hc⟩ := HF.out (by omega)
      obtain ⟨z, hz, hcz⟩ := hc k hlt
      have hak : a + k < 512 := by omega
      obtain ⟨y, hcy, hfy⟩ := HB.out.at_ hak
      have HZ := hid hz
      have HQ := hid (⟨HB.out.set (a + k) hz, HF.out.set ⟨g, a + k, none⟩ hz hcy hfy, HW.out.trans (But.set g wr (a + k) (.int .u8 z))⟩ : _ ∧ _ ∧ _)
      clear hc hz HB HF
      go_wp2
      go_roundw
      case rel => exact ⟨k + 1, (by go_num), hlt, hid HQ.out.1, hid HQ.out.2.1, hid HQ.out.2.2⟩
      case measure => simp [RowKit.intOf]; omega
    · obtain rfl : k = n := by omega
      go_wp2
      go_ret
      exact ⟨rfl, HB.out, HW.out⟩
end Go.Proofs.YtkpnhggpcpjddaaGreatDoor

/-! The document's lay, byte by byte. -/
namespace Go.Proofs.YtkpnhggpcpjddaaGreatDoor
open Go.RowKit Go.Lib

/-- Block g has these 512 bytes. -/
structure BX (w : World) (g : Nat) (zs : List Int) : Prop where
  len : zs.length = 512
  bd : ∀ z ∈ zs, 0 ≤ z ∧ z ≤ 255
  arr : Arr w g 5 zs
section
variable {w w' : World} {g : Nat} {zs : List Int}
theorem BX.b512 (h : BX w g zs) : B512 w g := ⟨zs, h.len, h.bd, h.arr⟩
theorem BX.lt (h : BX w g zs) : g < w.heap.size := h.arr.lt
theorem BX.of_block (h : BX w g zs) (e : w'.heap[g]? = w.heap[g]?) : BX w' g zs := ⟨h.len, h.bd, h.arr.of_block e⟩
theorem BX.below {B : Nat} (h : BX w g zs) (hb : Below B w w') (hg : g < B) : BX w' g zs := h.of_block (hb.block g hg)
theorem BX.later (h : BX w g zs) (hb : Below w.heap.size w w') : BX w' g zs := h.below hb h.lt
theorem BX.drew (h : BX w g zs) : BX w.drew g zs := ⟨h.len, h.bd, h.arr⟩
theorem BX.set (h : BX w g zs) (i : Nat) {v : Int} (hv : 0 ≤ v ∧ v ≤ 255) : BX (w.setCell ⟨g, i, none⟩ (.int .u8 v)) g (zs.set i v) := by
  refine ⟨by rw [List.length_set]; exact h.len, fun z hz => ?_, h.arr.set i v⟩
  rcases List.mem_or_eq_of_mem_set hz with h' | h'
  · exact h.bd z h'
  · subst h'; exact hv
theorem BX.at_ (h : BX w g zs) {i : Nat} (hi : i < 512) : ∃ z : Int, w.cell? ⟨g, i, none⟩ = some (.int .u8 z) ∧ w.frozen? ⟨g, i, none⟩ = false := h.b512.at_ hi
theorem BX.rd (h : BX w g zs) {B : Nat} (hB : g < B) : Rd w B (some ⟨g, 0, none⟩) 512 zs := by
  have := h.arr.rd h.bd hB
  rwa [h.len] at this
end
theorem BX.new (w : World) : BX (w.alloc (.cells (bcells (nils 512)).toArray 5)) w.heap.size (nils 512) := ⟨nils_len 512, nils_bd 512, Arr.new w 5 (nils 512)⟩
theorem splice_step {zs ys : List Int} {a k : Nat} {z : Int} (hz : zs.length = 512) (hk : ys[k]? = some z) (ha : a + k < 512) : (splice zs a (ys.take k)).set (a + k) z = splice zs a (ys.take (k + 1)) := by
  obtain ⟨hkl, hkz⟩ := List.getElem?_eq_some_iff.1 hk
  have l1 : (ys.take k).length = k := by rw [List.length_take]; omega
  have l2 : (ys.take (k + 1)).length = k + 1 := by rw [List.length_take]; omega
  apply List.ext_getElem?
  intro i
  rw [List.getElem?_set]
  by_cases h : a + k = i
  · subst h
    have e2 : (splice zs a (ys.take (k + 1)))[a + k]? = some z := by
      rw [M.splice_in (i := a + k) (f := ys.take (k + 1)) (by omega) (by omega) (by omega), List.getElem?_take, if_pos (by omega), show a + k - a = k by omega, hk]
    rw [if_pos rfl, e2, if_pos (by rw [length_splice _ _ _ (by omega)]; omega)]
  · rw [if_neg h]
    by_cases h1 : a ≤ i ∧ i < a + k
    · rw [M.splice_in (by omega) h1.1 (by omega), M.splice_in (by omega) h1.1 (by omega), List.getElem?_take, List.getElem?_take, if_pos (by omega), if_pos (by omega)]
    · rw [M.splice_get (by omega) (by omega), M.splice_get (by omega) (by omega)]
theorem splice_nil (zs : List Int) (a : Nat) : splice zs a (([] : List Int)) = zs := by
  unfold splice
  simp

set_option maxRecDepth 100000 in
set_option maxHeartbeats 1000000 in
theorem layX_any (g a : Nat) (A : Option Addr) (n c : Nat) (zs ys : List Int) (w : World) (hb : BX w g zs) (hf : Rd w w.heap.size A n ys) (hne : ∀ b off, A = some ⟨b, off, none⟩ → b ≠ g) (hn : a + n ≤ 512) :
    Calls Tryz.prog 33 #[.slice (some ⟨g, 0, none⟩) 512 512, .int .i64 a, .slice A n c] w fun e w' => e = .returned (.slice (some ⟨g, 0, none⟩) 512 512) ∧ BX w' g (splice zs a ys) ∧ But g w w' := by
  have HB := hid hb
  have HF := hid hf
  have HNE := hid hne
  have HL := hid hb.len
  have HFL := hid hf.len
  clear hb hf hne
  go_enter Tryz.func33, Tryz.ntmps33
  go_wp2
  go_loopw [7] (fun i wr => ∃ k : Nat, i = .int .i64 k ∧ k ≤ n ∧ Hid (BX wr g (splice zs a (ys.take k))) ∧ Hid (But g w wr)) (fun i _ => n - (RowKit.intOf i).toNat)
  case atStart => exact ⟨0, rfl, Nat.zero_le _, hid (by rw [List.take_zero, splice_nil]; exact HB.out), hid (But.refl _ _)⟩
  case round =>
    clear HB
    obtain ⟨k, rfl, hk, HB, HW⟩ := hrel
    by_cases hlt : k < n
    · obtain ⟨b, off, rfl, hbw, hc⟩ := HF.out.2.2 (by omega)
      have hl := HFL.out
      obtain ⟨z, hz⟩ : ∃ z, ys[k]? = some z := ⟨_, List.getElem?_eq_getElem (by omega)⟩
      have hcz : wr.cell? ⟨b, off + k, none⟩ = some (.int .u8 z) := by
        rw [World.cell?_of_block (HW.out.block b hbw (HNE.out _ _ rfl))]
        exact hc k z hz
      have hzb := HF.out.2.1 z (List.mem_of_getElem? hz)
      have hak : a + k < 512 := by omega
      obtain ⟨y, hcy, hfy⟩ := HB.out.at_ hak
      have HZ := hid hzb
      have HQ := hid (⟨HB.out.set (a + k) hzb, HW.out.trans (But.set g wr (a + k) (.int .u8 z))⟩ : _ ∧ _)
      rw [splice_step HL.out hz hak] at HQ
      clear hc hz hzb HB hl hbw
      go_wp2
      go_roundw
      case rel => exact ⟨k + 1, (by go_num), hlt, hid HQ.out.1, hid HQ.out.2⟩
      case measure => simp [RowKit.intOf]; omega
    · obtain rfl : k = n := by omega
      have HE := hid (show BX wr g (splice zs a ys) by
        have := HB.out
        rwa [List.take_of_length_le (by rw [HFL.out]; exact Nat.le_refl _)] at this)
      clear HB
      go_wp2
      go_ret
      exact ⟨rfl, HE.out, HW.out⟩
end Go.Proofs.YtkpnhggpcpjddaaGreatDoor
