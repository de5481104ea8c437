/-
  Slices cut and made, in plain words.
-/
import Derived.Test.YtjpflljmeaihgaaDoorSpExpand
import Derived.Laws.CopyOwn
namespace Go.Proofs.YtjpflljmeaihgaaDoor
open Go.RowKit Go.Lib

theorem sp_elem : Tryd.prog.elem 23 = 5 := by kernel_rfl
theorem sp_size : (Tryd.prog.info? 5).map (·.size) = some 1 := by kernel_rfl
/-- 's[l:]' of bytes, the address under one name. -/
theorem spSlice_from (w : World) (a : Option Addr) (len cap : Nat) (kl : IntKind) (l : Int) (h0 : 0 ≤ l) (h1 : l ≤ len) :
    (Instr.slice 23 (.slice a len cap) (some (.int kl l)) none none).run Tryd.prog w = .ok (.slice (cutA a cap l.toNat) (len - l.toNat) (cap - l.toNat)) w := by
  have ht : Tryd.prog.underlying 23 = some (.slice (Tryd.prog.elem 23)) := by rw [sp_elem]; exact Tryd.underlying23
  rw [run_slice_l w 23 a len cap ht kl l h0 h1, sp_elem]
  have hs : (sizeOf 5).run Tryd.prog w = .ok 1 w := by
    obtain ⟨i, hi, hz⟩ := Option.map_eq_some_iff.1 sp_size
    simp [sizeOf, typeInfo, hi, hz]
  rw [hs]
  simp [Result.andThen, sliced, cutA]
/-- 's[:h]' of bytes. -/
theorem spSlice_to (w : World) (a : Option Addr) (len cap : Nat) (kh : IntKind) (h : Int) (h0 : 0 ≤ h) (h1 : h ≤ cap) :
    (Instr.slice 23 (.slice a len cap) none (some (.int kh h)) none).run Tryd.prog w = .ok (.slice a h.toNat cap) w := by
  have ht : Tryd.prog.underlying 23 = some (.slice (Tryd.prog.elem 23)) := by rw [sp_elem]; exact Tryd.underlying23
  rw [run_slice_h w 23 a len cap ht kh h h0 h1, sp_elem]
  have hs : (sizeOf 5).run Tryd.prog w = .ok 1 w := by
    obtain ⟨i, hi, hz⟩ := Option.map_eq_some_iff.1 sp_size
    simp [sizeOf, typeInfo, hi, hz]
  rw [hs]
  have hadd : ∀ x : Addr, x.add 0 = x := fun x => by simp [Addr.add]
  have hm : a.map (·.add 0) = a := by cases a <;> simp [hadd]
  simp [Result.andThen, sliced, hm]
/-- 's[l:h]' of bytes. -/
theorem spSlice_mid (w : World) (a : Option Addr) (len cap : Nat) (kl kh : IntKind) (l h : Int) (h0 : 0 ≤ l) (h1 : l ≤ h) (h2 : h ≤ cap) :
    (Instr.slice 23 (.slice a len cap) (some (.int kl l)) (some (.int kh h)) none).run Tryd.prog w = .ok (.slice (cutA a cap l.toNat) (h.toNat - l.toNat) (cap - l.toNat)) w := by
  have ht : Tryd.prog.underlying 23 = some (.slice (Tryd.prog.elem 23)) := by rw [sp_elem]; exact Tryd.underlying23
  rw [run_slice_lh w 23 a len cap ht kl kh l h h0 h1 h2, sp_elem]
  have hs : (sizeOf 5).run Tryd.prog w = .ok 1 w := by
    obtain ⟨i, hi, hz⟩ := Option.map_eq_some_iff.1 sp_size
    simp [sizeOf, typeInfo, hi, hz]
  rw [hs]
  simp [Result.andThen, sliced, cutA]
theorem cutA_zero {g R a : Nat} (h : R ≠ a) : cutA (some ⟨g, 0, none⟩) R a = some ⟨g, a, none⟩ := by
  unfold cutA
  rw [if_neg h]
  simp [Addr.add]
  intro h; exact h.symm

theorem made_zeros (n : Nat) : madeCells #[Value.int .u8 0] n = (bcells (M.zeros n)).toArray := by
  apply Array.ext
  · simp [madeCells, bcells, M.zeros]
  · intro i h1 h2
    simp [madeCells, bcells, M.zeros, Nat.mod_one]
theorem run_makeB (n : Nat) (hn : n ≤ 1000000000) (w : World) : (Instr.makeSlice 23 (.int .i64 (n : Int)) (.int .i64 (n : Int))).run Tryd.prog w = .ok (.slice (some ⟨w.heap.size, 0, none⟩) n n) (w.alloc (.cells (bcells (M.zeros n)).toArray 5)) := by
  have h := run_make_row' (P := Tryd.prog) 23 5 (.int .u8 0) 1 Tryd.underlying23 u8_parts rfl .i64 .i64 n (by omega) (by omega) w
  rw [made_zeros] at h
  exact h
/-- A block of bytes is a row of one's own. -/
theorem OwnY.of_blk {w : World} {g base : Nat} {zs : List Int} {n : Nat} (h : Blk w g 5 (bcells zs)) (hb : base ≤ g) (hn : zs.length = n) (hm : n ≤ 1000000000) : OwnY w base (.slice (some ⟨g, 0, none⟩) n n) zs := by
  subst hn
  refine ⟨by rw [bcells_len, Nat.mul_one], .inr ⟨g, zs.length, (bcells zs).toArray, rfl, hb, h, Nat.le_refl _, by unfold maxLen; omega, ?_⟩⟩
  exact ⟨by simp [bcells], by rw [Nat.mul_one]; exact List.take_of_length_le (by simp [bcells])⟩
theorem Blk.rd {w : World} {g : Nat} {zs : List Int} (h : Blk w g 5 (bcells zs)) (hz : u8s zs) : Rd w w.heap.size (some ⟨g, 0, none⟩) zs.length zs :=
  ⟨rfl, hz, fun _ => ⟨g, 0, rfl, h.lt, fun j z hj => by rw [Nat.zero_add]; exact h.cell (by simp [bcells, hj])⟩⟩
theorem bcells_splice (a b : List Int) (o : Nat) : splice (bcells a) o (bcells b) = bcells (splice a o b) := by
  simp [splice, bcells, List.map_take, List.map_drop]
theorem bcells_set (a : List Int) (k : Nat) (z : Int) : (bcells a).set k (.int .u8 z) = bcells (a.set k z) := by simp [bcells, List.map_set]

/-- copy into a row known whole: that row alone turns. -/
theorem step_copy_but {ops : Array Oper} {o : Oper} {a : Act} {w : World} {K : Act → World → Prop} {Q : Exit → Act → World → Prop} {E : Prop} (hgd : o.guard = none) (d s : Operand)
    (ho : o.op = .call { callee := .builtin .copy, args := #[d, s], argTypes := #[23, 23] })
    (dp sp : Option Addr) (dLen dCap sLen sCap : Nat) (hd : a.eval d = .slice dp dLen dCap) (hs : a.eval s = .slice sp sLen sCap)
    (g off : Nat) (zs xs : List Int) (hg : Blk w g 5 (bcells zs)) (hn : xs.length = Nat.min sLen dLen)
    (hpos : 0 < xs.length → dp = some ⟨g, off, none⟩ ∧ ∃ ad, sp = some ad ∧ ∀ j v, (bcells xs)[j]? = some v → w.cell? (ad.add j) = some v)
    (hfit : off + xs.length ≤ zs.length)
    (h : ∀ w', Hid (Blk w' g 5 (bcells (splice zs off xs))) → Hid (w'.os = w.os ∧ w'.tape = w.tape ∧ w'.output = w.output ∧ w'.heap.size = w.heap.size) → Hid (∀ k, k ≠ g → w'.heap[k]? = w.heap[k]?) → K (a.put o.dst (goInt xs.length)) w') :
    if Region.wanted o (yielded ops a.tmps) = true then Oper.wp Tryd.prog o a w K Q else E := by
  have hw : Region.wanted o (yielded ops a.tmps) = true := by simp [Region.wanted, hgd]
  rw [if_pos hw]
  have hl := bcells_len xs
  by_cases h0 : xs.length = 0
  · obtain rfl : xs = [] := List.eq_nil_of_length_eq_zero h0
    have hrun := run_copy_none (P := Tryd.prog) w 23 23 o.type 5 dp sp dLen dCap sLen sCap Tryd.underlying23 sp_size (by simpa using hn.symm)
    unfold Oper.wp
    simp [execOp, ho, resolve, invoke, builtin, hd, hs, hrun, Result.andThen]
    exact h w (Lib.hid (by simpa [splice] using hg)) (Lib.hid ⟨rfl, rfl, rfl, rfl⟩) (Lib.hid fun _ _ => rfl)
  · obtain ⟨rfl, ad, rfl, hsrc⟩ := hpos (by omega)
    have hrun := run_copy_row (P := Tryd.prog) w 23 23 o.type 5 g off dLen dCap ad sLen sCap (bcells zs).toArray 5 (bcells xs) Tryd.underlying23 sp_size hg (by rw [hl]; exact hn) hsrc (by simpa [bcells] using hfit) (bcells_one _)
    rw [hl] at hrun
    unfold Oper.wp
    simp [execOp, ho, resolve, invoke, builtin, hd, hs, hrun, Result.andThen]
    refine h _ (Lib.hid ?_) (Lib.hid ⟨rfl, rfl, rfl, by simp [World.setRow]⟩) (Lib.hid fun k hk => setRow_other w g k _ hk)
    have := setRow_heap w g _ (splice (bcells zs) off (bcells xs)).toArray 5 _ hg
    rw [bcells_splice] at this
    simpa [splice, bcells, Blk] using this
end Go.Proofs.YtjpflljmeaihgaaDoor
