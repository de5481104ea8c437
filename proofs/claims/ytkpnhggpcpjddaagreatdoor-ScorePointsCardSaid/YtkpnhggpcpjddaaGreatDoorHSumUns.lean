/-
  The contracts of Unsigned, Signed, Told, Right and Zero of the program.
-/
import Derived.Test.YtkpnhggpcpjddaaGreatDoorHSumWhole
import Derived.Test.YtkpnhggpcpjddaaGreatDoorHMr
set_option linter.unusedVariables false
set_option linter.unusedSimpArgs false
namespace Go.Proofs.YtkpnhggpcpjddaaGreatDoor
open Go.RowKit Go.Lib
attribute [local go_sem] zeroBlk
attribute [local go_sem ↓] zc_blk
attribute [local go_sem ↓] run_buildBlk run_toArr

theorem rd_small {w : World} {B n : Nat} {A : Option Addr} {zs : List Int} (h : Rd w B A n zs) (hB : B ≤ w.heap.size) (o : Obj) : Rd (w.alloc o) B A n zs := h.alloc hB o

set_option maxHeartbeats 400000 in
theorem unsigned_any (A : Option Addr) (n c : Nat) (zs : List Int) (w : World) (B : Nat) (hr : Rd w B A n zs) (hB : B ≤ w.heap.size) (hs : n ≤ 65536) :
    Calls Tryz.prog 68 #[.slice A n c] w fun e w' => e = .returned (.int .i64 (M.uns zs)) ∧ Below w.heap.size w w' := by
  have HT := hid (unsignedTog_any A n c zs (w.alloc (.cells #[.slice A n c] 22)) B (hr.alloc hB _) hs ⟨w.heap.size, 0, none⟩ (by simp [World.cell?_alloc_mark]))
  clear hr
  go_enter Tryz.func68, Tryz.ntmps68
  go_wp2_with fail
  (with_reducible refine HT.out.mono ?_)
  rintro e w' ⟨rfl, rfl⟩
  go_wp2
  go_ret
  exact ⟨rfl, (Below.refl _ _).alloc (Nat.le_refl _) _⟩

set_option maxHeartbeats 400000 in
theorem signed_any (A : Option Addr) (n c : Nat) (zs : List Int) (w : World) (B : Nat) (hr : Rd w B A n zs) (hB : B ≤ w.heap.size) (hs : n ≤ 65536) :
    Calls Tryz.prog 69 #[.slice A n c] w fun e w' => e = .returned (.int .i64 (M.sgn zs)) ∧ Below w.heap.size w w' := by
  have HT := hid (signedTog_any A n c zs (w.alloc (.cells #[.slice A n c] 22)) B (hr.alloc hB _) hs ⟨w.heap.size, 0, none⟩ (by simp [World.cell?_alloc_mark]))
  clear hr
  go_enter Tryz.func69, Tryz.ntmps69
  go_wp2_with fail
  (with_reducible refine HT.out.mono ?_)
  rintro e w' ⟨rfl, rfl⟩
  go_wp2
  go_ret
  exact ⟨rfl, (Below.refl _ _).alloc (Nat.le_refl _) _⟩

set_option maxRecDepth 100000 in
set_option maxHeartbeats 800000 in
theorem told_any (A : Option Addr) (n c : Nat) (zs : List Int) (w : World) (B : Nat) (hr : Rd w B A n zs) (hB : B ≤ w.heap.size) :
    Calls Tryz.prog 67 #[.slice A n c] w fun e w' => e = .returned (.tuple #[.int .i64 (M.toldN zs), .bool (M.toldOk zs)]) ∧ Below w.heap.size w w' := by
  have HW := hid (whole_any A n c zs w B hr hB)
  have HL := hid hr.len
  have HZ := hid hr.bd
  clear hr hB
  by_cases h : zs.length = 512
  · have hf : M.toldOk zs = M.octOk (M.fld zs) := M.toldOk_yes h
    have hg : M.toldN zs = M.octN (M.fld zs) := M.toldN_yes h
    have HF := hid hf
    have HG := hid hg
    have H5 := hid h
    clear hf hg
    go_enter Tryz.func67, Tryz.ntmps67
    go_wp2_with fail
    (with_reducible refine HW.out.mono ?_)
    rintro e w1 ⟨rfl, b1⟩
    rw [if_pos h, decide_eq_true h]
    clear h
    go_wp2_with (refine wpList_store_arr rfl (.tmp 4) (.tmp 9) rfl w1.heap.size (by simp [Act.eval, Act.put]) zs (nils 512) (by simp [Act.eval, Act.put]) _ (Arr.new _ _ _) H5.out (nils_len _) ?_; rw [setRow_alloc_arr])
    have hp := hid ((Arr.new w1 65 zs).part HZ.out (Nat.lt_succ_self _) 148 8 (by rw [H5.out]; decide))
    (with_reducible refine (octal_any _ 8 364 (M.fld zs) _ _ hp.out (by decide) (by decide)).mono ?_)
    rintro e w' ⟨rfl, rfl⟩
    go_wp2
    go_ret2
    exact ⟨ret2_eq HG.out.symm HF.out.symm, b1.alloc b1.size _⟩
  · have hf := M.toldOk_no h
    have hg := M.toldN_no h
    have HF := hid hf
    have HG := hid hg
    clear hf hg
    go_enter Tryz.func67, Tryz.ntmps67
    go_wp2_with fail
    (with_reducible refine HW.out.mono ?_)
    rintro e w1 ⟨rfl, b1⟩
    rw [if_neg h, decide_eq_false h]
    clear h
    go_wp2_with (refine wpList_store_arr rfl (.tmp 4) (.tmp 9) rfl w1.heap.size (by simp [Act.eval, Act.put]) (nils 512) (nils 512) (by simp [Act.eval, Act.put]) _ (Arr.new _ _ _) (nils_len _) (nils_len _) ?_; rw [setRow_alloc_arr])
    go_ret2
    exact ⟨ret2_eq HG.out.symm HF.out.symm, b1.alloc b1.size _⟩

theorem right_yes {zs : List Int} (h : M.toldOk zs = true) : M.right zs = (M.toldN zs == M.uns zs || M.toldN zs == M.sgn zs) := by unfold M.right; rw [h]; rfl

set_option maxHeartbeats 800000 in
theorem right_any (A : Option Addr) (n c : Nat) (zs : List Int) (w : World) (B : Nat) (hr : Rd w B A n zs) (hB : B ≤ w.heap.size) (hs : n ≤ 65536) :
    Calls Tryz.prog 41 #[.slice A n c] w fun e w' => e = .returned (.bool (M.right zs)) ∧ Below w.heap.size w w' := by
  have HT := hid (told_any A n c zs w B hr hB)
  have HU := hid (fun w1 (hb : Below w.heap.size w w1) => unsigned_any A n c zs w1 B (hr.keep fun p hp => hb.cell (Nat.lt_of_lt_of_le hp hB)) (Nat.le_trans hB hb.size) hs)
  have HS := hid (fun w1 (hb : Below w.heap.size w w1) => signed_any A n c zs w1 B (hr.keep fun p hp => hb.cell (Nat.lt_of_lt_of_le hp hB)) (Nat.le_trans hB hb.size) hs)
  have H1 := hid (M.right_no (zs := zs))
  have H2 := hid (right_yes (zs := zs))
  clear hr
  generalize M.toldN zs = t at *
  generalize M.uns zs = u at *
  generalize M.sgn zs = s at *
  cases hk : M.toldOk zs with
  | false =>
    have HR := hid (H1.out hk)
    rw [hk] at HT
    clear hk H1 H2
    go_enter Tryz.func41, Tryz.ntmps41
    go_wp2_with fail
    (with_reducible refine HT.out.mono ?_)
    rintro e w1 ⟨rfl, b1⟩
    go_wp2
    go_ret
    exact ⟨ret_bool HR.out.symm, b1⟩
  | true =>
    have HR := hid (H2.out hk)
    rw [hk] at HT
    clear hk H1 H2
    by_cases h1 : t = u
    · have e1 : (t == u) = true := by simpa using h1
      have HV : Hid (M.right zs = true) := hid (by rw [HR.out, e1]; rfl)
      clear h1 HR
      go_enter Tryz.func41, Tryz.ntmps41
      go_wp2_with fail
      (with_reducible refine HT.out.mono ?_)
      rintro e w1 ⟨rfl, b1⟩
      go_wp2_with fail
      (with_reducible refine (HU.out _ b1).mono ?_)
      rintro e w2 ⟨rfl, b2⟩
      have b02 := b1.trans (b2.mono b1.size)
      go_wp2
      go_ret
      exact ⟨ret_bool HV.out.symm, b02⟩
    · have e1 : (t == u) = false := by simpa using h1
      have HV : Hid (M.right zs = (t == s)) := hid (by rw [HR.out, e1]; rfl)
      clear h1 HR
      go_enter Tryz.func41, Tryz.ntmps41
      go_wp2_with fail
      (with_reducible refine HT.out.mono ?_)
      rintro e w1 ⟨rfl, b1⟩
      go_wp2_with fail
      (with_reducible refine (HU.out _ b1).mono ?_)
      rintro e w2 ⟨rfl, b2⟩
      have b02 := b1.trans (b2.mono b1.size)
      go_wp2_with fail
      (with_reducible refine (HS.out _ b02).mono ?_)
      rintro e w3 ⟨rfl, b3⟩
      have b03 := b02.trans (b3.mono b02.size)
      go_wp2
      go_ret
      exact ⟨ret_bool HV.out.symm, b03⟩
end Go.Proofs.YtkpnhggpcpjddaaGreatDoor
