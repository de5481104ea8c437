/-
  The contract of Count, and of the document's Same.
-/
import Derived.Test.YthejomfchjlcnaaChCover
import Derived.BigQuiet
set_option linter.unusedVariables false
set_option linter.unusedSimpArgs false
namespace Go.Proofs.Ythejomfchjlcnaa
open Go.RowKit Go.Lib

namespace C
theorem cnt_step {l : List Sp} {k : Nat} {p : Sp} {c acc t : Int} (h : t = acc + cnt c (l.drop k)) (hp : l[k]? = some p) :
    (p.2.2 = c ∧ p.1 < p.2.1 ∧ t = (acc + (p.2.1 - p.1)) + cnt c (l.drop (k + 1))) ∨ (¬ (p.2.2 = c ∧ p.1 < p.2.1) ∧ t = acc + cnt c (l.drop (k + 1))) := by
  obtain ⟨hk, rfl⟩ := List.getElem?_eq_some_iff.1 hp
  rw [List.drop_eq_getElem_cons hk, cnt] at h
  by_cases hh : l[k].2.2 = c ∧ l[k].1 < l[k].2.1
  · rw [if_pos hh] at h; exact .inl ⟨hh.1, hh.2, by omega⟩
  · rw [if_neg hh] at h; exact .inr ⟨hh, by omega⟩
end C

set_option maxRecDepth 100000 in
set_option maxHeartbeats 4000000 in
theorem count_any (A : Option Addr) (n c : Nat) (l : List C.Sp) (cl : Int) (w : World) (hr : RdS w w.heap.size A n l) (hn : n ≤ 1000) (hcc : n ≤ c) (hf : C.Fit 1000 l) :
    Calls Try.prog 9 #[.slice A n c, .int .i64 cl] w fun e w' => e = .returned (.int .i64 (C.cnt cl l)) ∧ Below w.heap.size w w' := by
  have HL := hid hr.len
  have HR := hid hr
  have HF := hid hf
  clear hr hf
  generalize hbb : C.cnt cl l = b0
  have HC0 : Hid (b0 = 0 + C.cnt cl (l.drop 0)) := hid (by rw [List.drop_zero, ← hbb]; omega)
  clear hbb
  go_enter Try.func9, Try.ntmps9
  go_wp2
  go_loopw [5, 10] (fun av iv wr => ∃ (k : Nat) (acc : Int), iv = .int .i64 k ∧ av = .int .i64 acc ∧ k ≤ n ∧ 0 ≤ acc ∧ acc ≤ 1000 * k ∧ Hid (b0 = acc + C.cnt cl (l.drop k)) ∧ Hid (Below w.heap.size w wr)) (fun _ iv _ => n - (RowKit.intOf iv).toNat)
  case atStart => exact ⟨0, 0, rfl, rfl, Nat.zero_le _, by omega, by omega, HC0, hid (Below.refl _ _)⟩
  case round =>
    obtain ⟨k, acc, rfl, rfl, hk, ha0, ha1, HC, HW⟩ := hrel
    by_cases hlt : k < n
    · obtain ⟨bb, off, p, rfl, hb, hp, hc1, hc2, hc3⟩ := (HR.out.below HW.out).at_ hlt
      have hst := C.cnt_step HC.out hp
      obtain ⟨f0, f1, f2⟩ := HF.out p (List.mem_of_getElem? hp)
      obtain ⟨px, py, pc⟩ := p
      dsimp only at hc1 hc2 hc3 hst f0 f1 f2
      have g1 : BoxS (wr.alloc (.cells #[.int .i64 px, .int .i64 py, .int .i64 pc] 29)) wr.heap.size (px, py, pc) := BoxS.new wr (px, py, pc)
      have hgl := g1.lt
      have G1 := hid g1
      have G3 := hid (HW.out.alloc HW.out.size (.cells #[.int .i64 px, .int .i64 py, .int .i64 pc] 29))
      have d2 : decide (px < py) = true := by rw [decide_eq_true_eq]; exact f1
      have HH := hid (fun (W : World) => has_any (px, py, pc) W)
      unfold sval at HH
      dsimp only at HH
      rw [d2] at HH
      clear g1 hp HC
      by_cases e1 : pc = cl
      case' neg =>
        have d1 : (pc == cl) = false := by simpa using e1
        have HE := hid (show b0 = acc + C.cnt cl (l.drop (k + 1)) by rcases hst with ⟨h, _⟩ | ⟨_, h⟩; exact absurd h e1; exact h)
      case' pos =>
        have HE := hid (show b0 = (acc + (py - px)) + C.cnt cl (l.drop (k + 1)) by rcases hst with ⟨_, _, h⟩ | ⟨h, _⟩; exact h; exact absurd ⟨e1, f1⟩ h)
        subst e1
        have d1 : (pc == pc) = true := by simp
      all_goals
        clear hst d2
        by_cases hk0 : k = 0
        case' pos =>
          subst hk0
          simp only [Nat.zero_mul, Nat.add_zero] at hc1 hc2 hc3
        case' neg => have hk1 : 0 < k := by omega
      all_goals
        go_wp2_with (first
          | (go_at_call 14; (with_reducible refine (HH.out _).mono ?_); rintro e w2 ⟨rfl, b2⟩
             have H1 := G1.out.of_block (b2.block _ hgl)
             have r1 := H1.cell0
             have r2 := H1.cell1
             dsimp only at r1 r2
             have K3 := hid (G3.out.trans (b2.mono G3.out.size))
             clear b2 H1))
        go_roundw
        case rel =>
          first
            | exact ⟨_, _, (show Value.int .i64 _ = Value.int .i64 ((_ + 1 : Nat) : Int) by go_num), rfl, by omega, by omega, by omega, HE, K3⟩
            | exact ⟨_, _, (show Value.int .i64 _ = Value.int .i64 ((_ + 1 : Nat) : Int) by go_num), rfl, by omega, by omega, by omega, HE, G3⟩
        case measure => simp [RowKit.intOf] <;> omega
    · obtain rfl : k = n := by omega
      have HE := hid (show b0 = acc by rw [HC.out, List.drop_of_length_le (by rw [HL.out]; exact Nat.le_refl _)]; simp [C.cnt])
      clear HC
      go_wp2
      go_ret
      exact ⟨by rw [HE.out]; rfl, HW.out⟩

set_option maxRecDepth 100000 in
set_option maxHeartbeats 4000000 in
theorem same_any (A A' : Option Addr) (n n' c c' : Nat) (l l' : List C.Sp) (w : World) (B : Nat) (hB : B ≤ w.heap.size) (hr : RdS w B A n l) (hr' : RdS w B A' n' l') (hn : n ≤ 1000000) (hn' : n' ≤ 1000000) (he : l = l') :
    Calls Try.prog 10 #[.slice A n c, .slice A' n' c'] w fun e w' => e = .returned (.bool true) ∧ Below w.heap.size w w' := by
  subst he
  obtain rfl : n = n' := by rw [← hr.len, ← hr'.len]
  have HR := hid hr
  have HR' := hid hr'
  clear hr hr'
  go_enter Try.func10, Try.ntmps10
  go_wp2
  go_loopw [5] (fun iv wr => ∃ (k : Nat), iv = .int .i64 k ∧ k ≤ n ∧ Hid (Below w.heap.size w wr)) (fun iv _ => n - (RowKit.intOf iv).toNat)
  case atStart => exact ⟨0, rfl, Nat.zero_le _, hid (Below.refl _ _)⟩
  case round =>
    obtain ⟨k, rfl, hk, HW⟩ := hrel
    by_cases hlt : k < n
    · obtain ⟨bb, off, p, rfl, hb, hp, hc1, hc2, hc3⟩ := (HR.out.below (HW.out.mono hB)).at_ hlt
      obtain ⟨bb', off', p', rfl, hb', hp', hc1', hc2', hc3'⟩ := (HR'.out.below (HW.out.mono hB)).at_ hlt
      obtain rfl : p = p' := by rw [hp] at hp'; injection hp'
      obtain ⟨px, py, pc⟩ := p
      dsimp only at hc1 hc2 hc3 hc1' hc2' hc3'
      clear hp hp'
      by_cases hk0 : k = 0
      case' pos =>
        subst hk0
        simp only [Nat.zero_mul, Nat.add_zero] at hc1 hc2 hc3 hc1' hc2' hc3'
      case' neg => have hk1 : 0 < k := by omega
      all_goals
        go_wp2_with fail
        go_quiet (fail)
        have HW2 := hid (below_drewN' HW.out nq)
        go_wp2
        go_roundw
        case rel => exact ⟨_, (show Value.int .i64 _ = Value.int .i64 ((_ + 1 : Nat) : Int) by go_num), by omega, HW2⟩
        case measure => simp [RowKit.intOf] <;> omega
    · obtain rfl : k = n := by omega
      go_wp2
      go_ret
      exact ⟨rfl, HW.out⟩
end Go.Proofs.Ythejomfchjlcnaa
