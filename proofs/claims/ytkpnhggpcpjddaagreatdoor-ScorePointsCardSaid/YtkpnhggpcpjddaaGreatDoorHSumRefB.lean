/-
  The contracts of the document's Told, Right and Seal.
-/
import Derived.Test.YtkpnhggpcpjddaaGreatDoorHSumRef
import Derived.Test.YtkpnhggpcpjddaaGreatDoorHMg
set_option linter.unusedVariables false
set_option linter.unusedSimpArgs false
namespace Go.Proofs.YtkpnhggpcpjddaaGreatDoor
open Go.RowKit Go.Lib

/-- 's[148:156]' of 512 bytes. -/
theorem Rd.field {w : World} {B c : Nat} {A : Option Addr} {zs : List Int} (h : Rd w B A 512 zs) (hc : 512 ≤ c) : ∃ b off, A = some ⟨b, off, none⟩ ∧ Rd w B (some ⟨b, off + 148, none⟩) 8 (M.fld zs) := by
  obtain ⟨b, off, rfl, hb, hcell⟩ := h.2.2 (by decide)
  refine ⟨b, off, rfl, by unfold M.fld; rw [List.length_take, List.length_drop, h.len]; decide, fun z hz => h.bd z (List.mem_of_mem_drop (List.mem_of_mem_take hz)), fun _ => ⟨b, off + 148, rfl, hb, fun j z hj => ?_⟩⟩
  unfold M.fld at hj
  rw [List.getElem?_take] at hj
  split at hj
  · rw [List.getElem?_drop] at hj
    rw [Nat.add_assoc]
    exact hcell _ z hj
  · cases hj

set_option maxRecDepth 100000 in
set_option maxHeartbeats 800000 in
theorem refTold_any (A : Option Addr) (n c : Nat) (zs : List Int) (w : World) (B : Nat) (hr : Rd w B A n zs) (hn : n ≤ c) (hc : c ≤ maxLen) :
    Calls Tryz.prog 21 #[.slice A n c] w fun e w' => e = .returned (.tuple #[.int .i64 (M.toldN zs), .bool (M.toldOk zs)]) ∧ w = w' := by
  by_cases h : n = 512
  · subst h
    obtain ⟨b, off, rfl, hf⟩ := hr.field hn
    have HF := hid (M.toldOk_yes hr.len)
    have HG := hid (M.toldN_yes hr.len)
    have HO := hid (octalRef_any _ 8 (c - 148) (M.fld zs) w B hf (by omega) (by unfold maxLen at hc ⊢; omega))
    have hck : ¬ c = 148 := by omega
    clear hr hf hc
    go_enter Tryz.func21, Tryz.ntmps21
    go_wp2_with fail
    (with_reducible refine HO.out.mono ?_)
    rintro e w' ⟨rfl, rfl⟩
    go_wp2
    go_ret2
    exact ⟨ret2_eq HG.out.symm HF.out.symm, rfl⟩
  · have hne : ((n : Int) != 512) = true := by simp; omega
    have hl : zs.length ≠ 512 := by rw [hr.len]; exact h
    have HF := hid (M.toldOk_no hl)
    have HG := hid (M.toldN_no hl)
    clear hl hr h
    go_enter Tryz.func21, Tryz.ntmps21
    go_wp2
    go_ret2
    exact ⟨ret2_eq HG.out.symm HF.out.symm, rfl⟩

set_option maxHeartbeats 800000 in
theorem refRight_any (A : Option Addr) (n c : Nat) (zs : List Int) (w : World) (B : Nat) (hr : Rd w B A n zs) (hn : n ≤ c) (hc : c ≤ maxLen) (hs : n ≤ 65536) :
    Calls Tryz.prog 25 #[.slice A n c] w fun e w' => e = .returned (.bool (M.right zs)) ∧ w = w' := by
  have HT := hid (refTold_any A n c zs w B hr hn hc)
  have HU := hid (refUnsigned_any A n c zs w B hr hs)
  have HS := hid (refSigned_any A n c zs w B hr hs)
  have H1 := hid (M.right_no (zs := zs))
  have H2 := hid (right_yes (zs := zs))
  clear hr
  generalize M.toldN zs = t at *
  generalize M.uns zs = u at *
  generalize M.sgn zs = s at *
  cases hk : M.toldOk zs with
  | false =>
    have HR := hid (H1.out hk)
    rw [hk] at HT
    clear hk H1 H2
    go_enter Tryz.func25, Tryz.ntmps25
    go_wp2_with fail
    (with_reducible refine HT.out.mono ?_)
    rintro e w' ⟨rfl, rfl⟩
    go_wp2
    go_ret
    exact ⟨ret_bool HR.out.symm, rfl⟩
  | true =>
    have HR := hid (H2.out hk)
    rw [hk] at HT
    clear hk H1 H2
    by_cases h1 : t = u
    · have e1 : (t == u) = true := by simpa using h1
      have HV : Hid (M.right zs = true) := hid (by rw [HR.out, e1]; rfl)
      clear h1 HR
      go_enter Tryz.func25, Tryz.ntmps25
      go_wp2_with fail
      (with_reducible refine HT.out.mono ?_)
      rintro e w' ⟨rfl, rfl⟩
      go_wp2_with fail
      (with_reducible refine HU.out.mono ?_)
      rintro e w' ⟨rfl, rfl⟩
      go_wp2
      go_ret
      exact ⟨ret_bool HV.out.symm, rfl⟩
    · have e1 : (t == u) = false := by simpa using h1
      have HV : Hid (M.right zs = (t == s)) := hid (by rw [HR.out, e1]; rfl)
      clear h1 HR
      go_enter Tryz.func25, Tryz.ntmps25
      go_wp2_with fail
      (with_reducible refine HT.out.mono ?_)
      rintro e w' ⟨rfl, rfl⟩
      go_wp2_with fail
      (with_reducible refine HU.out.mono ?_)
      rintro e w' ⟨rfl, rfl⟩
      go_wp2_with fail
      (with_reducible refine HS.out.mono ?_)
      rintro e w' ⟨rfl, rfl⟩
      go_wp2
      go_ret
      exact ⟨ret_bool HV.out.symm, rfl⟩
end Go.Proofs.YtkpnhggpcpjddaaGreatDoor
