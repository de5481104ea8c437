/-
  Choices: a byte of them, a name, a number.
-/
import Derived.Test.YtcedcfagfklohaaKhFieldZ
import Derived.Test.YtcedcfagfklohaaKhPutZ
import Derived.Test.YtcedcfagfklohaaKhSumMem
set_option linter.unusedVariables false
set_option linter.unusedSimpArgs false
namespace Go.Proofs.Ytcedcfagfklohaa.Hd
open Go.RowKit Go.Lib

namespace M
def gz (zs : List Int) (i : Nat) : Int := zs.getD i 0
theorem gz_bd {zs : List Int} (h : ∀ z ∈ zs, 0 ≤ z ∧ z ≤ 255) (i : Nat) : 0 ≤ gz zs i ∧ gz zs i ≤ 255 := by
  unfold gz
  rw [List.getD_eq_getElem?_getD]
  cases hz : zs[i]? with
  | none => exact ⟨Int.le_refl _, by decide⟩
  | some z => exact h z (List.mem_of_getElem? hz)
def longName : ByteArray := ⟨#[97, 32, 108, 111, 110, 103, 32, 110, 97, 109, 101, 44, 32, 111, 102, 32, 115, 111, 109, 101, 32, 102, 111, 114, 116, 121, 32, 98, 121, 116, 101, 115, 58, 32, 49, 50, 51, 52, 53, 54]⟩
def nm (c : Int) : ByteArray :=
  if c % 6 = 0 then ⟨#[]⟩ else if c % 6 = 1 then ⟨#[100, 105, 114, 47]⟩ else if c % 6 = 2 then longName else if c % 6 = 3 then ⟨#[195, 169]⟩ else ⟨#[UInt8.ofNat (97 + c % 26).toNat]⟩
theorem nm_size (c : Int) : (nm c).size ≤ 100000 := by
  unfold nm
  repeat' split
  all_goals first | decide | exact Nat.le_trans (show (1 : Nat) ≤ 1 from Nat.le_refl _) (by decide)
def nr (c : Int) : Int :=
  if 230 < c then
    (if c % 7 = 0 then 2097151 else if c % 7 = 1 then 2097152 else if c % 7 = 2 then 8589934591 else if c % 7 = 3 then 8589934592 else if c % 7 = 4 then 1099511627776 else if c % 7 = 5 then -1 else 4611686018427387904)
  else c
theorem nr_bd {c : Int} (h : 0 ≤ c ∧ c ≤ 255) : -1 ≤ nr c ∧ nr c ≤ 4611686018427387904 := by
  unfold nr
  repeat' split
  all_goals omega
end M

set_option maxRecDepth 100000 in
set_option maxHeartbeats 1000000 in
theorem g_any (A : Option Addr) (n c i : Nat) (zs : List Int) (w : World) (B : Nat) (hr : Rd w B A n zs) (hi : i ≤ 1000) :
    Calls Try.prog 14 #[.slice A n c, .int .i64 i] w fun e w' => e = .returned (.int .u8 (M.gz zs i)) ∧ w = w' := by
  by_cases hin : i < n
  · obtain ⟨b, off, z, rfl, _, _, _, hz, hcell⟩ := hr.at_ (k := i) hin
    have hg : M.gz zs i = z := by unfold M.gz; rw [List.getD_eq_getElem?_getD, hz]; rfl
    rw [hg]
    clear hr hz hg
    go_enter Try.func14, Try.ntmps14
    go_wp2
    go_ret
    exact ⟨rfl, rfl⟩
  · have hg : M.gz zs i = 0 := by unfold M.gz; rw [List.getD_eq_getElem?_getD, List.getElem?_eq_none (by rw [hr.len]; omega)]; rfl
    rw [hg]
    clear hr hg
    go_enter Try.func14, Try.ntmps14
    go_wp2
    go_ret
    exact ⟨rfl, rfl⟩

set_option maxRecDepth 100000 in
set_option maxHeartbeats 1000000 in
theorem name_any (c : Int) (hc : 0 ≤ c ∧ c ≤ 255) (w : World) : Calls Try.prog 13 #[.int .u8 c] w fun e w' => e = .returned (.string (M.nm c)) ∧ Below w.heap.size w w' := by
  have hm : c.tmod 6 = c % 6 := Int.tmod_eq_emod_of_nonneg hc.1
  have hm2 : c.tmod 26 = c % 26 := Int.tmod_eq_emod_of_nonneg hc.1
  have hcase : c % 6 = 0 ∨ c % 6 = 1 ∨ c % 6 = 2 ∨ c % 6 = 3 ∨ c % 6 = 4 ∨ c % 6 = 5 := by omega
  have h26 : 0 ≤ c % 26 ∧ c % 26 < 26 := by omega
  rcases hcase with h | h | h | h | h | h
  · have e : c.tmod 6 = 0 := by omega
    rw [show M.nm c = ⟨#[]⟩ by simp [M.nm, h]]
    clear hm hm2 h h26
    go_enter Try.func13, Try.ntmps13
    go_wp2
    go_ret
    exact ⟨rfl, Below.refl _ _⟩
  · have e : c.tmod 6 = 1 := by omega
    rw [show M.nm c = ⟨#[100, 105, 114, 47]⟩ by simp [M.nm, h]]
    clear hm hm2 h h26
    go_enter Try.func13, Try.ntmps13
    go_wp2
    go_ret
    exact ⟨rfl, Below.refl _ _⟩
  · have e : c.tmod 6 = 2 := by omega
    rw [show M.nm c = M.longName by simp [M.nm, h]]
    clear hm hm2 h h26
    go_enter Try.func13, Try.ntmps13
    go_wp2
    go_ret
    exact ⟨rfl, Below.refl _ _⟩
  · have e : c.tmod 6 = 3 := by omega
    rw [show M.nm c = ⟨#[195, 169]⟩ by simp [M.nm, h]]
    clear hm hm2 h h26
    go_enter Try.func13, Try.ntmps13
    go_wp2
    go_ret
    exact ⟨rfl, Below.refl _ _⟩
  · have e : c.tmod 6 = 4 := by omega
    rw [show M.nm c = ⟨#[UInt8.ofNat (97 + c % 26).toNat]⟩ by simp [M.nm, h]]
    have hw1 : IntKind.u8.wrap (c.tmod 26) = c % 26 := by rw [hm2]; exact IntWalk.u8_in _ (by omega)
    have hw2 : IntKind.u8.wrap (97 + c % 26) = 97 + c % 26 := IntWalk.u8_in _ (by omega)
    have hr : Rd (w.alloc (.cells #[.int .u8 (97 + c % 26)] 5)) (w.alloc (.cells #[.int .u8 (97 + c % 26)] 5)).heap.size (some ⟨w.heap.size, 0, none⟩) 1 [97 + c % 26] :=
      (Arr.new w 5 [97 + c % 26]).rd (by intro z hz; rw [List.mem_singleton] at hz; omega) (by simp)
    have cv := S.run_str hr 1
    rw [show S.strOf [97 + c % 26] = ⟨#[UInt8.ofNat (97 + c % 26).toNat]⟩ from rfl] at cv
    clear hm h hr
    go_enter Try.func13, Try.ntmps13
    go_wp2
    go_ret
    exact ⟨rfl, (Below.refl _ _).alloc (Nat.le_refl _) _⟩
  · have e : c.tmod 6 = 5 := by omega
    rw [show M.nm c = ⟨#[UInt8.ofNat (97 + c % 26).toNat]⟩ by simp [M.nm, h]]
    have hw1 : IntKind.u8.wrap (c.tmod 26) = c % 26 := by rw [hm2]; exact IntWalk.u8_in _ (by omega)
    have hw2 : IntKind.u8.wrap (97 + c % 26) = 97 + c % 26 := IntWalk.u8_in _ (by omega)
    have hr : Rd (w.alloc (.cells #[.int .u8 (97 + c % 26)] 5)) (w.alloc (.cells #[.int .u8 (97 + c % 26)] 5)).heap.size (some ⟨w.heap.size, 0, none⟩) 1 [97 + c % 26] :=
      (Arr.new w 5 [97 + c % 26]).rd (by intro z hz; rw [List.mem_singleton] at hz; omega) (by simp)
    have cv := S.run_str hr 1
    rw [show S.strOf [97 + c % 26] = ⟨#[UInt8.ofNat (97 + c % 26).toNat]⟩ from rfl] at cv
    clear hm h hr
    go_enter Try.func13, Try.ntmps13
    go_wp2
    go_ret
    exact ⟨rfl, (Below.refl _ _).alloc (Nat.le_refl _) _⟩

set_option maxRecDepth 100000 in
set_option maxHeartbeats 1000000 in
theorem number_any (c : Int) (hc : 0 ≤ c ∧ c ≤ 255) (w : World) : Calls Try.prog 15 #[.int .u8 c] w fun e w' => e = .returned (.int .i64 (M.nr c)) ∧ Below w.heap.size w w' := by
  by_cases hb : 230 < c
  · have hm : c.tmod 7 = c % 7 := Int.tmod_eq_emod_of_nonneg hc.1
    have hcase : c % 7 = 0 ∨ c % 7 = 1 ∨ c % 7 = 2 ∨ c % 7 = 3 ∨ c % 7 = 4 ∨ c % 7 = 5 ∨ c % 7 = 6 := by omega
    rcases hcase with h | h | h | h | h | h | h
    · have e : c.tmod 7 = 0 := by omega
      rw [show M.nr c = 2097151 by simp [M.nr, hb, h]]
      clear hm h
      go_enter Try.func15, Try.ntmps15
      go_wp2
      go_ret
      exact ⟨rfl, (Below.refl _ _).alloc (Nat.le_refl _) _⟩
    · have e : c.tmod 7 = 1 := by omega
      rw [show M.nr c = 2097152 by simp [M.nr, hb, h]]
      clear hm h
      go_enter Try.func15, Try.ntmps15
      go_wp2
      go_ret
      exact ⟨rfl, (Below.refl _ _).alloc (Nat.le_refl _) _⟩
    · have e : c.tmod 7 = 2 := by omega
      rw [show M.nr c = 8589934591 by simp [M.nr, hb, h]]
      clear hm h
      go_enter Try.func15, Try.ntmps15
      go_wp2
      go_ret
      exact ⟨rfl, (Below.refl _ _).alloc (Nat.le_refl _) _⟩
    · have e : c.tmod 7 = 3 := by omega
      rw [show M.nr c = 8589934592 by simp [M.nr, hb, h]]
      clear hm h
      go_enter Try.func15, Try.ntmps15
      go_wp2
      go_ret
      exact ⟨rfl, (Below.refl _ _).alloc (Nat.le_refl _) _⟩
    · have e : c.tmod 7 = 4 := by omega
      rw [show M.nr c = 1099511627776 by simp [M.nr, hb, h]]
      clear hm h
      go_enter Try.func15, Try.ntmps15
      go_wp2
      go_ret
      exact ⟨rfl, (Below.refl _ _).alloc (Nat.le_refl _) _⟩
    · have e : c.tmod 7 = 5 := by omega
      rw [show M.nr c = -1 by simp [M.nr, hb, h]]
      clear hm h
      go_enter Try.func15, Try.ntmps15
      go_wp2
      go_ret
      exact ⟨rfl, (Below.refl _ _).alloc (Nat.le_refl _) _⟩
    · have e : c.tmod 7 = 6 := by omega
      rw [show M.nr c = 4611686018427387904 by simp [M.nr, hb, h]]
      clear hm h
      go_enter Try.func15, Try.ntmps15
      go_wp2
      go_ret
      exact ⟨rfl, (Below.refl _ _).alloc (Nat.le_refl _) _⟩
  · rw [show M.nr c = c by simp [M.nr, hb]]
    have hw : IntKind.i64.wrap c = c := IntWalk.i64_in _ (by omega)
    go_enter Try.func15, Try.ntmps15
    go_wp2
    go_ret
    exact ⟨rfl, Below.refl _ _⟩
end Go.Proofs.Ytcedcfagfklohaa.Hd
