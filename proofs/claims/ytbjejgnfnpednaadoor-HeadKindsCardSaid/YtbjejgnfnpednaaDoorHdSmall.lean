/-
  The small functions of layer 8: kinds, what may be laid, the fields of texts and of numbers.
-/
import Derived.Test.YtbjejgnfnpednaaDoorHdMem
import Derived.BigRegion
import Derived.StillTailTactics
namespace Go.Proofs.YtbjejgnfnpednaaDoor
open Go.RowKit Go.Lib

/-- A text's field, a number's: as values. -/
def tfv (a n : Int) (there : Bool) (p : Addr) : Value := .agg #[.int .i64 a, .int .i64 n, .bool there, .pointer (some p)]
def nfv (a n : Int) (there : Bool) (lo up : Int) (p : Addr) : Value := .agg #[.int .i64 a, .int .i64 n, .bool there, .int .i64 lo, .int .i64 up, .pointer (some p)]

set_option maxHeartbeats 1000000 in
theorem known_any (c : Int) (w : World) : Calls Tryd.prog 15 #[.int .u8 c] w fun e w' => e = .returned (.bool (M.known c)) ∧ w = w' := by
  go_enter Tryd.func15, Tryd.ntmps15
  go_wp2
  all_goals
    go_ret
    refine ⟨ret_bool (Bool.eq_iff_iff.2 ?_), rfl⟩
    unfold M.known
    simp at *
    try omega
set_option maxHeartbeats 1000000 in
theorem may_any (k v : Int) (w : World) : Calls Tryd.prog 26 #[.int .u8 k, .int .i64 v] w fun e w' => e = .returned (.bool (M.may k v)) ∧ w = w' := by
  cases hk : k != 83
  · go_enter Tryd.func26, Tryd.ntmps26
    go_wp2
    go_ret
    exact ⟨ret_bool (by unfold M.may; rw [hk]; rfl), rfl⟩
  · go_enter Tryd.func26, Tryd.ntmps26
    go_wp2
    go_ret
    exact ⟨ret_bool (by unfold M.may; rw [hk]; rfl), rfl⟩
set_option maxHeartbeats 1000000 in
theorem kindOf_any (A : Option Addr) (n c : Nat) (zs : List Int) (w : World) (B : Nat) (hr : Rd w B A n zs) (hn : n = 512) :
    Calls Tryd.prog 35 #[.slice A n c] w fun e w' => e = .returned (.int .u8 (M.kind zs)) ∧ w = w' := by
  subst hn
  obtain ⟨b, off, z, rfl, hb, hz0, hz1, hzk, hc⟩ := hr.at_ (k := 156) (by decide)
  have hz : M.byt zs 156 = z := by unfold M.byt; rw [List.getD_eq_getElem?_getD, hzk]; rfl
  have HK := hid (show M.kind zs = if z = 0 then 48 else z by unfold M.kind; rw [hz])
  clear hzk hz
  by_cases h0 : z = 0
  · subst h0
    go_enter Tryd.func35, Tryd.ntmps35
    go_wp2
    go_ret
    exact ⟨ret_int HK.out.symm, rfl⟩
  · have e1 : (z == 0) = false := by simpa using h0
    have HN := hid h0
    clear h0
    go_enter Tryd.func35, Tryd.ntmps35
    go_wp2
    go_ret
    exact ⟨ret_int (by rw [HK.out, if_neg HN.out]), rfl⟩
set_option maxHeartbeats 1000000 in
theorem mayTell_any (a m : Int) (there : Bool) (lo up : Int) (p : Addr) (x : Int) (w : World) :
    Calls Tryd.prog 49 #[nfv a m there lo up p, .int .i64 x] w fun e w' => e = .returned (.bool (decide (lo ≤ x) && decide (x ≤ up))) ∧ Below w.heap.size w w' := by
  unfold nfv
  cases hl : decide (lo ≤ x)
  · go_enter Tryd.func49, Tryd.ntmps49
    go_wp2
    go_ret
    exact ⟨rfl, (Below.refl _ _).alloc (Nat.le_refl _) _⟩
  · go_enter Tryd.func49, Tryd.ntmps49
    go_wp2
    go_ret
    exact ⟨rfl, (Below.refl _ _).alloc (Nat.le_refl _) _⟩
end Go.Proofs.YtbjejgnfnpednaaDoor
