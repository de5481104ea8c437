/-
  The contracts of the document's Block and Make; of Same, where both are the same.
-/
import Derived.Test.YteneknmbddnkaaaMedTell
import Derived.Deep.QuietTactic
import Derived.BigQuiet
namespace Go.Proofs.Yteneknmbddnkaaa
open Go.RowKit Go.Lib

/-- A part of bytes. -/
def PartIs (w : World) (B : Nat) (ys : List Int) (e : Ending) (w' : World) : Prop :=
  ∃ A n c, e = .returned (.slice A n c) ∧ Rd w' B A n ys ∧ Below w.heap.size w w'

set_option maxRecDepth 100000 in
set_option maxHeartbeats 1000000 in
theorem refBlock_any (A : Option Addr) (n c : Nat) (zs : List Int) (A' : Option Addr) (n' c' : Nat) (i : Int) (w : World) (B : Nat) (hr : Rd w B A n zs) (hB : B ≤ w.heap.size) (hnc : n ≤ c) (hc : c ≤ maxLen) (hn : n ≤ 1000000) (hi : -9223372036854775808 ≤ i ∧ i ≤ 9223372036854775807) :
    Calls Try.prog 36 #[.agg #[.slice A n c, .slice A' n' c'], .int .i64 i] w (PartIs w B (M.blkI zs i)) := by
  obtain ⟨hi0, hi1⟩ := hi
  unfold maxLen at hc
  have HL := hid hr.len
  have HC := hid (fun W => refCount_any A n c A' n' c' W (by omega))
  have hcn := M.cnt_le n
  have HQ : Hid (M.blkI zs i = if M.there n i then M.blk zs i.toNat else []) := hid (by unfold M.blkI; rw [HL.out])
  by_cases h0 : i < 0
  · have e0 : decide (i < 0) = true := by simpa using h0
    have hq : M.blkI zs i = [] := by rw [HQ.out, if_neg (fun h => by have := (M.there_iff.1 h).1; omega)]
    rw [hq]
    clear hr HQ hq
    go_enter Try.func36, Try.ntmps36
    go_wp2
    go_ret
    exact ⟨none, 0, 0, rfl, Rd.none_, (Below.refl _ _).alloc (Nat.le_refl _) _⟩
  · have e0 : decide (i < 0) = false := by simpa using h0
    by_cases h1 : (M.cnt n : Int) ≤ i
    · have e1 : decide (((M.cnt n : Nat) : Int) ≤ i) = true := by simpa using h1
      have hq : M.blkI zs i = [] := by rw [HQ.out, if_neg (fun h => by have := (M.there_iff.1 h).2; omega)]
      rw [hq]
      clear hr HQ hq
      generalize ((M.cnt n : Nat) : Int) = k at *
      go_enter Try.func36, Try.ntmps36
      go_wp2_with fail
      (with_reducible refine (HC.out _).mono ?_)
      rintro e w1 ⟨rfl, b1⟩
      go_wp2
      go_ret
      exact ⟨none, 0, 0, rfl, Rd.none_, ((Below.refl _ _).alloc (Nat.le_refl _) _).trans (b1.mono (by simp))⟩
    · have ht : M.there n i = true := M.there_iff.2 ⟨by omega, by omega⟩
      obtain ⟨k, rfl, hk1, hk2⟩ := M.there_nat ht
      have hq : M.blkI zs k = M.blk zs k := by rw [HQ.out, if_pos ht]; rfl
      rw [hq]
      obtain ⟨b, off, rfl, hbB, hcells⟩ := hr.2.2 (by omega)
      have HR := hid (hr.blk k)
      have e1 : decide (((M.cnt n : Nat) : Int) ≤ (k : Int)) = false := by rw [decide_eq_false_iff_not]; omega
      clear hr hcells ht hq HQ
      generalize ((M.cnt n : Nat) : Int) = kk at *
      generalize M.blk zs k = ys at *
      by_cases h : 512 * k + 512 ≤ n
      · have hm : min 512 (n - 512 * k) = 512 := by omega
        have hmi : min (512 * (k : Int) + 512) (n : Int) = 512 * (k : Int) + 512 := by omega
        rw [hm] at HR
        clear hm
        go_enter Try.func36, Try.ntmps36
        go_wp2_with fail
        obtain ⟨w0, hw0⟩ : ∃ w0, w.alloc (.cells #[.slice (some ⟨b, off, none⟩) n c, .slice A' n' c'] 27) = w0 := ⟨_, rfl⟩
        have hb0 : Below w.heap.size w w0 := by rw [← hw0]; exact (Below.refl _ _).alloc (Nat.le_refl _) _
        have hx0 : Blk w0 w.heap.size 27 [.slice (some ⟨b, off, none⟩) n c, .slice A' n' c'] := by rw [← hw0]; exact Blk.new w _ _
        rw [hw0]
        (with_reducible refine (HC.out _).mono ?_)
        rintro e w1 ⟨rfl, b1⟩
        have c0 := (hx0.below b1 hx0.lt).cell (i := 0) rfl
        have HB1 := hid (hb0.trans (b1.mono hb0.size))
        clear hx0 b1 hb0 hw0
        go_wp2
        go_ret
        exact ⟨_, 512, _, ret_slice rfl (by omega) rfl, HR.out.keep (w' := w1) fun p hp => HB1.out.cell (Nat.lt_of_lt_of_le hp hB), HB1.out⟩
      · have hm : min 512 (n - 512 * k) = n - 512 * k := by omega
        have hmi : min (512 * (k : Int) + 512) (n : Int) = (n : Int) := by omega
        rw [hm] at HR
        clear hm
        go_enter Try.func36, Try.ntmps36
        go_wp2_with fail
        obtain ⟨w0, hw0⟩ : ∃ w0, w.alloc (.cells #[.slice (some ⟨b, off, none⟩) n c, .slice A' n' c'] 27) = w0 := ⟨_, rfl⟩
        have hb0 : Below w.heap.size w w0 := by rw [← hw0]; exact (Below.refl _ _).alloc (Nat.le_refl _) _
        have hx0 : Blk w0 w.heap.size 27 [.slice (some ⟨b, off, none⟩) n c, .slice A' n' c'] := by rw [← hw0]; exact Blk.new w _ _
        rw [hw0]
        (with_reducible refine (HC.out _).mono ?_)
        rintro e w1 ⟨rfl, b1⟩
        have c0 := (hx0.below b1 hx0.lt).cell (i := 0) rfl
        have HB1 := hid (hb0.trans (b1.mono hb0.size))
        clear hx0 b1 hb0 hw0
        go_wp2
        go_ret
        exact ⟨_, n - 512 * k, _, ret_slice rfl (by omega) rfl, HR.out.keep (w' := w1) fun p hp => HB1.out.cell (Nat.lt_of_lt_of_le hp hB), HB1.out⟩

theorem strOf_eq (zs : List Int) : ((strOf zs).toList == (strOf zs).toList) = true := by simp

set_option maxRecDepth 100000 in
set_option maxHeartbeats 1000000 in
/-- Same of two images that read the same. -/
theorem same_any (A : Option Addr) (n c : Nat) (X : Option Addr) (d : Nat) (zs : List Int) (A1 : Option Addr) (n1 c1 : Nat) (X1 : Option Addr) (d1 : Nat) (l : List Int) (w : World) (B : Nat)
    (ha : Rd w B A n zs) (hx : Rd w B X n zs) (ha1 : RdI w B A1 n1 l) (hx1 : RdI w B X1 n1 l) (hB : B ≤ w.heap.size) (hn1 : n1 ≤ 1000000) :
    Calls Try.prog 12 #[.agg #[.slice A n c, .slice A1 n1 c1], .agg #[.slice X n d, .slice X1 n1 d1]] w fun e w' => e = .returned (.bool true) ∧ Below w.heap.size w w' := by
  obtain ⟨w0, hw0⟩ : ∃ w0, (w.alloc (.cells #[.slice A n c, .slice A1 n1 c1] 27)).alloc (.cells #[.slice X n d, .slice X1 n1 d1] 27) = w0 := ⟨_, rfl⟩
  have hb0 : Below w.heap.size w w0 := by rw [← hw0]; exact ((Below.refl _ _).alloc (Nat.le_refl _) _).alloc (by simp) _
  have g0 : Blk w0 w.heap.size 27 [.slice A n c, .slice A1 n1 c1] := by rw [← hw0]; exact (Blk.new w _ [.slice A n c, .slice A1 n1 c1]).alloc _
  have g1 : Blk w0 (w.heap.size + 1) 27 [.slice X n d, .slice X1 n1 d1] := by
    rw [← hw0]
    have := Blk.new (w.alloc (.cells #[.slice A n c, .slice A1 n1 c1] 27)) 27 [.slice X n d, .slice X1 n1 d1]
    rwa [World.size_alloc] at this
  have hk : ∀ p : Addr, p.block < B → w0.cell? p = w.cell? p := fun p hp => hb0.cell (Nat.lt_of_lt_of_le hp hB)
  have s1 := run_str (ha.keep hk) c
  have s2 := run_str (hx.keep hk) d
  have HA := hid (ha1.keep hk)
  have HX := hid (hx1.keep hk)
  have HL := hid ha1.len
  have c00 := g0.cell (i := 0) rfl
  have c01 := g0.cell (i := 1) rfl
  have c10 := g1.cell (i := 0) rfl
  have c11 := g1.cell (i := 1) rfl
  have hne := strOf_eq zs
  generalize strOf zs = s at *
  have HB0 := hid hb0
  have HW0 := hid hw0
  clear hk ha hx ha1 hx1 g0 g1 hb0 hw0
  go_enter Try.func12, Try.ntmps12
  go_upto_region 1 with (fail)
  rw [HW0.out]
  clear HW0
  go_wp2_with fail
  go_loopw [5] (fun v wr => ∃ k : Nat, k ≤ n1 ∧ v = .int .i64 k ∧ ∃ m, wr = w0.drewN m) (fun v _ => n1 - (intOf v).toNat)
  case atStart => exact ⟨0, Nat.zero_le _, rfl, 0, rfl⟩
  case round =>
    obtain ⟨k, hk, rfl, m, rfl⟩ := hrel
    have d01 : (w0.drewN m).cell? ⟨w.heap.size, 1, none⟩ = some (.slice A1 n1 c1) := c01
    have d11 : (w0.drewN m).cell? ⟨w.heap.size + 1, 1, none⟩ = some (.slice X1 n1 d1) := c11
    by_cases hlt : k < n1
    · obtain ⟨b, off, z, rfl, _, hz0, hz1, hzk, hc⟩ := HA.out.at_ hlt
      obtain ⟨b', off', z', rfl, _, _, _, hzk', hc'⟩ := HX.out.at_ hlt
      obtain rfl : z = z' := by rw [hzk] at hzk'; injection hzk'
      have dc : (w0.drewN m).cell? ⟨b, off + k, none⟩ = some (.int .i64 z) := hc
      have dc' : (w0.drewN m).cell? ⟨b', off' + k, none⟩ = some (.int .i64 z) := hc'
      have ez : (z != z) = false := by simp
      clear hzk hzk' s1 s2 c00 c10
      go_wp2_with fail
      go_quiet (fail)
      go_wp2
      go_roundw
      case rel => exact ⟨k + 1, by omega, by go_num, _, rfl⟩
      case measure => simp [intOf]; omega
    · go_wp2
      go_ret
      exact ⟨rfl, below_drewN' HB0.out _⟩
end Go.Proofs.Yteneknmbddnkaaa
