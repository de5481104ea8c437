/-
  The contracts of Block and Bad, the program's and the document's.
-/
import Derived.Test.YteneknmbddnkaaaMedMake
namespace Go.Proofs.Yteneknmbddnkaaa
open Go.RowKit Go.Lib

namespace M
def has (l : List Int) (i : Int) : Bool := l.contains i
/-- The i-th block's bytes; nothing, if there is none. -/
def blkI (zs : List Int) (i : Int) : List Int := if there zs.length i then blk zs i.toNat else []
theorem blkI_bd {zs : List Int} (i : Int) (h : ∀ z ∈ zs, 0 ≤ z ∧ z ≤ 255) : ∀ z ∈ blkI zs i, 0 ≤ z ∧ z ≤ 255 := by
  unfold blkI
  split
  · exact fun z hz => h z (List.mem_of_mem_drop (List.mem_of_mem_take hz))
  · simp
end M

theorem Rd.blk {w : World} {B n b off : Nat} {zs : List Int} (h : Rd w B (some ⟨b, off, none⟩) n zs) (i : Nat) : Rd w B (some ⟨b, off + 512 * i, none⟩) (min 512 (n - 512 * i)) (M.blk zs i) := by
  unfold M.blk
  refine ⟨by rw [List.length_take, List.length_drop, h.len], fun z hz => h.bd z (List.mem_of_mem_drop (List.mem_of_mem_take hz)), fun hn => ?_⟩
  obtain ⟨b', off', e, hb, hc⟩ := h.2.2 (by omega)
  cases e
  refine ⟨b, off + 512 * i, rfl, hb, fun j z hj => ?_⟩
  rw [List.getElem?_take] at hj
  split at hj
  · rw [List.getElem?_drop] at hj
    rw [Nat.add_assoc]
    exact hc _ z hj
  · cases hj

set_option maxRecDepth 100000 in
set_option maxHeartbeats 1000000 in
theorem block_any (A : Option Addr) (n c : Nat) (zs : List Int) (A' : Option Addr) (n' c' : Nat) (i : Int) (w : World) (B : Nat) (hr : Rd w B A n zs) (hB : B ≤ w.heap.size) (hnc : n ≤ c) (hc : c ≤ maxLen) (hn : n ≤ 1000000) (hi : -9223372036854775808 ≤ i ∧ i ≤ 9223372036854775807) :
    Calls Try.prog 24 #[.agg #[.slice A n c, .slice A' n' c'], .int .i64 i] w fun e w' => ∃ v, e = .returned v ∧ OwnY w' w.heap.size v (M.blkI zs i) ∧ Below w.heap.size w w' := by
  have HL := hid hr.len
  have HT := hid (fun W => there_any A n c A' n' c' i W (by omega) hi)
  by_cases ht : M.there n i = true
  · obtain ⟨k, rfl, hk1, hk2⟩ := M.there_nat ht
    have hq : M.blkI zs k = M.blk zs k := by unfold M.blkI; rw [HL.out, if_pos ht]; rfl
    rw [hq]
    rw [ht] at HT
    obtain ⟨b, off, rfl, hbB, hcells⟩ := hr.2.2 (by omega)
    have HS := hid (fun W => stretch_any b off n c A' n' c' k W (by omega) hnc hc hk2)
    have HR := hid (hr.blk k)
    clear hr hcells ht hq
    have hml : min 512 (n - 512 * k) ≤ 512 := by omega
    generalize min 512 (n - 512 * k) = m at *
    generalize M.blk zs k = ys at *
    go_enter Try.func24, Try.ntmps24
    go_wp2_with fail
    obtain ⟨w0, hw0⟩ : ∃ w0, w.alloc (.cells #[.slice (some ⟨b, off, none⟩) n c, .slice A' n' c'] 27) = w0 := ⟨_, rfl⟩
    have hb0 : Below w.heap.size w w0 := by rw [← hw0]; exact (Below.refl _ _).alloc (Nat.le_refl _) _
    have hx0 : Blk w0 w.heap.size 27 [.slice (some ⟨b, off, none⟩) n c, .slice A' n' c'] := by rw [← hw0]; exact Blk.new w _ _
    rw [hw0]
    (with_reducible refine (HT.out _).mono ?_)
    rintro e w1 ⟨rfl, b1⟩
    have hx1 := hx0.below b1 hx0.lt
    have c0 := hx1.cell (i := 0) rfl
    have c1 := hx1.cell (i := 1) rfl
    have HB1 := hid (hb0.trans (b1.mono hb0.size))
    clear hx0 hx1 b1 hb0 hw0
    go_wp2_with fail
    (with_reducible refine (HS.out _).mono ?_)
    rintro e w2 ⟨rfl, b2⟩
    have HB2 := hid (HB1.out.trans (b2.mono HB1.out.size))
    have HCL := hid (cloneB_any (some ⟨b, off + 512 * k, none⟩) m (c - 512 * k) ys w2 B (HR.out.keep (w' := w2) fun p hp => HB2.out.cell (Nat.lt_of_lt_of_le hp hB)) (Nat.le_trans hB HB2.out.size) (by omega))
    clear b2
    go_wp2_with fail
    (with_reducible refine HCL.out.mono ?_)
    rintro e w3 ⟨v, rfl, hv, b3⟩
    go_wp2
    go_ret
    exact ⟨v, rfl, ownsRow_lower hv HB2.out.size, HB2.out.trans (b3.mono HB2.out.size)⟩
  · have ht' : M.there n i = false := by simpa using ht
    have hq : M.blkI zs i = [] := by unfold M.blkI; rw [HL.out, ht']; rfl
    rw [hq]
    rw [ht'] at HT
    clear hr ht hq ht'
    go_enter Try.func24, Try.ntmps24
    go_wp2_with fail
    (with_reducible refine (HT.out _).mono ?_)
    rintro e w1 ⟨rfl, b1⟩
    go_wp2
    go_ret
    exact ⟨_, rfl, OwnY.nil _ _, ((Below.refl _ _).alloc (Nat.le_refl _) _).trans (b1.mono (by simp))⟩

set_option maxRecDepth 100000 in
set_option maxHeartbeats 1000000 in
theorem bad_any (A : Option Addr) (n c : Nat) (A' : Option Addr) (n' c' : Nat) (l : List Int) (i : Int) (w : World) (B : Nat) (hr : RdI w B A' n' l) (hB : B ≤ w.heap.size) (hn : n' ≤ 1000000) :
    Calls Try.prog 22 #[.agg #[.slice A n c, .slice A' n' c'], .int .i64 i] w fun e w' => e = .returned (.bool (M.has l i)) ∧ Below w.heap.size w w' := by
  have HC : Hid (Calls Try.prog 37 #[.slice A' n' c', .int .i64 i] (w.alloc (.cells #[.slice A n c, .slice A' n' c'] 27)) fun e w' => e = .returned (.bool (M.has l i)) ∧ w' = (w.alloc (.cells #[.slice A n c, .slice A' n' c'] 27))) := hid (contains_any A' n' c' l i (w.alloc (.cells #[.slice A n c, .slice A' n' c'] 27)) B (hr.alloc hB _) (by omega))
  clear hr
  go_enter Try.func22, Try.ntmps22
  go_wp2_with fail
  (with_reducible refine HC.out.mono ?_)
  rintro e w1 ⟨rfl, rfl⟩
  go_wp2
  go_ret
  exact ⟨rfl, (Below.refl _ _).alloc (Nat.le_refl _) _⟩

set_option maxRecDepth 100000 in
set_option maxHeartbeats 1000000 in
theorem refBad_any (A : Option Addr) (n c : Nat) (A' : Option Addr) (n' c' : Nat) (l : List Int) (i : Int) (w : World) (B : Nat) (hr : RdI w B A' n' l) (hB : B ≤ w.heap.size) (hn : n' ≤ 1000000) :
    Calls Try.prog 35 #[.agg #[.slice A n c, .slice A' n' c'], .int .i64 i] w fun e w' => e = .returned (.bool (M.has l i)) ∧ Below w.heap.size w w' := by
  have HL := hid hr.len
  have HR := hid (fun k (hk : k < n') => (hr.alloc hB (.cells #[.slice A n c, .slice A' n' c'] 27)).at_ hk)
  clear hr
  go_enter Try.func35, Try.ntmps35
  go_wp2_with fail
  go_loop [5] (fun v => ∃ k : Nat, k ≤ n' ∧ v = .int .i64 k ∧ M.has (l.take k) i = false) (fun v => n' - (intOf v).toNat)
  case atStart => exact ⟨0, Nat.zero_le _, rfl, by simp [M.has]⟩
  case round =>
    obtain ⟨k, hk, rfl, hno⟩ := hrel
    by_cases hlt : k < n'
    · obtain ⟨b, off, z, rfl, hb, hz0, hz1, hzk, hc⟩ := HR.out k hlt
      have HN := hid hno
      have HZ := hid hzk
      clear hno hzk
      by_cases he : z = i
      · subst he
        have HC : Hid (M.has l z = true) := hid (by unfold M.has; rw [List.contains_iff_mem]; exact List.mem_of_getElem? HZ.out)
        go_wp2
        go_ret
        exact ⟨ret_bool HC.out.symm, (Below.refl _ _).alloc (Nat.le_refl _) _⟩
      · have he' : (z == i) = false := by simpa using he
        have HS : Hid (M.has (l.take (k + 1)) i = false) := hid (by
          have HNN := HN.out
          unfold M.has at HNN ⊢
          rw [List.take_add_one, HZ.out, List.contains_append, HNN, Bool.false_or]
          simp only [Option.toList_some, List.contains_cons, List.contains_nil, Bool.or_false, beq_eq_false_iff_ne]
          exact fun e => he e.symm)
        clear he
        go_wp2
        go_round
        case rel => exact ⟨k + 1, by omega, by go_num, HS.out⟩
        case measure => simp [intOf]; omega
    · have hall : l.take k = l := List.take_of_length_le (by rw [HL.out]; omega)
      rw [hall] at hno
      have HN := hid hno
      clear hno hall
      go_wp2
      go_ret
      exact ⟨ret_bool HN.out.symm, (Below.refl _ _).alloc (Nat.le_refl _) _⟩
end Go.Proofs.Yteneknmbddnkaaa
