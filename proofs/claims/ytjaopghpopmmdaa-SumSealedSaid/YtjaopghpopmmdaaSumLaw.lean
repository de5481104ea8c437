/-
  The contracts of the laws' helpers: a block of choices; the chapter's examples; both tell the same.
-/
import Derived.Test.YtjaopghpopmmdaaSumRefS
namespace Go.Proofs.Ytjaopghpopmmdaa
open Go.RowKit Go.Lib
attribute [local go_sem ↓] run_make512

namespace M
/-- The block behind k rounds. -/
def blk (zs : List Int) (n : Int) : Nat → List Int
  | 0 => nils 512
  | k + 1 => (blk zs n k).set ((n + 37 * k) % 512).toNat (zs.getD k 0)
theorem blk_len (zs : List Int) (n : Int) : ∀ k, (blk zs n k).length = 512
  | 0 => nils_len _
  | k + 1 => by rw [blk, List.length_set, blk_len zs n k]
theorem blk_bd {zs : List Int} (n : Int) (h : ∀ z ∈ zs, 0 ≤ z ∧ z ≤ 255) : ∀ k, ∀ z ∈ blk zs n k, 0 ≤ z ∧ z ≤ 255
  | 0 => nils_bd _
  | k + 1 => by
    intro z hz
    rcases List.mem_or_eq_of_mem_set hz with h1 | h1
    · exact blk_bd n h k z h1
    · rw [h1]
      by_cases hk : k < zs.length
      · rw [List.getD_eq_getElem?_getD, List.getElem?_eq_getElem hk]
        exact h _ (List.getElem_mem hk)
      · rw [List.getD_eq_getElem?_getD, List.getElem?_eq_none (by omega)]
        decide
/-- The block of choices. -/
def block (zs : List Int) (n : Int) : List Int := blk zs n zs.length
theorem block_len (zs : List Int) (n : Int) : (block zs n).length = 512 := blk_len _ _ _
theorem block_bd {zs : List Int} (n : Int) (h : ∀ z ∈ zs, 0 ≤ z ∧ z ≤ 255) : ∀ z ∈ block zs n, 0 ≤ z ∧ z ≤ 255 := blk_bd n h _
end M

set_option maxRecDepth 100000 in
set_option maxHeartbeats 1000000 in
theorem block_any (A : Option Addr) (n c : Nat) (zs : List Int) (v : Int) (w : World) (B : Nat) (hr : Rd w B A n zs) (hB : B ≤ w.heap.size) (hn : n ≤ 140737488355328) (hv : 0 ≤ v ∧ v ≤ 255) :
    Calls Try.prog 10 #[.slice A n c, .int .u8 v] w (SealPost 5 (M.block zs v) w) := by
  obtain ⟨hv0, hv1⟩ := hv
  have HL := hid hr.len
  have HAT := hid (fun (k : Nat) (hk : k < n) => hr.at_ hk)
  have HB : Hid (M.blk zs v n = M.block zs v) := hid (by unfold M.block; rw [hr.len])
  have HBL := hid (fun k => M.blk_len zs v k)
  clear hr
  go_enter Try.func10, Try.ntmps10
  go_wp2_with fail
  go_loopw [6] (fun i wr => ∃ k : Nat, k ≤ n ∧ i = .int .i64 k ∧ Half w 5 (M.blk zs v k) wr) (fun i _ => n - (intOf i).toNat)
  case atStart => exact ⟨0, Nat.zero_le _, rfl, Arr.new w _ _, (Below.refl _ _).alloc (Nat.le_refl _) _⟩
  case round =>
    obtain ⟨k, hk, rfl, hA, hbel⟩ := hrel
    by_cases hlt : k < n
    · obtain ⟨b, off, z, hAd, hb, hz0, hz1, hzk, hc⟩ := HAT.out k hlt
      have hbB : b < w.heap.size := Nat.lt_of_lt_of_le hb hB
      have hc' : wr.cell? ⟨b, off + k, none⟩ = some (.int .u8 z) := (hbel.cell (p := ⟨b, off + k, none⟩) hbB).trans hc
      have hi0 : 0 ≤ (v + 37 * (k : Int)) % 512 := by omega
      have hi1 : (v + 37 * (k : Int)) % 512 < 512 := by omega
      obtain ⟨y, hy⟩ : ∃ y, (M.blk zs v k)[((v + 37 * (k : Int)) % 512).toNat]? = some y := ⟨_, List.getElem?_eq_getElem (by rw [HBL.out]; omega)⟩
      have hcs := hA.cell hy
      have hfs := hA.frozen ((v + 37 * (k : Int)) % 512).toNat
      have HST : Hid ((M.blk zs v k).set ((v + 37 * (k : Int)) % 512).toNat z = M.blk zs v (k + 1)) := hid (by
        rw [M.blk, List.getD_eq_getElem?_getD, hzk]
        rfl)
      have HA := hid hA
      clear hA hy hzk hc
      rw [hAd]
      go_wp2
      go_roundw
      case rel => exact ⟨k + 1, by omega, by go_num, by rw [← HST.out]; exact HA.out.set _ _, hbel.setCell (Nat.le_refl _) _⟩
      case measure => simp [intOf]; omega
    · obtain rfl : k = n := by omega
      have HA := hid hA
      clear hA
      go_wp2
      go_ret
      exact ⟨_, rfl, Nat.le_refl _, by rw [← HB.out]; exact HA.out, hbel⟩

/-! The chapter's examples. -/
theorem ex1 : M.uns (nils 512) = 256 := by decide +kernel
theorem ex2 : M.right (M.sld (nils 512)) = true := by decide +kernel
theorem ex3 : M.right (nils 512) = false := by decide +kernel
theorem ex4 : M.zero (nils 512) = true := by decide +kernel
theorem ex5 : M.zero (nils 511) = false := by decide +kernel
theorem nils_take : (nils 512).take 511 = nils 511 := by unfold nils; rw [List.take_replicate]; rfl
theorem Arr.whole {w : World} {g : Nat} {t : TypeId} {zs : List Int} (h : Arr w g t zs) (hl : zs.length = 512) (hz : ∀ z ∈ zs, 0 ≤ z ∧ z ≤ 255) : Rd w w.heap.size (some ⟨g, 0, none⟩) 512 zs := by
  have := h.rd hz h.lt
  rwa [hl] at this

set_option maxRecDepth 100000 in
set_option maxHeartbeats 1000000 in
theorem known_any (w : World) : Calls Try.prog 11 #[] w fun e w' => e = .returned (.bool true) ∧ Below w.heap.size w w' := by
  obtain ⟨o, ho⟩ : ∃ o, o = Obj.cells (bcells (nils 512)).toArray 5 := ⟨_, rfl⟩
  have hA : Arr (w.alloc o) w.heap.size 5 (nils 512) := by rw [ho]; exact Arr.new w _ _
  have hr := hA.whole (nils_len _) (nils_bd _)
  have hsz : (w.alloc o).heap.size = w.heap.size + 1 := by show (w.heap.push o).size = _; simp
  have hb0 : Below w.heap.size w (w.alloc o) := (Below.refl _ _).alloc (Nat.le_refl _) _
  have HR := fun W (hb : Below (w.alloc o).heap.size (w.alloc o) W) => hr.keep (w' := W) fun p hp => hb.cell hp
  have HU : Hid (∀ W, Below (w.alloc o).heap.size (w.alloc o) W → Calls Try.prog 17 #[.slice (some ⟨w.heap.size, 0, none⟩) 512 512] W fun e w' => e = .returned (.int .i64 256) ∧ Below W.heap.size W w') := hid (fun W hb => by
    have h := unsigned_any (some ⟨w.heap.size, 0, none⟩) 512 512 (nils 512) W _ (HR W hb) hb.size (by decide)
    rwa [ex1] at h)
  have HRt : Hid (∀ W, Below (w.alloc o).heap.size (w.alloc o) W → Calls Try.prog 12 #[.slice (some ⟨w.heap.size, 0, none⟩) 512 512] W fun e w' => e = .returned (.bool false) ∧ Below W.heap.size W w') := hid (fun W hb => by
    have h := right_any (some ⟨w.heap.size, 0, none⟩) 512 512 (nils 512) W _ (HR W hb) hb.size (by decide)
    rwa [ex3] at h)
  have HZ : Hid (∀ W, Below (w.alloc o).heap.size (w.alloc o) W → Calls Try.prog 13 #[.slice (some ⟨w.heap.size, 0, none⟩) 512 512] W fun e w' => e = .returned (.bool true) ∧ Below W.heap.size W w') := hid (fun W hb => by
    have h := zero_any (some ⟨w.heap.size, 0, none⟩) 512 512 (nils 512) W _ (HR W hb) hb.size
    rwa [ex4] at h)
  have HZ5 : Hid (∀ W, Below (w.alloc o).heap.size (w.alloc o) W → Calls Try.prog 13 #[.slice (some ⟨w.heap.size, 0, none⟩) 511 512] W fun e w' => e = .returned (.bool false) ∧ Below W.heap.size W w') := hid (fun W hb => by
    have hf := (HR W hb).front (k := 511) (by decide)
    rw [nils_take] at hf
    have h := zero_any (some ⟨w.heap.size, 0, none⟩) 511 512 (nils 511) W _ hf hb.size
    rwa [ex5] at h)
  have HS : Hid (∀ W, Below (w.alloc o).heap.size (w.alloc o) W → Calls Try.prog 9 #[.slice (some ⟨w.heap.size, 0, none⟩) 512 512] W (SealPost 38 (M.sld (nils 512)) W)) := hid (fun W hb =>
    seal_any (some ⟨w.heap.size, 0, none⟩) 512 512 (nils 512) W _ (HR W hb) hb.size)
  have HO := hid ho
  clear hA hr HR ho
  go_enter Try.func11, Try.ntmps11
  go_wp2_with fail
  rw [← HO.out]
  (with_reducible refine (HU.out _ (Below.refl _ _)).mono ?_)
  rintro e w2 ⟨rfl, b2⟩
  go_wp2_with fail
  (with_reducible refine (HS.out _ b2).mono ?_)
  rintro e w3 ⟨g, rfl, hg, hA3, b3⟩
  have b13 := b2.trans (b3.mono b2.size)
  have HX : Hid (Calls Try.prog 12 #[.slice (some ⟨g, 0, none⟩) 512 512] w3 fun e w' => e = .returned (.bool true) ∧ Below w3.heap.size w3 w') := hid (by
    have h := right_any (some ⟨g, 0, none⟩) 512 512 (M.sld (nils 512)) w3 _ (hA3.whole (M.sld_len _) (M.sld_bd (nils_bd _))) (Nat.le_refl _) (by decide)
    rwa [ex2] at h)
  clear hA3 b3 b2 hg
  go_wp2_with fail
  (with_reducible refine HX.out.mono ?_)
  rintro e w4 ⟨rfl, b4⟩
  have b14 := b13.trans (b4.mono b13.size)
  clear b4 b13
  go_wp2_with fail
  (with_reducible refine (HRt.out _ b14).mono ?_)
  rintro e w5 ⟨rfl, b5⟩
  have b15 := b14.trans (b5.mono b14.size)
  clear b5 b14
  go_wp2_with fail
  (with_reducible refine (HZ.out _ b15).mono ?_)
  rintro e w6 ⟨rfl, b6⟩
  have b16 := b15.trans (b6.mono b15.size)
  clear b6 b15
  go_wp2_with fail
  (with_reducible refine (HZ5.out _ b16).mono ?_)
  rintro e w7 ⟨rfl, b7⟩
  have b17 := b16.trans (b7.mono b16.size)
  clear b7 b16
  go_wp2
  go_ret
  exact ⟨rfl, hb0.trans (b17.mono hb0.size)⟩

set_option maxRecDepth 100000 in
set_option maxHeartbeats 1000000 in
theorem tells_any (A : Option Addr) (n c : Nat) (zs : List Int) (w : World) (B : Nat) (hr : Rd w B A n zs) (hB : B ≤ w.heap.size) (hn : n ≤ c) (hc : c ≤ maxLen) (hs : n ≤ 65536) :
    Calls Try.prog 15 #[.slice A n c] w fun e w' => e = .returned (.bool true) ∧ Below w.heap.size w w' := by
  have HR := fun W (hb : Below w.heap.size w W) => hr.keep (w' := W) fun p hp => hb.cell (Nat.lt_of_lt_of_le hp hB)
  have H1 := hid (told_any A n c zs w B hr hB)
  have H2 := hid (fun W hb => refTold_any A n c zs W B (HR W hb) hn hc)
  have H3 := hid (fun W hb => unsigned_any A n c zs W B (HR W hb) (Nat.le_trans hB hb.size) hs)
  have H4 := hid (fun W hb => refUnsigned_any A n c zs W B (HR W hb) hs)
  have H5 := hid (fun W hb => signed_any A n c zs W B (HR W hb) (Nat.le_trans hB hb.size) hs)
  have H6 := hid (fun W hb => refSigned_any A n c zs W B (HR W hb) hs)
  have H7 := hid (fun W hb => right_any A n c zs W B (HR W hb) (Nat.le_trans hB hb.size) hs)
  have H8 := hid (fun W hb => refRight_any A n c zs W B (HR W hb) hn hc hs)
  have H9 := hid (fun W hb => zero_any A n c zs W B (HR W hb) (Nat.le_trans hB hb.size))
  have H0 := hid (fun W hb => refZero_any A n c zs W B (HR W hb) hs)
  clear HR hr hB hn hc hs
  generalize M.toldN zs = n1 at *
  generalize M.toldOk zs = k1 at *
  generalize M.uns zs = n2 at *
  generalize M.sgn zs = n3 at *
  generalize M.right zs = k2 at *
  generalize M.zero zs = k3 at *
  have e1 : (n1 == n1) = true := by simp
  have e2 : (n2 == n2) = true := by simp
  have e3 : (n3 == n3) = true := by simp
  have f1 : (k1 == k1) = true := by simp
  have f2 : (k2 == k2) = true := by simp
  have f3 : (k3 == k3) = true := by simp
  go_enter Try.func15, Try.ntmps15
  go_wp2_with fail
  (with_reducible refine H1.out.mono ?_)
  rintro e w1 ⟨rfl, b1⟩
  go_wp2_with fail
  (with_reducible refine (H2.out _ b1).mono ?_)
  rintro e w' ⟨rfl, rfl⟩
  go_wp2_with fail
  (with_reducible refine (H3.out _ b1).mono ?_)
  rintro e w2 ⟨rfl, b2'⟩
  have b2 := b1.trans (b2'.mono b1.size)
  clear b2' b1
  go_wp2_with fail
  (with_reducible refine (H4.out _ b2).mono ?_)
  rintro e w' ⟨rfl, rfl⟩
  go_wp2_with fail
  (with_reducible refine (H5.out _ b2).mono ?_)
  rintro e w3 ⟨rfl, b3'⟩
  have b3 := b2.trans (b3'.mono b2.size)
  clear b3' b2
  go_wp2_with fail
  (with_reducible refine (H6.out _ b3).mono ?_)
  rintro e w' ⟨rfl, rfl⟩
  go_wp2_with fail
  (with_reducible refine (H7.out _ b3).mono ?_)
  rintro e w4 ⟨rfl, b4'⟩
  have b4 := b3.trans (b4'.mono b3.size)
  clear b4' b3
  go_wp2_with fail
  (with_reducible refine (H8.out _ b4).mono ?_)
  rintro e w' ⟨rfl, rfl⟩
  go_wp2_with fail
  (with_reducible refine (H9.out _ b4).mono ?_)
  rintro e w5 ⟨rfl, b5'⟩
  have b5 := b4.trans (b5'.mono b4.size)
  clear b5' b4
  go_wp2_with fail
  (with_reducible refine (H0.out _ b5).mono ?_)
  rintro e w' ⟨rfl, rfl⟩
  go_wp2
  go_ret
  exact ⟨rfl, b5⟩
end Go.Proofs.Ytjaopghpopmmdaa
