/-
  The contracts of the laws' helpers: bytes of choices; the chapter's example.
-/
import Derived.Test.YteneknmbddnkaaaMedRefM
namespace Go.Proofs.Yteneknmbddnkaaa
open Go.RowKit Go.Lib

namespace M
def bval (zs : List Int) (i : Nat) : Int := if zs.length = 0 then 0 else (zs.getD (i % zs.length) 0 + ((i / 512 : Nat) : Int)) % 256
def bytesTo (zs : List Int) (N k : Nat) : List Int := (List.range N).map fun i => if i < k then bval zs i else 0
/-- So many bytes, as choices say. -/
def bytes (zs : List Int) (N : Nat) : List Int := bytesTo zs N N
theorem bytesTo_len (zs : List Int) (N k : Nat) : (bytesTo zs N k).length = N := by simp [bytesTo]
theorem bytes_len (zs : List Int) (N : Nat) : (bytes zs N).length = N := bytesTo_len _ _ _
theorem bytesTo_zero (zs : List Int) (N : Nat) : bytesTo zs N 0 = List.replicate N 0 := by
  apply List.ext_getElem?
  intro i
  simp only [bytesTo, List.getElem?_map, List.getElem?_replicate, Nat.not_lt_zero, if_false]
  by_cases h : i < N
  · simp [h]
  · simp [h]
theorem bytesTo_step (zs : List Int) (N k : Nat) : bytesTo zs N (k + 1) = (bytesTo zs N k).set k (bval zs k) := by
  apply List.ext_getElem?
  intro i
  rw [List.getElem?_set, bytesTo_len]
  by_cases hp : k = i
  · subst hp
    rw [if_pos rfl]
    by_cases hl : k < N
    · rw [if_pos hl]
      simp [bytesTo, hl]
    · rw [if_neg hl, List.getElem?_eq_none (by rw [bytesTo_len]; omega)]
  · rw [if_neg hp]
    simp only [bytesTo, List.getElem?_map]
    cases hq : (List.range N)[i]? with
    | none => rfl
    | some j =>
      have hj : j = i := by
        rw [List.getElem?_range] at hq
        · exact (Option.some.inj hq).symm
        · have := (List.getElem?_eq_some_iff.1 hq).1; simpa using this
      subst hj
      simp only [Option.map_some, Option.some.injEq]
      by_cases h1 : j < k
      · rw [if_pos h1, if_pos (by omega)]
      · rw [if_neg h1, if_neg (by omega)]
theorem bytesTo_none {zs : List Int} (h : zs.length = 0) (N k : Nat) : bytesTo zs N k = bytes zs N := by
  unfold bytes bytesTo bval
  refine List.map_congr_left fun i _ => ?_
  simp [h]
theorem bval_bd (zs : List Int) (i : Nat) : 0 ≤ bval zs i ∧ bval zs i ≤ 255 := by unfold bval; split <;> omega
theorem bytes_bd (zs : List Int) (N : Nat) : ∀ z ∈ bytes zs N, 0 ≤ z ∧ z ≤ 255 := by
  intro z hz
  obtain ⟨i, _, rfl⟩ := List.mem_map.1 hz
  split
  · exact bval_bd _ _
  · omega
end M

theorem OwnY.made (w : World) (N : Nat) (hN : N ≤ maxLen) : OwnY (w.alloc (.cells (madeCells #[Value.int .u8 0] N) 5)) w.heap.size (.slice (some ⟨w.heap.size, 0, none⟩) N N) (List.replicate N 0) := by
  have h := World.ownsRow_lit (e := 5) (size := 1) w (madeCells #[Value.int .u8 0] N) N (Nat.le_refl _) hN (by rw [← Array.length_toList, toList_madeCells_one, List.length_replicate, Nat.mul_one])
  rw [toList_madeCells_one] at h
  unfold OwnY bcells
  rw [List.length_replicate, List.map_replicate]
  exact h

set_option maxRecDepth 100000 in
set_option maxHeartbeats 1000000 in
theorem bytes_any (A : Option Addr) (n c : Nat) (zs : List Int) (m : Nat) (w : World) (B : Nat) (hr : Rd w B A n zs) (hB : B ≤ w.heap.size) (hm : m ≤ 65535) (hn : n ≤ maxLen) :
    Calls Try.prog 11 #[.slice A n c, .int .u16 m] w fun e w' => ∃ v, e = .returned v ∧ OwnY w' w.heap.size v (M.bytes zs (m % 3000)) ∧ Below w.heap.size w w' := by
  unfold maxLen at hn
  have hN : (m : Int) % 3000 = ((m % 3000 : Nat) : Int) := by omega
  have hN1 : m % 3000 ≤ 2999 := by omega
  have HL := hid hr.len
  have HAT := hid (fun (k : Nat) (hk : k < n) => hr.at_ hk)
  clear hr
  generalize m % 3000 = N at *
  have hmk := run_make_row' (P := Try.prog) 22 5 (.int .u8 0) 1 Try.underlying22 u8_parts rfl .i64 .i64 N (by omega) (by omega)
  go_enter Try.func11, Try.ntmps11
  go_wp2
  clear hmk hN
  have hy0 := OwnY.made w N (by unfold maxLen; omega)
  rw [← M.bytesTo_zero zs N] at hy0
  have H0 := hid hy0
  clear hy0
  go_loopw [6] (fun v wr => ∃ k : Nat, k ≤ N ∧ v = .int .i64 k ∧ OwnY wr w.heap.size (.slice (some ⟨w.heap.size, 0, none⟩) N N) (M.bytesTo zs N k) ∧ Below w.heap.size w wr) (fun v _ => N - (intOf v).toNat)
  case atStart => exact ⟨0, Nat.zero_le _, rfl, H0.out, (Below.refl _ _).alloc (Nat.le_refl _) _⟩
  case round =>
    obtain ⟨k, hk, rfl, hy, hb⟩ := hrel
    by_cases hlt : k < N
    · by_cases h0 : n = 0
      · subst h0
        have HY := hid hy
        have HB := hid hb
        clear hy hb
        go_wp2
        go_ret
        refine ⟨_, rfl, ?_, HB.out⟩
        rw [← M.bytesTo_none HL.out N k]
        exact HY.out
      · have hmod : k % n < n := Nat.mod_lt _ (by omega)
        obtain ⟨b, off, z, rfl, hbB, hz0, hz1, hzk, hc⟩ := HAT.out (k % n) hmod
        have hc' : wr.cell? ⟨b, off + k % n, none⟩ = some (.int .u8 z) := (hb.cell (p := ⟨b, off + k % n, none⟩) (Nat.lt_of_lt_of_le hbB hB)).trans hc
        have hth := hy.there (by rw [M.bytesTo_len]) k hlt
        have hfz := hth.2
        obtain ⟨cz, hcz⟩ := Option.isSome_iff_exists.1 hth.1
        have hv : M.bval zs k = (z + ((k / 512 : Nat) : Int)) % 256 := by unfold M.bval; rw [HL.out, if_neg h0, List.getD_eq_getElem?_getD, hzk]; rfl
        have hst := hy.stored k (M.bval zs k)
        rw [← M.bytesTo_step, hv] at hst
        have HST := hid hst
        have HB := hid hb
        have ht1 : ((k : Int)).tmod (n : Int) = ((k % n : Nat) : Int) := by rw [Int.tmod_eq_emod_of_nonneg (a := (k : Int)) (by omega), Int.natCast_emod]
        have ht2 : ((k : Int)) % (n : Int) = ((k % n : Nat) : Int) := by rw [Int.natCast_emod]
        have hq : ((k : Int)) / 512 = ((k / 512 : Nat) : Int) := by omega
        have hq5 : k / 512 ≤ 5 := by omega
        have hn0 : ((n : Int) == 0) = false := by simp; omega
        clear hst hth hy hb hc hv
        generalize k % n = q at *
        generalize k / 512 = s at *
        go_wp2
        go_roundw
        case rel => exact ⟨k + 1, by omega, by go_num, HST.out.1, HB.out.setCell (p := ⟨w.heap.size, k, none⟩) (Nat.le_refl _) _⟩
        case measure => simp [intOf]; omega
    · obtain rfl : k = N := by omega
      have HY := hid hy
      have HB := hid hb
      clear hy hb
      go_wp2
      go_ret
      exact ⟨_, rfl, HY.out, HB.out⟩

/-- The chapter's example: 513 noughts. -/
def nz : List Int := List.replicate 513 0
theorem nz_len : nz.length = 513 := List.length_replicate
theorem nz_bads : M.bads 513 [1, 1, 7] = [1] := by decide +kernel
theorem nz_blk : (M.blkI (M.wipe [1] nz) 1).length = 1 := by
  have h : (M.wipe [1] nz).length = 513 := by rw [M.wipe_len, nz_len]
  unfold M.blkI
  rw [h, if_pos (by decide), M.blk_len, h]
  rfl

set_option maxRecDepth 100000 in
set_option maxHeartbeats 1000000 in
theorem known_any (w : World) : Calls Try.prog 9 #[] w fun e w' => e = .returned (.bool true) ∧ Below w.heap.size w w' := by
  obtain ⟨o, ho⟩ : ∃ o, o = Obj.cells (madeCells #[Value.int .u8 0] 513) 5 := ⟨_, rfl⟩
  obtain ⟨o2, ho2⟩ : ∃ o2, o2 = Obj.cells #[Value.int .i64 1, Value.int .i64 1, Value.int .i64 7] 3 := ⟨_, rfl⟩
  obtain ⟨W0, hW0⟩ : ∃ W0, W0 = (w.alloc o).alloc o2 := ⟨_, rfl⟩
  have hs0 : W0.heap.size = w.heap.size + 2 := by rw [hW0]; simp
  have hb0 : Below w.heap.size w W0 := by rw [hW0]; exact ((Below.refl _ _).alloc (Nat.le_refl _) _).alloc (by simp) _
  have hy0 : OwnY W0 w.heap.size (.slice (some ⟨w.heap.size, 0, none⟩) 513 513) nz := by
    rw [hW0, ho]
    exact (OwnY.made w 513 (by decide)).alloc' _
  have hr0 : Rd W0 W0.heap.size (some ⟨w.heap.size, 0, none⟩) 513 nz := by
    have h := hy0
    unfold OwnY at h
    rw [nz_len] at h
    exact Rd.of_own h (by intro z hz; rw [List.eq_of_mem_replicate hz]; decide)
  have hx0 : Blk W0 (w.heap.size + 1) 3 [.int .i64 1, .int .i64 1, .int .i64 7] := by
    rw [hW0, ho2]
    have := Blk.new (w.alloc o) 3 [.int .i64 1, .int .i64 1, .int .i64 7]
    rwa [World.size_alloc] at this
  have hi0 : RdI W0 W0.heap.size (some ⟨w.heap.size + 1, 0, none⟩) 3 [1, 1, 7] := by
    refine ⟨rfl, by unfold i64s; decide, fun _ => ⟨_, 0, rfl, hx0.lt, fun j z hj => ?_⟩⟩
    rw [Nat.zero_add]
    refine hx0.cell ?_
    match j, hj with
    | 0, hj => injection hj with hj; subst hj; rfl
    | 1, hj => injection hj with hj; subst hj; rfl
    | 2, hj => injection hj with hj; subst hj; rfl
    | j + 3, hj => simp at hj
  have HM := hid (make_any (some ⟨w.heap.size, 0, none⟩) 513 513 nz (some ⟨w.heap.size + 1, 0, none⟩) 3 3 [1, 1, 7] W0 _ hr0 hi0 (Nat.le_refl _) (by decide) (by decide))
  rw [nz_bads] at HM
  have HU : Hid (u8s (M.wipe [1] nz)) := hid (M.wipe_bd (by intro z hz; rw [List.eq_of_mem_replicate hz]; decide))
  have hmk := run_make_row' (P := Try.prog) 22 5 (.int .u8 0) 1 Try.underlying22 u8_parts rfl .i64 .i64 513 (by omega) (by omega) w
  rw [show ((513 : Nat) : Int) = 513 from rfl] at hmk
  have HEQ : Hid ((w.alloc (.cells (madeCells #[Value.int .u8 0] 513) 5)).alloc (.cells #[Value.int .i64 1, Value.int .i64 1, Value.int .i64 7] 3) = W0) := hid (by rw [hW0, ho, ho2])
  have HB0 := hid hb0
  have HL1 : Hid ((M.wipe [1] nz).length = 513) := hid (by rw [M.wipe_len, nz_len])
  have HBK := hid nz_blk
  clear hy0 hr0 hx0 hi0 hW0 ho ho2 hb0
  generalize M.wipe [1] nz = ws at *
  go_enter Try.func9, Try.ntmps9
  go_wp2_with fail
  rw [HEQ.out]
  (with_reducible refine HM.out.mono ?_)
  rintro e w1 ⟨u, v, rfl, hu, hv, b1⟩
  obtain ⟨Au, cu, rfl, hru, hcu, hmu⟩ := hu.rd HU.out
  obtain ⟨Av, cv, rfl, hrv, hcv, hmv⟩ := hv.rd (by unfold i64s; decide)
  rw [HL1.out] at hru hcu ⊢
  have hbw1 := HB0.out.trans (b1.mono HB0.out.size)
  obtain ⟨w2, hw2⟩ : ∃ w2, w1.alloc (.cells #[.slice Au 513 cu, .slice Av 1 cv] 27) = w2 := ⟨_, rfl⟩
  have hb2 : Below w1.heap.size w1 w2 := by rw [← hw2]; exact (Below.refl _ _).alloc (Nat.le_refl _) _
  have hx2 : Blk w2 w1.heap.size 27 [.slice Au 513 cu, .slice Av 1 cv] := by rw [← hw2]; exact Blk.new w1 _ _
  have c0 := hx2.cell (i := 0) rfl
  have c1 := hx2.cell (i := 1) rfl
  have HX := hid hx2
  have HRU := hid (fun (W : World) (hb : Below w2.heap.size w2 W) => hru.keep (w' := W) fun p hp => (hb.cell (Nat.lt_of_lt_of_le hp hb2.size)).trans (hb2.cell hp))
  have HRV := hid (fun (W : World) (hb : Below w2.heap.size w2 W) => hrv.keep (w' := W) fun p hp => (hb.cell (Nat.lt_of_lt_of_le hp hb2.size)).trans (hb2.cell hp))
  have HS2 := hid hb2.size
  have HB2 := hid (hbw1.trans (hb2.mono hbw1.size))
  clear hu hv hru hrv b1 hbw1 hb2 hx2 HM hmk
  rw [List.length_singleton] at hcv ⊢
  go_wp2_with fail
  have hcn : M.cnt 513 = 2 := by decide
  have HCN := count_any Au 513 cu Av 1 cv w2 (by decide)
  rw [hcn] at HCN
  have HC := hid HCN
  clear HCN hcn c0 c1
  (with_reducible refine HC.out.mono ?_)
  rintro e w3 ⟨rfl, b3⟩
  have HB3 := hid b3
  have hx3 := HX.out.below b3 HX.out.lt
  have c0 := hx3.cell (i := 0) rfl
  have c1 := hx3.cell (i := 1) rfl
  have HK := hid (block_any Au 513 cu ws Av 1 cv 1 w3 w1.heap.size (HRU.out w3 b3) (Nat.le_trans HS2.out b3.size) hcu hmu (by decide) (by decide))
  clear b3 hx3
  go_wp2_with fail
  (with_reducible refine HK.out.mono ?_)
  rintro e w4 ⟨v, rfl, hv, b4'⟩
  obtain ⟨A4, c4, rfl, _, _⟩ := own_room hv
  rw [HBK.out]
  have b4 := HB3.out.trans (b4'.mono HB3.out.size)
  have HB4 := hid b4
  have hx4 := HX.out.below b4 HX.out.lt
  have d0 := hx4.cell (i := 0) rfl
  have d1 := hx4.cell (i := 1) rfl
  have HD := hid (bad_any Au 513 cu Av 1 cv [1] 1 w4 w1.heap.size (HRV.out w4 b4) (Nat.le_trans HS2.out b4.size) (by decide))
  rw [show M.has [1] 1 = true from by decide] at HD
  clear b4 b4' hx4 hv c0 c1
  go_wp2_with fail
  (with_reducible refine HD.out.mono ?_)
  rintro e w5 ⟨rfl, b5'⟩
  have b5 := HB4.out.trans (b5'.mono HB4.out.size)
  have HB5 := hid b5
  have hx5 := HX.out.below b5 HX.out.lt
  have e1 := hx5.cell (i := 1) rfl
  clear b5 b5' hx5 d0 d1
  go_wp2
  go_ret
  exact ⟨rfl, HB2.out.trans (HB5.out.mono HB2.out.size)⟩
end Go.Proofs.Yteneknmbddnkaaa
