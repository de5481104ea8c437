/-
  MediumTwice's walk.
-/
import Derived.Test.YteneknmbddnkaaaMedLaw
namespace Go.Proofs.Yteneknmbddnkaaa
open Go.RowKit Go.Lib

theorem rise_next {l : List Int} (h : l.Pairwise (· < ·)) {j : Nat} {a b : Int} (ha : l[j]? = some a) (hb : l[j + 1]? = some b) : a < b := by
  obtain ⟨h1, rfl⟩ := List.getElem?_eq_some_iff.1 ha
  obtain ⟨h2, rfl⟩ := List.getElem?_eq_some_iff.1 hb
  exact (List.pairwise_iff_getElem.1 h) j (j + 1) h1 h2 (by omega)

set_option maxRecDepth 100000 in
set_option maxHeartbeats 2000000 in
theorem mediumTwice_nat (A : Option Addr) (n c : Nat) (zs : List Int) (m : Nat) (A' : Option Addr) (n' c' : Nat) (bad : List Int) (w : World) (hr : Rd w w.heap.size A n zs) (hn : n ≤ maxLen) (hm : m ≤ 65535) (hi : RdI w w.heap.size A' n' bad) (hn' : n' ≤ maxLen) :
    Calls Try.prog 3 #[.slice A n c, .int .u16 m, .slice A' n' c'] w fun e w' => e = .returned (.bool true) ∧ Below w.heap.size w w' := by
  by_cases h6 : 30 < n'
  · have e1 : decide ((30 : Int) < n') = true := by rw [decide_eq_true_eq]; omega
    unfold maxLen at hn'
    clear hr hi
    go_enter Try.func3, Try.ntmps3
    go_wp2_with fail
    refine (known_any _).mono ?_
    rintro e w1 ⟨rfl, b1⟩
    go_wp2
    go_ret
    exact ⟨rfl, b1⟩
  have e1 : decide ((30 : Int) < n') = false := by rw [decide_eq_false_iff_not]; omega
  have hN1 : m % 3000 ≤ 2999 := by omega
  have HB := hid (bytes_any A n c zs m w w.heap.size hr (Nat.le_refl _) hm hn)
  have HI := hid (fun W (hb : Below w.heap.size w W) => hi.keep (w' := W) fun p hp => hb.cell hp)
  have HBL := hid (M.bytes_len zs (m % 3000))
  have HBU : Hid (u8s (M.bytes zs (m % 3000))) := hid (M.bytes_bd zs (m % 3000))
  clear hr hi
  generalize M.bytes zs (m % 3000) = bz at *
  generalize m % 3000 = N at *
  have HLB : Hid (i64s (M.bads N bad)) := hid (M.bads_bd (by omega))
  have HLR := hid (M.bads_rise N bad)
  have HLN := hid (M.bads_len N bad)
  have HTW := hid (M.bads_twice N bad)
  have HNC := hid (M.cnt_le N)
  have HWU : Hid (u8s (M.wipe (M.bads N bad) bz)) := hid (M.wipe_bd HBU.out)
  have HWL : Hid ((M.wipe (M.bads N bad) bz).length = N) := hid (by rw [M.wipe_len, HBL.out])
  have HWT := hid (M.wipe_twice (M.bads N bad) bz)
  have HM := hid (fun (Ab : Option Addr) (cb : Nat) (W : World) (hb : Below w.heap.size w W) (hrr : Rd W W.heap.size Ab N bz) => make_any Ab N cb bz A' n' c' bad W W.heap.size hrr ((HI.out W hb).more hb.size) (Nat.le_refl _) (by omega) (by omega))
  generalize M.bads N bad = L at *
  generalize M.wipe L bz = ws at *
  go_enter Try.func3, Try.ntmps3
  go_wp2_with fail
  (with_reducible refine HB.out.mono ?_)
  rintro e w1 ⟨v1, rfl, hv1, b1⟩
  obtain ⟨Ab, cb, rfl, hrb, hcb, hmb⟩ := hv1.rd HBU.out
  rw [HBL.out] at hrb hcb ⊢
  have HM1 := hid (HM.out Ab cb w1 b1 hrb)
  have HB1 := hid b1
  clear hv1 hrb b1 HM
  go_wp2_with fail
  (with_reducible refine HM1.out.mono ?_)
  rintro e w2 ⟨u, v, rfl, hu, hv, b2⟩
  obtain ⟨Au, cu, rfl, hru, hcu, hmu⟩ := hu.rd HWU.out
  obtain ⟨Av, cv, rfl, hrv, hcv, hmv⟩ := hv.rd HLB.out
  rw [HWL.out] at hru hcu ⊢
  have hB2 := HB1.out.trans (b2.mono HB1.out.size)
  obtain ⟨w3, hw3⟩ : ∃ w3, w2.alloc (.cells #[.slice Au N cu, .slice Av L.length cv] 27) = w3 := ⟨_, rfl⟩
  have hb3 : Below w2.heap.size w2 w3 := by rw [← hw3]; exact (Below.refl _ _).alloc (Nat.le_refl _) _
  have hx3 : Blk w3 w2.heap.size 27 [.slice Au N cu, .slice Av L.length cv] := by rw [← hw3]; exact Blk.new w2 _ _
  have hru3 := (hru.keep (w' := w3) fun p hp => hb3.cell hp)
  have hrv3 := (hrv.keep (w' := w3) fun p hp => hb3.cell hp)
  have HM3 := make_any Au N cu ws Av L.length cv L w3 w2.heap.size hru3 hrv3 hb3.size (by omega) (by have := HLN.out; have := HNC.out; omega)
  rw [HTW.out, HWT.out] at HM3
  have H3 := hid HM3
  have HX3 := hid hx3
  have HRU := hid hru3
  have HRV := hid hrv3
  have HB3 := hid (hB2.trans (hb3.mono hB2.size))
  have HS3 := hid hb3.size
  have c30 := hx3.cell (i := 0) rfl
  have c31 := hx3.cell (i := 1) rfl
  clear hu hv b2 hru hrv hB2 hb3 hx3 hru3 hrv3 HM3 HM1 HB1 HTW HWT
  go_wp2_with fail
  clear hw3
  (with_reducible refine H3.out.mono ?_)
  rintro e w4 ⟨u', v', rfl, hu, hv, b4⟩
  obtain ⟨Au', cu', rfl, hru', hcu', hmu'⟩ := hu.rd HWU.out
  obtain ⟨Av', cv', rfl, hrv', hcv', hmv'⟩ := hv.rd HLB.out
  rw [HWL.out] at hru' hcu' ⊢
  obtain ⟨w5, hw5⟩ : ∃ w5, w4.alloc (.cells #[.slice Au' N cu', .slice Av' L.length cv'] 27) = w5 := ⟨_, rfl⟩
  have hb5 : Below w4.heap.size w4 w5 := by rw [← hw5]; exact (Below.refl _ _).alloc (Nat.le_refl _) _
  have hb35 : Below w3.heap.size w3 w5 := b4.trans (hb5.mono b4.size)
  have hx5 : Blk w5 w4.heap.size 27 [.slice Au' N cu', .slice Av' L.length cv'] := by rw [← hw5]; exact Blk.new w4 _ _
  have hx35 := HX3.out.below hb35 HX3.out.lt
  have HX5 := hid hx5
  have HX35 := hid hx35
  have HB5 := hid (HB3.out.trans (hb35.mono HB3.out.size))
  have HRV5 := hid ((HRV.out.keep (w' := w5) fun p hp => hb35.cell (Nat.lt_of_lt_of_le hp HS3.out)))
  have hz25 : w2.heap.size ≤ w5.heap.size := Nat.le_trans HS3.out hb35.size
  have HSM := hid (fun (W : World) (hb : Below w5.heap.size w5 W) =>
    same_any Au N cu Au' cu' ws Av L.length cv Av' cv' L W w5.heap.size
      ((((HRU.out.keep (w' := w5) fun p hp => hb35.cell (Nat.lt_of_lt_of_le hp HS3.out)).more hz25).keep (w' := W) fun p hp => hb.cell hp))
      (((hru'.keep (w' := w5) fun p hp => hb5.cell hp).more hb5.size).keep (w' := W) fun p hp => hb.cell hp)
      ((HRV5.out.more hz25).keep (w' := W) fun p hp => hb.cell hp)
      (((hrv'.keep (w' := w5) fun p hp => hb5.cell hp).more hb5.size).keep (w' := W) fun p hp => hb.cell hp) hb.size (by have := HLN.out; have := HNC.out; omega))
  have d0 := hx35.cell (i := 0) rfl
  have d1 := hx35.cell (i := 1) rfl
  clear hu hv hru' hrv' b4 hb5 hb35 hx5 hx35 c30 c31
  go_wp2_with fail
  clear hw5
  go_loopw [9] (fun v wr => ∃ j : Nat, (j = 0 ∨ j + 1 ≤ L.length) ∧ v = .int .i64 ((j : Int) + 1) ∧ ∃ m, wr = w5.drewN m) (fun v _ => L.length + 1 - (intOf v).toNat)
  case atStart => exact ⟨0, .inl rfl, rfl, 0, rfl⟩
  case round =>
    obtain ⟨j, hj, rfl, q, rfl⟩ := hrel
    have dd1 : (w5.drewN q).cell? ⟨w2.heap.size, 1, none⟩ = some (.slice Av L.length cv) := d1
    have hLL : L.length ≤ 3000 := by have := HLN.out; have := HNC.out; omega
    by_cases hlt : j + 1 < L.length
    · have e2 : decide ((j : Int) + 1 < (L.length : Int)) = true := by rw [decide_eq_true_eq]; omega
      obtain ⟨b, off, z, rfl, _, hz0, hz1, hzk, hc⟩ := HRV5.out.at_ hlt
      obtain ⟨b', off', y, hAA, _, _, _, hyk, hcy⟩ := HRV5.out.at_ (k := j) (by omega)
      cases hAA
      have hzy := rise_next HLR.out hyk hzk
      have e3 : decide (z ≤ y) = false := by rw [decide_eq_false_iff_not]; omega
      have dc : (w5.drewN q).cell? ⟨b, off + (j + 1), none⟩ = some (.int .i64 z) := hc
      have dy : (w5.drewN q).cell? ⟨b, off + j, none⟩ = some (.int .i64 y) := hcy
      have e4 : IntKind.i64.wrap ((j : Int) + 1 - 1) = (j : Int) := by rw [IntWalk.i64_in _ (by omega)]; omega
      have e5 : ((j : Int) + 1).toNat = j + 1 := by omega
      go_wp2_with fail
      go_quiet (fail)
      go_wp2
      go_roundw
      case rel => exact ⟨j + 1, .inr (by omega), by go_num, _, rfl⟩
      case measure => simp [intOf]; omega
    · have e2 : decide ((j : Int) + 1 < (L.length : Int)) = false := by rw [decide_eq_false_iff_not]; omega
      have HBQ := hid (below_drewN' (Below.refl w5.heap.size w5) q)
      have HBW := hid (HB5.out.trans (HBQ.out.mono HB5.out.size))
      clear d0 d1
      go_wp2_with fail
      (with_reducible refine (known_any _).mono ?_)
      rintro e w6 ⟨rfl, b6⟩
      have b56 : Below w5.heap.size w5 w6 := HBQ.out.trans (b6.mono HBQ.out.size)
      have x6 := HX35.out.below b56 HX35.out.lt
      have y6 := HX5.out.below b56 HX5.out.lt
      have k0 := x6.cell (i := 0) rfl
      have k1 := x6.cell (i := 1) rfl
      have l0 := y6.cell (i := 0) rfl
      have l1 := y6.cell (i := 1) rfl
      have HS6 := hid (HSM.out w6 b56)
      have HB6 := hid (HBW.out.trans (b6.mono HBW.out.size))
      clear x6 y6 b6 b56 dd1
      go_wp2_with fail
      (with_reducible refine HS6.out.mono ?_)
      rintro e w7 ⟨rfl, b7⟩
      go_wp2
      go_ret
      exact ⟨rfl, HB6.out.trans (b7.mono HB6.out.size)⟩

theorem mediumTwice_any (A : Option Addr) (n c : Nat) (zs : List Int) (m : Int) (A' : Option Addr) (n' c' : Nat) (bad : List Int) (w : World) (hr : Rd w w.heap.size A n zs) (hn : n ≤ maxLen) (hm : 0 ≤ m ∧ m ≤ 65535) (hi : RdI w w.heap.size A' n' bad) (hn' : n' ≤ maxLen) :
    Calls Try.prog 3 #[.slice A n c, .int .u16 m, .slice A' n' c'] w fun e w' => e = .returned (.bool true) ∧ Below w.heap.size w w' := by
  obtain ⟨k, rfl⟩ : ∃ k : Nat, m = k := ⟨m.toNat, by omega⟩
  exact mediumTwice_nat A n c zs k A' n' c' bad w hr hn (by omega) hi hn'
end Go.Proofs.Yteneknmbddnkaaa
