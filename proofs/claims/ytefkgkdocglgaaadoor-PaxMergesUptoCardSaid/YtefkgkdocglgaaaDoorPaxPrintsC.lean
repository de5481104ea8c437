/-
  The walks of PaxPrints and PaxParses.
-/
import Derived.Test.YtefkgkdocglgaaaDoorPaxPrintsB
namespace Go.Proofs.YtefkgkdocglgaaaDoor
open Go.RowKit Go.Shelf

/-- Numbers that are bytes are a list's. -/
theorem rd_bytes {w : World} {B n : Nat} {A : Option Addr} {zs : List Int} (h : Rd w B A n zs) : ∃ l : List UInt8, zs = ints l := by
  have hb := h.bd
  clear h
  induction zs with
  | nil => exact ⟨[], rfl⟩
  | cons z zs ih =>
    obtain ⟨l, hl⟩ := ih (fun x hx => hb x (List.mem_cons_of_mem _ hx))
    have hz := hb z (by simp)
    refine ⟨UInt8.ofNat z.toNat :: l, ?_⟩
    have e : ((UInt8.ofNat z.toNat).toNat : Int) = z := by rw [UInt8.toNat_ofNat']; omega
    show z :: zs = ((UInt8.ofNat z.toNat).toNat : Int) :: ints l
    rw [e, hl]

set_option maxRecDepth 100000 in
set_option maxHeartbeats 4000000 in
theorem paxPrints_any (A : Option Addr) (c : Nat) (l : List R2) (A' : Option Addr) (n' c' : Nat) (zs' : List Int) (w : World) (ham : amount l ≤ 4611686018427387904) (h : RdR w w.heap.size A l) (h' : Rd w w.heap.size A' n' zs') (hn' : n' ≤ maxLen) (tb : TB w.heap.size w) :
    Calls Tryd.prog 5 #[.slice A l.length c, .slice A' n' c'] w fun e w' => e = .returned (.bool true) ∧ Below w.heap.size w w' := by
  have HT := Lib.hid tb
  have HR := Lib.hid h
  have HR' := Lib.hid h'
  have C1 := Lib.hid (much_any A c l ham w.heap.size w h)
  clear tb h h'
  by_cases hm : 600 < amount l
  · rw [decide_eq_true hm] at C1
    clear hm
    go_enter Tryd.func5, Tryd.ntmps5
    go_wp2_with fail
    refine C1.out.mono ?_
    rintro e w1 ⟨rfl, b1⟩
    go_wp2_with fail
    refine (known_any w.heap.size w1 b1.size (HT.out.on b1)).mono ?_
    rintro e w2 ⟨rfl, hb2⟩
    have b2 := b1.trans (hb2.mono b1.size)
    go_wp2
    go_ret
    exact ⟨rfl, b2⟩
  · rw [decide_eq_false hm] at C1
    have hsm := amount_short (Nat.le_of_not_lt hm)
    have hsh : Short l := fun r hr => Nat.le_trans (hsm.2 r hr) (by omega)
    have hll : l.length ≤ 1000000 := Nat.le_trans hsm.1 (by omega)
    have HSH := Lib.hid hsh
    clear hm hsm hsh
    go_enter Tryd.func5, Tryd.ntmps5
    go_wp2_with fail
    refine C1.out.mono ?_
    rintro e w1 ⟨rfl, b1⟩
    go_wp2_with fail
    refine (known_any w.heap.size w1 b1.size (HT.out.on b1)).mono ?_
    rintro e w2 ⟨rfl, hb2⟩
    have b2 := b1.trans (hb2.mono b1.size)
    clear hb2
    go_wp2_with fail
    refine (prints_any A c l hll HSH.out w.heap.size w2 b2.size (HT.out.on b2) ((HR.out.below b2).more b2.size)).mono ?_
    rintro e w3 ⟨rfl, hb3⟩
    have b3 := b2.trans (hb3.mono b2.size)
    clear hb3
    go_wp2_with fail
    refine (recs_any A' n' c' zs' 12 (by omega) hn' w3 ((HR'.out.below b3).more b3.size)).mono ?_
    rintro e w4 ⟨A4, c4, rs, rfl, hr4, hc4, hm4, hlr, hg, hb4⟩
    have b4 := b3.trans (hb4.mono b3.size)
    have HR4 := Lib.hid hr4
    have HG := Lib.hid hg
    clear hb4 hr4 hg
    go_wp2_with fail
    refine (prints_any A4 c4 rs (by omega) HG.out.short w.heap.size w4 b4.size (HT.out.on b4) HR4.out).mono ?_
    rintro e w5 ⟨rfl, hb5⟩
    have b5 := b4.trans (hb5.mono b4.size)
    go_wp2
    go_ret
    exact ⟨rfl, b5⟩

/-- A byte of a row of the call's own, changed. -/
theorem own_set {w : World} {base c : Nat} {A : Option Addr} {P : List UInt8} (h : OwnB w base (.slice A P.length c) P) {j : Nat} (hj : j < P.length) (z : Int) (z0 : 0 ≤ z) (z1 : z ≤ 255) :
    ∃ g, base ≤ g ∧ A = some ⟨g, 0, none⟩ ∧ w.cell? ⟨g, j, none⟩ = some (.int .u8 (P[j]).toNat) ∧ w.frozen? ⟨g, j, none⟩ = false ∧
      Rd (w.setCell ⟨g, j, none⟩ (.int .u8 z)) (w.setCell ⟨g, j, none⟩ (.int .u8 z)).heap.size (some ⟨g, 0, none⟩) P.length (ints (P.set j (UInt8.ofNat z.toNat))) := by
  have h' := h
  unfold OwnB at h'
  rcases h'.2 with ⟨hv, h0⟩ | ⟨g, cap, cur, hv, hb, hh, hnc, hcm, hcs, htk⟩
  · omega
  · injection hv with hA _ hcap
    subst hA
    obtain ⟨A2, c2, hv2, hrd, _, _⟩ := h.rd
    injection hv2 with hA2 _ _
    subst hA2
    obtain ⟨b', off', e, hblt, hcell⟩ := hrd.2.2 (by omega)
    injection e with e
    injection e with e1 e2
    subst e1
    subst e2
    simp only [Nat.zero_add] at hcell
    have hcj := hcell j _ (ints_at hj)
    refine ⟨g, hb, rfl, hcj, by simp [World.frozen?, hh], ?_, ints_bd _, fun _ => ⟨g, 0, rfl, by simpa [World.setCell] using hblt, fun k y hk => ?_⟩⟩
    · rw [ints_length, List.length_set]
    · rw [Nat.zero_add]
      have hkl : k < P.length := by
        have := (List.getElem?_eq_some_iff.1 hk).1
        rwa [ints_length, List.length_set] at this
      rw [ints_at (by rw [List.length_set]; exact hkl)] at hk
      injection hk with hk
      by_cases hkj : k = j
      · subst hkj
        rw [List.getElem_set_self] at hk
        have e : ((UInt8.ofNat z.toNat).toNat : Int) = z := by rw [UInt8.toNat_ofNat']; omega
        rw [e] at hk
        subst hk
        exact World.cell?_setCell_same w _ _ hcj
      · rw [List.getElem_set_ne (Ne.symm hkj)] at hk
        rw [World.cell?_setCell_other w _ _ _ (fun e => hkj (by injection e with _ e2; exact e2.symm))]
        rw [hcell k _ (ints_at hkl), hk]

theorem good_small {rs : List R2} (hg : Good rs) (n : Nat) (hn : rs.length ≤ n) (h1000 : n ≤ 1000) : M.printE (rcs rs) = 0 ∧ (M.lines (rcs rs)).length ≤ n * 100 := by
  have hall : (rcs rs).all M.right = true := by
    rw [List.all_eq_true]
    intro x hx
    obtain ⟨r, hr, rfl⟩ := List.mem_map.1 hx
    exact (hg r hr).1
  have hlen : ∀ (l : List R2), Good l → (M.lines (rcs l)).length ≤ l.length * 100 := by
    intro l
    induction l with
    | nil => intro _; simp [rcs, M.lines]
    | cons r l ih =>
      intro hg
      have h1 := (hg r (by simp)).2.1
      have h2 := ih (fun x hx => hg x (List.mem_cons_of_mem _ hx))
      have e : rcs (r :: l) = rc r :: rcs l := rfl
      rw [e, M.lines_cons, List.length_append, line_len (by omega), List.length_cons]
      have : M.lineLen (rc r) ≤ 100 := by
        unfold M.lineLen
        have e2 : (M.body (rc r)).length = r.1.size + r.2.size + 3 := by rw [M.body_length]; rfl
        have := M.wid_pos (M.body (rc r)).length
        omega
      omega
  have h3 := hlen rs hg
  have h4 : rs.length * 100 ≤ n * 100 := Nat.mul_le_mul_right _ hn
  refine ⟨M.printE_0 hall ?_, by omega⟩
  rw [rcs_len]
  omega

set_option maxRecDepth 100000 in
set_option maxHeartbeats 4000000 in
theorem paxParses_any (A : Option Addr) (n c : Nat) (zs : List Int) (A' : Option Addr) (n' c' : Nat) (zs' : List Int) (a2 a3 a4 : Int) (w : World) (h : Rd w w.heap.size A n zs) (hc : n ≤ c) (h' : Rd w w.heap.size A' n' zs') (hn : n ≤ maxLen) (hn' : n' ≤ maxLen)
    (x0 : 0 ≤ a2) (x1 : a2 ≤ 65535) (y0 : 0 ≤ a3) (y1 : a3 ≤ 255) (z0 : 0 ≤ a4) (z1 : a4 ≤ 255) (tb : TB w.heap.size w) :
    Calls Tryd.prog 6 #[.slice A n c, .slice A' n' c', .int .u16 a2, .int .u8 a3, .int .u8 a4] w fun e w' => e = .returned (.bool true) ∧ Below w.heap.size w w' := by
  unfold maxLen at hn
  have HT := Lib.hid tb
  have HR := Lib.hid h
  have HR' := Lib.hid h'
  clear tb h h'
  by_cases hbig : 300 < n
  · have hd : decide ((n : Int) > 300) = true := by rw [decide_eq_true_eq]; omega
    go_enter Tryd.func6, Tryd.ntmps6
    go_wp2_with fail
    refine (known_any w.heap.size w (Nat.le_refl _) HT.out).mono ?_
    rintro e w2 ⟨rfl, b2⟩
    go_wp2
    go_ret
    exact ⟨rfl, b2⟩
  · have hsm : n ≤ 300 := by omega
    obtain ⟨lb, hlb⟩ := rd_bytes HR.out
    have hlbn : lb.length = n := by rw [← ints_length, ← hlb]; exact HR.out.len
    rw [hlb] at HR
    subst hlbn
    clear hbig hlb
    go_enter Tryd.func6, Tryd.ntmps6
    go_wp2_with fail
    refine (known_any w.heap.size w (Nat.le_refl _) HT.out).mono ?_
    rintro e w2 ⟨rfl, b2⟩
    go_wp2_with fail
    refine (recs_any A' n' c' zs' 6 (by omega) hn' w2 ((HR'.out.below b2).more b2.size)).mono ?_
    rintro e w4 ⟨A4, c4, rs, rfl, hr4, hc4, hm4, hlr, hg, hb4⟩
    have b4 := b2.trans (hb4.mono b2.size)
    obtain ⟨hE0, hP6⟩ := good_small hg 6 hlr (by omega)
    have C2 := Lib.hid (refPrint_any A4 c4 rs (by omega) hg.short w.heap.size w4 b4.size (HT.out.on b4) hr4)
    have HE0 := Lib.hid hE0
    clear hb4 hr4 hg hE0
    go_wp2_with fail
    refine C2.out.mono ?_
    rintro e w5 h5
    obtain ⟨A5, c5, P, rfl, hP, hr5, hc5, hm5, ho5, hb5⟩ := h5.out (z := 0) (by rw [HE0.out]; rfl)
    have hPl : P.length ≤ 600 := by rw [hP.out, M.printB_0 HE0.out]; exact hP6
    have b5 := b4.trans (hb5.mono b4.size)
    have HR5 := Lib.hid hr5
    have HO5 := Lib.hid ho5
    clear h5 hr5 ho5 C2 hP6
    have hbig1 : (0 : Int) ≤ a4 % 3 := by omega
    have hbig2 : a4 % 3 ≤ 2 := by omega
    have fin : ∀ (A6 : Option Addr) (c6 : Nat) (P6 : List UInt8) (w6 : World), P6.length ≤ 600 → P6.length ≤ c6 → Below w.heap.size w w6 → Rd w6 w6.heap.size A6 P6.length (ints P6) →
        Calls Tryd.prog 20 #[.slice A lb.length c] w6 (fun e w' => e = .returned (.bool true) ∧ Below w6.heap.size w6 w') ∧
        ∀ w7, Below w6.heap.size w6 w7 → Calls Tryd.prog 20 #[.slice A6 P6.length c6] w7 (fun e w' => e = .returned (.bool true) ∧ Below w7.heap.size w7 w') := by
      intro A6 c6 P6 w6 h1 h2 h3 h4
      refine ⟨parses_any A c lb (by omega) hc w.heap.size w6 h3.size (HT.out.on h3) ((HR.out.below h3).more h3.size), fun w7 h5 => ?_⟩
      have h6 := h3.trans (h5.mono h3.size)
      exact parses_any A6 c6 P6 (by omega) h2 w.heap.size w7 h6.size (HT.out.on h6) ((h4.below h5).more h5.size)
    have FIN := Lib.hid fin
    clear fin
    by_cases m0 : a4 % 3 = 0
    · have n0 : (a4 % 3 == 0) = true := by simp [m0]
      have n1 : (a4 % 3 == 1) = false := by simp [m0]
      clear m0
      by_cases hp0 : P.length = 0
      · obtain rfl : P = [] := List.eq_nil_of_length_eq_zero hp0
        obtain ⟨F1, F2⟩ := FIN.out A5 c5 [] w5 (by decide) hc5 b5 HR5.out
        have HF1 := Lib.hid F1
        have HF2 := Lib.hid F2
        clear F1 F2 hp0
        simp only [List.length_nil] at *
        go_wp2_with fail
        (with_reducible refine HF1.out.mono ?_)
        rintro e w7 ⟨rfl, hb7⟩
        go_wp2_with fail
        (with_reducible refine (HF2.out w7 hb7).mono ?_)
        rintro e w8 ⟨rfl, hb8⟩
        have b7 := b5.trans (hb7.mono b5.size)
        have b8 := b7.trans (hb8.mono b7.size)
        go_wp2
        go_ret
        exact ⟨rfl, b8⟩
      · have hpos : 0 < P.length := by omega
        obtain ⟨j, hj⟩ : ∃ j : Nat, a2 % (P.length : Int) = (j : Int) := ⟨(a2 % (P.length : Int)).toNat, by have := Int.emod_nonneg a2 (show (P.length : Int) ≠ 0 by omega); omega⟩
        have hjl : j < P.length := by have := Int.emod_lt_of_pos a2 (show (0 : Int) < (P.length : Int) by omega); omega
        have hj2 : a2.tmod (P.length : Int) = (j : Int) := by rw [Int.tmod_eq_emod_of_nonneg x0]; exact hj
        obtain ⟨g, hg5, rfl, hcell, hfr, hset⟩ := own_set HO5.out hjl a3 y0 y1
        obtain ⟨F1, F2⟩ := FIN.out (some ⟨g, 0, none⟩) c5 (P.set j (UInt8.ofNat a3.toNat)) (w5.setCell ⟨g, j, none⟩ (.int .u8 a3)) (by rw [List.length_set]; exact hPl) (by rw [List.length_set]; exact hc5) (b5.setCell (p := ⟨g, j, none⟩) (Nat.le_trans b4.size hg5) _)
          (by rw [List.length_set]; exact hset)
        rw [List.length_set] at F2
        have HF1 := Lib.hid F1
        have HF2 := Lib.hid F2
        have b6 := b5.setCell (p := ⟨g, j, none⟩) (Nat.le_trans b4.size hg5) (.int .u8 a3)
        have hd : decide ((P.length : Int) > 0) = true := by rw [decide_eq_true_eq]; omega
        clear F1 F2 hp0 hset
        by_cases hj0 : j = 0
        case' pos => subst hj0
        case' neg =>
          have hj1 : 0 < j := by omega
          clear hj0
        all_goals
          go_wp2_with fail
          (with_reducible refine HF1.out.mono ?_)
          rintro e w7 ⟨rfl, hb7⟩
          go_wp2_with fail
          (with_reducible refine (HF2.out w7 hb7).mono ?_)
          rintro e w8 ⟨rfl, hb8⟩
          have b7 := b6.trans (hb7.mono b6.size)
          have b8 := b7.trans (hb8.mono b7.size)
          go_wp2
          go_ret
          exact ⟨rfl, b8⟩
    · have n0 : (a4 % 3 == 0) = false := by simp [m0]
      by_cases m1 : a4 % 3 = 1
      · have n1 : (a4 % 3 == 1) = true := by simp [m1]
        obtain ⟨j, hj⟩ : ∃ j : Nat, a2 % ((P.length : Int) + 1) = (j : Int) := ⟨(a2 % ((P.length : Int) + 1)).toNat, by have := Int.emod_nonneg a2 (show (P.length : Int) + 1 ≠ 0 by omega); omega⟩
        have hjl : j ≤ P.length := by have := Int.emod_lt_of_pos a2 (show (0 : Int) < (P.length : Int) + 1 by omega); omega
        have hj2 : a2.tmod ((P.length : Int) + 1) = (j : Int) := by rw [Int.tmod_eq_emod_of_nonneg x0]; exact hj
        have hsl := fun W' => slice_front W' A5 P.length c5 j (by omega)
        have hfr := HR5.out.front hjl
        rw [ints_take] at hfr
        have htl : (P.take j).length = j := by rw [List.length_take]; omega
        obtain ⟨F1, F2⟩ := FIN.out A5 c5 (P.take j) w5 (by omega) (by omega) b5 (by rw [htl]; exact hfr)
        rw [htl] at F2
        have HF1 := Lib.hid F1
        have HF2 := Lib.hid F2
        clear F1 F2 htl hfr m0 m1
        by_cases hp0 : P.length = 0
        case' pos =>
          have hd : (P.length : Int) ≤ 0 := by omega
        case' neg =>
          have hd : (0 : Int) < (P.length : Int) := by omega
        all_goals
          clear hp0
          go_wp2_with fail
          (with_reducible refine HF1.out.mono ?_)
          rintro e w7 ⟨rfl, hb7⟩
          go_wp2_with fail
          (with_reducible refine (HF2.out w7 hb7).mono ?_)
          rintro e w8 ⟨rfl, hb8⟩
          have b7 := b5.trans (hb7.mono b5.size)
          have b8 := b7.trans (hb8.mono b7.size)
          go_wp2
          go_ret
          exact ⟨rfl, b8⟩
      · have n1 : (a4 % 3 == 1) = false := by simp [m1]
        obtain ⟨F1, F2⟩ := FIN.out A5 c5 P w5 hPl hc5 b5 HR5.out
        have HF1 := Lib.hid F1
        have HF2 := Lib.hid F2
        clear F1 F2 m0 m1
        by_cases hp0 : P.length = 0
        case' pos =>
          have hd : (P.length : Int) ≤ 0 := by omega
        case' neg =>
          have hd : (0 : Int) < (P.length : Int) := by omega
        all_goals
          clear hp0
          go_wp2_with fail
          (with_reducible refine HF1.out.mono ?_)
          rintro e w7 ⟨rfl, hb7⟩
          go_wp2_with fail
          (with_reducible refine (HF2.out w7 hb7).mono ?_)
          rintro e w8 ⟨rfl, hb8⟩
          have b7 := b5.trans (hb7.mono b5.size)
          have b8 := b7.trans (hb8.mono b7.size)
          go_wp2
          go_ret
          exact ⟨rfl, b8⟩
end Go.Proofs.YtefkgkdocglgaaaDoor
