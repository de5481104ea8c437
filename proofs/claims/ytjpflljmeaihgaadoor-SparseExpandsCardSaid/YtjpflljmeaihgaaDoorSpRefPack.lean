/-
  Pack: the document's answer.
-/
import Derived.Test.YtjpflljmeaihgaaDoorSpBackM
import Derived.Test.YtjpflljmeaihgaaDoorSpRefExp
namespace Go.Proofs.YtjpflljmeaihgaaDoor
open Go.RowKit Go.Lib
attribute [local go_sem ↓] spSlice_from spSlice_to spSlice_mid add_plain

set_option maxRecDepth 100000 in
set_option maxHeartbeats 1000000 in
theorem empty_any (A : Option Addr) (n c : Nat) (zs : List Int) (w : World) (B : Nat) (hr : Rd w B A n zs) (hn : n ≤ 1000000) :
    Calls Tryd.prog 42 #[.slice A n c] w fun e w' => e = .returned (.bool (M.blank zs)) ∧ w' = w := by
  have HL := hid hr.len
  have HR := hid hr
  clear hr
  go_enter Tryd.func42, Tryd.ntmps42
  go_wp2
  go_loopw [3] (fun iv wr => wr = w ∧ ∃ k : Nat, iv = .int .i64 k ∧ k ≤ n ∧ Hid (M.blank (zs.take k) = true)) (fun iv _ => n - (RowKit.intOf iv).toNat)
  case atStart => exact ⟨rfl, 0, rfl, Nat.zero_le _, hid rfl⟩
  case round =>
    obtain ⟨rfl, k, rfl, hk, HJ⟩ := hrel
    by_cases hlt : k < n
    · obtain ⟨b, off, z, rfl, hb, hz0, hz1, hz, hcz⟩ := HR.out.at_ hlt
      have d1 : decide (k < n) = true := by rw [decide_eq_true_eq]; exact hlt
      obtain ⟨k1, hk1⟩ : ∃ k1, k1 = k + 1 := ⟨_, rfl⟩
      by_cases hzz : z = 0
      · have HN := hid (show M.blank (zs.take k1) = true by rw [hk1]; exact M.blank_take HJ.out hz hzz)
        have d2 : (z != 0) = false := by rw [hzz]; rfl
        clear hz hzz
        go_wp2
        go_roundw
        case rel => exact ⟨(by first | rfl | trivial), k1, (by subst hk1; first | rfl | go_num), by omega, HN⟩
        case measure => simp [RowKit.intOf] <;> omega
      · have HN := hid (M.blank_no hz hzz)
        have d2 : (z != 0) = true := by simpa using hzz
        clear hz hzz
        go_wp2
        go_ret
        exact ⟨by rw [HN.out]; rfl, rfl⟩
    · obtain rfl : k = n := by omega
      have HN := hid (show M.blank zs = true by have := HJ.out; rwa [List.take_of_length_le (Nat.le_of_eq HL.out)] at this)
      have d1 : decide (k < k) = false := by simp
      clear hlt
      go_wp2
      go_ret
      exact ⟨by rw [HN.out]; rfl, rfl⟩

/-- Two rows of two kinds lie apart. -/
theorem own_apart {w : World} {b b' : Nat} {v u : Value} {l : List M.Pt} {zs : List Int} (h1 : OwnP w b v l) (h2 : OwnY w b' u zs) : v.ownBlock = none ∨ v.ownBlock ≠ u.ownBlock := by
  rcases h1.2 with ⟨rfl, _⟩ | ⟨g, cap, cur, rfl, _, hh, _⟩
  · exact .inl rfl
  · right
    intro e
    rcases h2.2 with ⟨rfl, _⟩ | ⟨g', cap', cur', rfl, _, hh', _⟩
    · cases e
    · have hg : g = g' := by injection e
      subst hg
      rw [hh] at hh'
      injection hh' with hh'
      injection hh' with _ ht
      exact absurd ht (by decide)
theorem pcells_set_last (acc : List M.Pt) (p q x : Int) : (pcells (acc ++ [(p, q)])).set (acc.length * 2 + 1) (.int .i64 x) = pcells (acc ++ [(p, x)]) := by
  rw [pcells_app, pcells_app, List.set_append_right _ _ (by rw [pcells_len]; omega), pcells_len, show acc.length * 2 + 1 - acc.length * 2 = 1 by omega]
  rfl
/-- The last part's Len is stored anew. -/
theorem OwnP.last {w : World} {base g n c : Nat} {acc : List M.Pt} {p q : Int} (h : OwnP w base (.slice (some ⟨g, 0, none⟩) n c) (acc ++ [(p, q)])) (x : Int) :
    OwnP (w.setCell ⟨g, acc.length * 2 + 1, none⟩ (.int .i64 x)) base (.slice (some ⟨g, 0, none⟩) n c) (acc ++ [(p, x)]) ∧ w.grownBy (w.setCell ⟨g, acc.length * 2 + 1, none⟩ (.int .i64 x)) (some g) := by
  have hn : n = acc.length + 1 := by
    rcases h.2 with ⟨h', _⟩ | ⟨g', cap', cur, h', _⟩
    · cases h'
    · injection h' with _ h' _; rw [h', List.length_append]; rfl
  subst hn
  have h2 : w.ownsRow base 29 2 (.slice (some ⟨g, 0, none⟩) (acc.length + 1) c) (acc.length + 1) (pcells (acc ++ [(p, q)])) := by
    have := h
    unfold OwnP at this
    rwa [List.length_append, List.length_singleton] at this
  have h' := World.ownsRow.stored h2 (acc.length * 2 + 1) (.int .i64 x)
  refine ⟨?_, h'.2⟩
  unfold OwnP
  rw [List.length_append, List.length_singleton, ← pcells_set_last acc p q x]
  exact h'.1
theorem OwnP.lastCell {w : World} {base g n c : Nat} {acc : List M.Pt} {p q : Int} (h : OwnP w base (.slice (some ⟨g, 0, none⟩) n c) (acc ++ [(p, q)])) :
    w.cell? ⟨g, acc.length * 2 + 1, none⟩ = some (.int .i64 q) ∧ w.frozen? ⟨g, acc.length * 2 + 1, none⟩ = false := by
  have hn : n = acc.length + 1 := by
    rcases h.2 with ⟨h', _⟩ | ⟨g', cap', cur, h', _⟩
    · cases h'
    · injection h' with _ h' _; rw [h', List.length_append]; rfl
  subst hn
  have h2 : w.ownsRow base 29 2 (.slice (some ⟨g, 0, none⟩) (acc.length + 1) c) (acc.length + 1) (pcells (acc ++ [(p, q)])) := by
    have := h
    unfold OwnP at this
    rwa [List.length_append, List.length_singleton] at this
  refine ⟨?_, World.ownsRow.frozenAt h2 _⟩
  rw [World.ownsRow.cellAt h2 _ (by omega), pcells_app, List.getElem?_append_right (by rw [pcells_len]; omega), pcells_len, show acc.length * 2 + 1 - acc.length * 2 = 1 by omega]
  rfl
namespace M
theorem had_app (b : List Int) (l m : List Pt) : had b (l ++ m) = had b l ++ had b m := by simp [had]
theorem had_one (b : List Int) (f q : Nat) : had b [((f : Int), (q : Int))] = (b.drop f).take q := by simp [had]
theorem had_grow {b : List Int} {f a m : Nat} (h : f ≤ a) (acc : List Pt) : had b (acc ++ [((f : Int), ((a + m - f : Nat) : Int))]) = had b (acc ++ [((f : Int), ((a - f : Nat) : Int))]) ++ (b.drop a).take m := by
  rw [had_app, had_app, had_one, had_one, List.append_assoc]
  congr 1
  rw [show a + m - f = (a - f) + m by omega, List.take_add, List.drop_drop, show f + (a - f) = a by omega]
end M

set_option maxRecDepth 100000 in
set_option maxHeartbeats 4000000 in
theorem refPack_any (A : Option Addr) (n c : Nat) (zs : List Int) (w : World) (hr : Rd w w.heap.size A n zs) (hn : n ≤ 20000) (hc : n ≤ c) :
    Calls Tryd.prog 33 #[.slice A n c] w (PackTo zs w) := by
  have HL := hid hr.len
  have HR := hid (fun (W : World) (hW : Below w.heap.size w W) => hr.below hW)
  clear hr
  go_enter Tryd.func33, Tryd.ntmps33
  go_wp2
  go_loopw [4, 5, 6, 7] (fun lv dv bv av wr => ∃ (a f : Nat) (acc L : List M.Pt) (D : List Int), av = .int .i64 a ∧ a ≤ n + 511 ∧ bv = .bool (decide (f < min a n)) ∧ f ≤ a ∧ (a ≤ n ∨ f < n ∨ a ≤ f) ∧ Hid (L = acc ++ M.rowEnd f (min a n)) ∧ Hid (D = M.had zs L) ∧ Hid (M.rows zs = acc ++ M.rowsAt zs f a) ∧ acc.length ≤ a ∧ D.length ≤ a ∧ Hid (OwnP wr w.heap.size lv L) ∧ Hid (OwnY wr w.heap.size dv D) ∧ Hid (Below w.heap.size w wr)) (fun _ _ _ av _ => n + 512 - (RowKit.intOf av).toNat)
  case atStart => exact ⟨0, 0, [], [], [], rfl, Nat.zero_le _, by simp, Nat.le_refl _, .inl (Nat.zero_le _), hid (by simp [M.rowEnd]), hid rfl, hid (by simp [M.rows]), Nat.le_refl _, Nat.le_refl _, hid (OwnP.nil _ _), hid (OwnY.nil _ _), hid (Below.refl _ _)⟩
  case round =>
    obtain ⟨a, f, acc, L, D, rfl, ha, rfl, hfa, hor, HLE, HDE, HM, hal, hdl, HO, HD, HB⟩ := hrel
    obtain ⟨A1, c1, hv1, _, _⟩ := HO.out.rd
    subst hv1
    obtain ⟨A2, c2, hv2, _, _⟩ := own_room HD.out
    subst hv2
    have hbs := HB.out.size
    by_cases hlt : a < n
    · have hma : min a n = a := Nat.min_eq_left (by omega)
      rw [hma] at HLE ⊢
      obtain ⟨m, hm⟩ : ∃ m, m = min 512 (n - a) := ⟨_, rfl⟩
      have hx : ((zs.drop a).take 512).length = m := by rw [List.length_take, List.length_drop, HL.out]; omega
      have HX := hid hx
      have htk : (zs.drop a).take m = (zs.drop a).take 512 := by
        rw [hm, ← List.take_take, List.take_of_length_le (show (zs.drop a).length ≤ n - a by rw [List.length_drop, HL.out]; exact Nat.le_refl _)]
      have HTK := hid htk
      have HRx := hid (show Rd wr w.heap.size (cutA A c a) m ((zs.drop a).take 512) by
        have h1 := ((HR.out wr HB.out).cut (k := a) (by omega) hc).front (k := m) (by omega)
        rwa [htk] at h1)
      have HLT := hid (show a < zs.length by rw [HL.out]; exact hlt)
      have d1 : decide (a < n) = true := by rw [decide_eq_true_eq]; exact hlt
      have HEM := hid (empty_any (cutA A c a) m (c - a) ((zs.drop a).take 512) wr w.heap.size HRx.out (by omega))
      have hmb : m ≤ 512 ∧ a + m = min (a + 512) n ∧ 0 < m := by omega
      obtain ⟨hmb, hmn, hm0⟩ := hmb
      have i0 : (0 : Int) ≤ (a : Int) := by omega
      have HSM := hid (fun (hb : M.blank ((zs.drop a).take 512) = false) => show M.rows zs = acc ++ M.rowsAt zs f (a + 512) by rw [HM.out, M.rowsAt_some HLT.out hb])
      have HBL := hid (fun (hb : M.blank ((zs.drop a).take 512) = true) => show M.rows zs = (acc ++ M.rowEnd f a) ++ M.rowsAt zs (a + 512) (a + 512) by rw [HM.out, M.rowsAt_blank HLT.out hb, List.append_assoc])
      have HTK2 := hid (show (zs.drop a).take m = (zs.drop a).take 512 from HTK.out)
      have HMM := hid hmn
      by_cases h5 : n < a + 512
      case' pos =>
        have i1 : (a : Int) ≤ (n : Int) := by omega
        have i2 : (n : Int) ≤ (c : Int) := by omega
        have i3 : n - a = m := by omega
        have i4 : (n : Int) < (a : Int) + 512 := by omega
      case' neg =>
        have i1 : (a : Int) ≤ (a : Int) + 512 := by omega
        have i2 : (a : Int) + 512 ≤ (c : Int) := by omega
        have i5 : ((a : Int) + 512).toNat = a + 512 := by omega
        have i3 : a + 512 - a = m := by omega
        have i4 : ¬ (n : Int) < (a : Int) + 512 := by omega
      all_goals
        generalize hxx : (zs.drop a).take 512 = x at *
        clear hx htk hma hm HTK hxx
        go_wp2_with fail
        (with_reducible refine HEM.out.mono ?_)
        rintro e w2 ⟨rfl, hw2⟩
        subst hw2
        clear i0 i1 i2 i3 i4 HEM
        cases hb : M.blank x with
        | true =>
          have HBL2 := hid (HBL.out hb)
          clear hb
          go_wp2
          go_roundw
          case rel => exact ⟨a + 512, a + 512, acc ++ M.rowEnd f a, L, D, by go_num, by omega, congrArg Value.bool (decide_eq_false (by omega)).symm, Nat.le_refl _, by omega, hid (by rw [HLE.out, M.rowEnd_none (show min (a + 512) n ≤ a + 512 by omega), List.append_nil]), HDE, HBL2, by have := M.rowEnd_len f a; rw [List.length_append]; omega, by omega, HO, HD, HB⟩
          case measure => simp [RowKit.intOf] <;> omega
        | false =>
          have HSM2 := hid (HSM.out hb)
          clear hb HSM HBL
          by_cases hfo : f < a
          · have hLe := HLE.out
            rw [M.rowEnd_some hfo] at hLe
            subst hLe
            have HDL := hid (show D = M.had zs (acc ++ [((f : Int), ((a - f : Nat) : Int))]) from HDE.out)
            obtain ⟨g, cc, hvg, _, _⟩ := World.ownsRow.form HO.out (by rw [List.length_append]; simp)
            rw [List.length_append, List.length_singleton] at hvg ⊢
            injection hvg with q1 q2 q3
            subst q1 q3
            have ho := HO.out
            rw [List.length_append, List.length_singleton] at ho
            have HO3 := hid ho
            have HD3 := hid HD.out
            have HB3 := hid HB.out
            have HRx3 := hid HRx.out
            have d2 : decide (f < a) = true := by rw [decide_eq_true_eq]; exact hfo
            clear HLE HDE HO HD HB HRx ho hfo
            obtain ⟨lc0, lf0⟩ := HO3.out.lastCell
            obtain ⟨ho4, hg4⟩ := HO3.out.last (((a - f : Nat) : Int) + (m : Int))
            have hap := own_apart HO3.out HD3.out
            have hd4 := OwnY.grown HD3.out hg4 (by
              rcases hap with h | h
              · cases h
              · cases hu : (Value.slice A2 D.length c2).ownBlock with
                | none => exact .inl rfl
                | some k => exact .inr (fun e => h (by rw [hu, e]; rfl)))
            have hgb : w.heap.size ≤ g := (World.ownsRow.lt HO3.out g rfl).1
            have hb4 := HB3.out.setCell (p := ⟨g, acc.length * 2 + 1, none⟩) hgb (.int .i64 (((a - f : Nat) : Int) + (m : Int)))
            have hrx4 := HRx3.out.setCell (p := ⟨g, acc.length * 2 + 1, none⟩) hgb (.int .i64 (((a - f : Nat) : Int) + (m : Int)))
            have hap4 := own_apart ho4 hd4
            have HO4 := hid ho4
            have HD4 := hid hd4
            have HB4 := hid hb4
            have HRx4 := hid hrx4
            have HAP := hid hap4
            have HLN := hid HX.out
            obtain ⟨q0, hq0⟩ : ∃ q0 : Nat, q0 = a - f := ⟨_, rfl⟩
            have hqb : q0 ≤ 20000 := by omega
            rw [← hq0] at lc0 HO4 HD4 HB4 HRx4
            have HQ0 := hid hq0
            generalize hk0 : acc.length = k0 at *
            have HK0 := hid hk0
            clear ho4 hg4 hap hd4 hb4 hrx4 hap4 HO3 HD3 HB3 HRx3 hq0 hk0
            have hdl4 : D.length ≤ 30000 := by omega
            have hbs4 := HB4.out.size
            go_wp2_with (refine wpList_app_bytes rfl (.tmp 44) (.tmp 45) rfl w.heap.size (.slice A2 D.length c2) D (by simp [Act.eval]) HD4.out w.heap.size (cutA A c a) m (c - a) x (by simp [Act.eval]) HRx4.out (by omega) hbs4 ?_; intro v9 w9 ho9 hg9 _)
            have HO9 := hid (OwnP.grown HO4.out hg9 (by
              rcases HAP.out with h | h
              · cases h
              · exact .inr h))
            have HB9 := hid (below_grown HB4.out hg9 hbs4 (fun g hg => (World.ownsRow.lt HD4.out g hg).1))
            have HRE := hid (show M.rowEnd f (min (a + 512) n) = [((f : Int), ((a + m - f : Nat) : Int))] by rw [← hmn]; exact M.rowEnd_some (by omega))
            have HCF := hid (show ((q0 : Nat) : Int) + (m : Int) = ((a + m - f : Nat) : Int) by have := HQ0.out; omega)
            go_roundw
            case rel => exact ⟨a + 512, f, acc, acc ++ [((f : Int), ((a + m - f : Nat) : Int))], D ++ x, by go_num, by omega, congrArg Value.bool (by rw [← hmn]; exact (decide_eq_true (by omega)).symm), by omega, by omega, hid (by rw [HRE.out]), hid (by rw [M.had_grow (show f ≤ a by omega) acc, ← HDL.out, HTK2.out]), HSM2, by rw [HK0.out]; omega, by rw [List.length_append, HLN.out]; omega, hid (by rw [← HCF.out]; exact HO9.out), hid ho9, HB9⟩
            case measure => simp [RowKit.intOf] <;> omega
          · obtain rfl : f = a := by omega
            have hLe := HLE.out
            rw [M.rowEnd_none (Nat.le_refl _), List.append_nil] at hLe
            subst hLe
            have HDL := hid (show D = M.had zs (L ++ [((f : Int), ((f - f : Nat) : Int))]) by
              rw [HDE.out, M.had_app, M.had_one, Nat.sub_self, List.take_zero, List.append_nil])
            have d2 : decide (f < f) = false := by simp
            have hll : L.length ≤ 1000000 := by omega
            go_wp2_with (refine wpList_appP rfl (.tmp 27) (.tmp 30) rfl w.heap.size _ L (f : Int) 0 (by simp [Act.eval]) HO.out hbs (by simp [Act.eval]) hll ?_; intro v7 w7 ho7 hb7 hg7; refine Hid.out ?_)
            refine Lib.hid ?_
            obtain ⟨g, cc, hvg, _, _⟩ := World.ownsRow.form ho7.out (by rw [List.length_append]; simp)
            have hD7 : OwnY w7 w.heap.size (.slice A2 D.length c2) D := OwnY.grown (World.ownsRow.alloc HD.out _) hg7.out (by
              have h := own_apart HO.out HD.out
              cases hu : (Value.slice A2 D.length c2).ownBlock with
              | none => exact .inl rfl
              | some k =>
                refine .inr (fun e => ?_)
                rcases h with h | h
                · rw [h] at e; cases e
                · exact h (by rw [hu, e]))
            rw [List.length_append, List.length_singleton] at hvg
            subst hvg
            have ho3 : OwnP w7 w.heap.size (.slice (some ⟨g, 0, none⟩) (L.length + 1) cc) (L ++ [((f : Int), ((f - f : Nat) : Int))]) := by rw [Nat.sub_self]; exact ho7.out
            have hb3 := HB.out.trans hb7.out
            have hrx3 : Rd w7 w.heap.size (cutA A c f) m x := HRx.out.below hb7.out
            have HO3 := hid ho3
            have HD3 := hid hD7
            have HB3 := hid hb3
            have HRx3 := hid hrx3
            clear HLE HDE HO HD HB HRx hfo ho7 hb7 hg7 hD7 ho3 hb3 hrx3
            obtain ⟨lc0, lf0⟩ := HO3.out.lastCell
            obtain ⟨ho4, hg4⟩ := HO3.out.last (((f - f : Nat) : Int) + (m : Int))
            have hap := own_apart HO3.out HD3.out
            have hd4 := OwnY.grown HD3.out hg4 (by
              rcases hap with h | h
              · cases h
              · cases hu : (Value.slice A2 D.length c2).ownBlock with
                | none => exact .inl rfl
                | some k => exact .inr (fun e => h (by rw [hu, e]; rfl)))
            have hgb : w.heap.size ≤ g := (World.ownsRow.lt HO3.out g rfl).1
            have hb4 := HB3.out.setCell (p := ⟨g, L.length * 2 + 1, none⟩) hgb (.int .i64 (((f - f : Nat) : Int) + (m : Int)))
            have hrx4 := HRx3.out.setCell (p := ⟨g, L.length * 2 + 1, none⟩) hgb (.int .i64 (((f - f : Nat) : Int) + (m : Int)))
            have hap4 := own_apart ho4 hd4
            have HO4 := hid ho4
            have HD4 := hid hd4
            have HB4 := hid hb4
            have HRx4 := hid hrx4
            have HAP := hid hap4
            have HLN := hid HX.out
            obtain ⟨q0, hq0⟩ : ∃ q0 : Nat, q0 = f - f := ⟨_, rfl⟩
            have hqb : q0 ≤ 20000 := by omega
            rw [← hq0] at lc0 HO4 HD4 HB4 HRx4
            have HQ0 := hid hq0
            generalize hk0 : L.length = k0 at *
            have HK0 := hid hk0
            clear ho4 hg4 hap hd4 hb4 hrx4 hap4 HO3 HD3 HB3 HRx3 hq0 hk0
            have hdl4 : D.length ≤ 30000 := by omega
            have hbs4 := HB4.out.size
            go_wp2_with (refine wpList_app_bytes rfl (.tmp 44) (.tmp 45) rfl w.heap.size (.slice A2 D.length c2) D (by simp [Act.eval]) HD4.out w.heap.size (cutA A c f) m (c - f) x (by simp [Act.eval]) HRx4.out (by omega) hbs4 ?_; intro v9 w9 ho9 hg9 _)
            have HO9 := hid (OwnP.grown HO4.out hg9 (by
              rcases HAP.out with h | h
              · cases h
              · exact .inr h))
            have HB9 := hid (below_grown HB4.out hg9 hbs4 (fun g hg => (World.ownsRow.lt HD4.out g hg).1))
            have HRE := hid (show M.rowEnd f (min (f + 512) n) = [((f : Int), ((f + m - f : Nat) : Int))] by rw [← hmn]; exact M.rowEnd_some (by omega))
            have HCF := hid (show ((q0 : Nat) : Int) + (m : Int) = ((f + m - f : Nat) : Int) by have := HQ0.out; omega)
            go_roundw
            case rel => exact ⟨f + 512, f, L, L ++ [((f : Int), ((f + m - f : Nat) : Int))], D ++ x, by go_num, by omega, congrArg Value.bool (by rw [← hmn]; exact (decide_eq_true (by omega)).symm), by omega, by omega, hid (by rw [HRE.out]), hid (by rw [M.had_grow (show f ≤ f by omega) L, ← HDL.out, HTK2.out]), HSM2, by rw [HK0.out]; omega, by rw [List.length_append, HLN.out]; omega, hid (by rw [← HCF.out]; exact HO9.out), hid ho9, HB9⟩
            case measure => simp [RowKit.intOf] <;> omega
    · have hcur : min a n = n := Nat.min_eq_right (by omega)
      have HE := hid (show M.rows zs = L by rw [HM.out, M.rowsAt_end (by rw [HL.out]; exact hlt), HL.out, HLE.out, hcur])
      have d1 : decide (a < n) = false := by rw [decide_eq_false_iff_not]; exact hlt
      clear hlt
      go_wp2
      go_ret2
      exact ⟨_, _, rfl, by rw [HE.out]; exact HO.out, by rw [HE.out, ← HDE.out]; exact HD.out, HB.out⟩
end Go.Proofs.YtjpflljmeaihgaaDoor
