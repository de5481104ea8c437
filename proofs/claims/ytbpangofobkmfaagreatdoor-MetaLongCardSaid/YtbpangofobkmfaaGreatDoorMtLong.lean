/-
  Names of any length up to 4096 are told and known again.
-/
import Derived.Test.YtbpangofobkmfaaGreatDoorKS
import Derived.Test.YtbpangofobkmfaaGreatDoorMtKeys
import Derived.Deep.CutRange
import Derived.Test.YtbpangofobkmfaaGreatDoorMtFin
import Derived.Test.YtbpangofobkmfaaGreatDoorMtWhat
import Derived.Test.YtbpangofobkmfaaGreatDoorMtBox
import Derived.Test.YtbpangofobkmfaaGreatDoorMtKnown
import Derived.IntWalk
set_option linter.unusedVariables false
set_option linter.unusedSimpArgs false
/-! The bytes of a long name. -/
namespace Go.Proofs.YtbpangofobkmfaaGreatDoor
open Go.RowKit Go.Lib
open Px (R2 tl)
attribute [local go_sem ↓] add_plain

/-- The bytes of a long name. -/
structure NameIs (zs : List Int) (q k : Nat) : Prop where
  len : zs.length = k
  bd : ∀ z ∈ zs, 0 ≤ z ∧ z ≤ 255
  front : ∀ j z, j < q → zs[j]? = some z → 1 ≤ z ∧ (z = 47 → j + 1 < k)
theorem NameIs.zeros (k : Nat) : NameIs (List.replicate k 0) 0 k := ⟨by simp, fun z hz => by rw [List.eq_of_mem_replicate hz]; decide, fun j z hj => absurd hj (Nat.not_lt_zero j)⟩
theorem NameIs.put {zs : List Int} {q k : Nat} (h : NameIs zs q k) (hq : q < k) {z : Int} (h0 : 1 ≤ z) (h1 : z ≤ 255) (h2 : z = 47 → q + 1 < k) : NameIs (zs.set q z) (q + 1) k where
  len := by rw [List.length_set]; exact h.len
  bd := fun x hx => by
    rcases List.mem_or_eq_of_mem_set hx with h3 | h3
    · exact h.bd x h3
    · subst h3; omega
  front := fun j x hj hx => by
    rw [List.getElem?_set] at hx
    by_cases e : q = j
    · subst e
      rw [if_pos rfl, if_pos (by rw [h.len]; exact hq), Option.some.injEq] at hx
      subst hx
      exact ⟨h0, h2⟩
    · rw [if_neg e] at hx
      exact h.front j x (by omega) hx
theorem NameIs.noNul {zs : List Int} {k : Nat} (h : NameIs zs k k) : M.noNul (tl (Sp.strOf zs)) = true := by
  unfold M.noNul
  rw [show tl (Sp.strOf zs) = Sp.tl (Sp.strOf zs) from rfl, Sp.tl_strOf, List.all_eq_true]
  intro c hc
  obtain ⟨z, hz, rfl⟩ := List.mem_map.1 hc
  obtain ⟨j, hj, rfl⟩ := List.getElem_of_mem hz
  have h1 := (h.front j _ (by rw [h.len] at hj; exact hj) (List.getElem?_eq_getElem hj)).1
  have h2 := h.bd _ hz
  rw [Bool.not_eq_true', beq_eq_false_iff_ne]
  intro e
  have e2 := congrArg UInt8.toNat e
  rw [UInt8.toNat_ofNat'] at e2
  simp at e2
  omega
theorem NameIs.slash {zs : List Int} {k : Nat} (h : NameIs zs k k) : M.slash (tl (Sp.strOf zs)) = false := by
  unfold M.slash
  rw [show tl (Sp.strOf zs) = Sp.tl (Sp.strOf zs) from rfl, Sp.tl_strOf, beq_eq_false_iff_ne, List.getLast?_eq_getElem?, List.length_map, List.getElem?_map]
  intro e
  obtain ⟨z, hz, he⟩ := Option.map_eq_some_iff.1 e
  have hl := (List.getElem?_eq_some_iff.1 hz).1
  have hf := h.front (zs.length - 1) z (by rw [← h.len]; omega) hz
  have hb := h.bd z (List.mem_of_getElem? hz)
  have e2 := congrArg UInt8.toNat he
  rw [UInt8.toNat_ofNat'] at e2
  have h47 : z = 47 := by
    have : z.toNat % 256 = 47 := e2
    omega
  have := hf.2 h47
  rw [h.len] at this
  omega
theorem NameIs.size {zs : List Int} {q k : Nat} (h : NameIs zs q k) : (Sp.strOf zs).size = k := by
  have e : (tl (Sp.strOf zs)).length = k := by
    rw [show tl (Sp.strOf zs) = Sp.tl (Sp.strOf zs) from rfl, Sp.tl_strOf, List.length_map, h.len]
  exact e
end Go.Proofs.YtbpangofobkmfaaGreatDoor

/-! A file of a name alone, told: how long the name may be. No program. -/
namespace Go.Proofs.YtbpangofobkmfaaGreatDoor
open Go.RowKit Go.Lib
open Px (R2 tl)

theorem named_bad {s : ByteArray} (h : s.size = 0 ∨ 4096 < s.size) : M.toE (M.named s) = 33 := by
  have h1 : M.within (s.size : Int) 1 4096 = false := by
    unfold M.within
    rcases h with h | h
    · rw [h]; rfl
    · have : decide ((s.size : Int) ≤ 4096) = false := by rw [decide_eq_false_iff_not]; omega
      rw [this, Bool.and_false]
  have h2 : M.hasTexts (M.named s) = false := by
    unfold M.hasTexts M.isText M.named
    simp only
    rw [h1]
    simp
  have hw : M.wrong (M.named s) = 33 := by
    unfold M.wrong
    rw [if_neg (by show ¬ M.within 48 48 54 = false; decide), if_pos h2]
  unfold M.toE
  rw [hw, if_pos (by decide)]
theorem named_fit {s : ByteArray} (h : s.size ≤ 1000000) : Fit1 (M.named s) where
  kind := (by decide : (0 : Int) ≤ 48 ∧ (48 : Int) ≤ 255)
  name := h
  link := Nat.zero_le _
  user := Nat.zero_le _
  group := Nat.zero_le _
  mode := isI64_0
  uid := isI64_0
  gid := isI64_0
  sec := isI64_0
  nan := isI64_0
  major := isI64_0
  minor := isI64_0
  sz := isI64_0
  real := isI64_0
theorem named_toR {s : ByteArray} (h1 : 1 ≤ s.size) (he : M.toE (M.named s) = 0) : (M.toR (M.named s)).length = if (M.split s).2.2 = true then 0 else 1 := by
  unfold M.toR
  rw [if_pos he, M.named_recs h1]
  split <;> rfl
end Go.Proofs.YtbpangofobkmfaaGreatDoor

/-! Names of any length up to 4096 are told and known again. -/
namespace Go.Proofs.YtbpangofobkmfaaGreatDoor
open Go.RowKit Go.Lib
open Px (R2 tl)
attribute [local go_sem ↓] add_plain

theorem made_zeros (n : Nat) : madeCells #[Value.int .u8 0] n = (Sp.bcells (List.replicate n 0)).toArray := by
  apply Array.ext
  · simp [madeCells, Sp.bcells]
  · intro i h1 h2
    simp [madeCells, Sp.bcells, Nat.mod_one]
theorem run_makeB (n : Nat) (hn : n ≤ 1000000000) (w : World) : (Instr.makeSlice 23 (.int .i64 (n : Int)) (.int .i64 (n : Int))).run Tryz.prog w = .ok (.slice (some ⟨w.heap.size, 0, none⟩) n n) (w.alloc (.cells (Sp.bcells (List.replicate n 0)).toArray 5)) := by
  have h := run_make_row' (P := Tryz.prog) 23 5 (.int .u8 0) 1 Tryz.underlying23 Sp.u8_parts rfl .i64 .i64 n (by omega) (by omega) w
  rw [made_zeros] at h
  exact h
/-- A block of bytes. -/
def ByB (w : World) (g : Nat) (zs : List Int) : Prop := w.heap[g]? = some (.cells (Sp.bcells zs).toArray 5 (0, 0))
theorem ByB.set {w : World} {g q : Nat} {zs : List Int} (h : ByB w g zs) (z : Int) : ByB (w.setCell ⟨g, q, none⟩ (.int .u8 z)) g (zs.set q z) := by
  unfold ByB
  rw [heap_setCell_same w g q _ _ _ h]
  simp [Sp.bcells, List.map_set]
theorem ByB.cell {w : World} {g q : Nat} {zs : List Int} (h : ByB w g zs) {z : Int} (hz : zs[q]? = some z) : w.cell? ⟨g, q, none⟩ = some (.int .u8 z) := by
  rw [cell_of_row w g q _ _ _ h]
  simp [Sp.bcells, hz]
theorem ByB.rd {w : World} {g : Nat} {zs : List Int} (h : ByB w g zs) (hz : ∀ z ∈ zs, 0 ≤ z ∧ z ≤ 255) : Sp.Rd w w.heap.size (some ⟨g, 0, none⟩) zs.length zs :=
  ⟨rfl, hz, fun _ => ⟨g, 0, rfl, (Array.getElem?_eq_some_iff.1 h).1, fun j z hj => by rw [Nat.zero_add]; exact h.cell hj⟩⟩

set_option maxRecDepth 100000 in
set_option maxHeartbeats 8000000 in
theorem metaLong_any (a0 a1 : Int) (B : Nat) (w : World) (h0 : 0 ≤ a0 ∧ a0 ≤ 65535) (h1 : 0 ≤ a1 ∧ a1 ≤ 255) (hB : B ≤ w.heap.size) (ht : Sp.EV B w) :
    Calls Tryz.prog 3 #[.int .u16 a0, .int .u8 a1] w fun e w' => e = .returned (.bool true) ∧ Below w.heap.size w w' := by
  have HT := hid (fun (V : World) (hV : Below w.heap.size w V) => And.intro (Nat.le_trans hB hV.size) (ht.on (hV.mono hB)))
  clear ht hB
  obtain ⟨h00, h01⟩ := h0
  obtain ⟨h10, h11⟩ := h1
  obtain ⟨k, hk⟩ : ∃ k : Nat, a0.tmod 4200 = k := ⟨(a0 % 4200).toNat, by rw [Int.tmod_eq_emod_of_nonneg h00]; omega⟩
  have hk2 : k < 4200 := by rw [Int.tmod_eq_emod_of_nonneg h00] at hk; omega
  have hmk := run_makeB k (by omega)
  go_enter Tryz.func3, Tryz.ntmps3
  go_upto_region 4 with fail
  have hk0 : ¬ (k = 0 ∧ False) := fun h => h.2
  clear hk0 hk hmk
  have B0 := hid (heap_alloc_new w (.cells (Sp.bcells (List.replicate k 0)).toArray 5))
  have hb0 := hid ((Below.refl w.heap.size w).alloc (Nat.le_refl _) (.cells (Sp.bcells (List.replicate k 0)).toArray 5))
  generalize World.alloc w _ = w0 at *
  go_wp2_with fail
  go_loopw [8] (fun iv wr => ∃ (q : Nat) (zs : List Int), iv = .int .i64 q ∧ q ≤ k ∧ Hid (NameIs zs q k) ∧ Hid (ByB wr w.heap.size zs) ∧ Hid (Below w.heap.size w wr)) (fun iv _ => k - (intOf iv).toNat)
  case atStart => exact ⟨0, _, rfl, Nat.zero_le _, hid (NameIs.zeros k), B0, hb0⟩
  case round =>
    clear B0 hb0
    obtain ⟨q, zs, rfl, hq, HN, HZ, HW⟩ := hrel
    by_cases hlt : q < k
    · have hql : q < zs.length := by rw [HN.out.len]; exact hlt
      obtain ⟨z0, hz0⟩ : ∃ z, zs[q]? = some z := ⟨_, List.getElem?_eq_getElem hql⟩
      have c0 := HZ.out.cell hz0
      have f0 := frozen_of_row wr w.heap.size q _ _ HZ.out
      have e7 : (q : Int).tmod 7 = ((q % 7 : Nat) : Int) := by rw [Int.tmod_eq_emod_of_nonneg (by omega)]; omega
      have hn1 := IntWalk.i64_in ((q : Int) + 1) (by omega)
      clear hz0 hql
      go_upto_region 8 with fail
      have hs : (q % 7 : Nat) < 7 := Nat.mod_lt _ (by decide)
      go_cut [51] from 34 to 51 (fun v wx => ∃ c : Bool, v = .bool c ∧ (c = true → q + 1 < k) ∧ wx = wr.setCell ⟨w.heap.size, q, none⟩ (.int .u8 (97 + ((q % 7 : Nat) : Int))))
      case first =>
        go_wp2_with fail
        all_goals
          go_meet
          case rel => exact ⟨_, rfl, fun h => by first | (have h2 := of_decide_eq_true h; omega) | (exact absurd h (by decide)), rfl⟩
      obtain ⟨c, rfl, hc, rfl⟩ := hcut
      have HZ1 := hid (HZ.out.set (q := q) (97 + ((q % 7 : Nat) : Int)))
      have HW1 := hid (HW.out.setCell (p := ⟨w.heap.size, q, none⟩) (Nat.le_refl _) (.int .u8 (97 + ((q % 7 : Nat) : Int))))
      have hl1 : (zs.set q (97 + ((q % 7 : Nat) : Int)))[q]? = some (97 + ((q % 7 : Nat) : Int)) := by rw [List.getElem?_set, if_pos rfl, if_pos (by rw [HN.out.len]; exact hlt)]
      have HL1 := hid hl1
      have HQ := hid hlt
      clear hl1 c0 f0 HZ HW
      generalize World.setCell wr _ _ = V1 at *
      cases c with
      | true =>
        have hc2 := hc rfl
        have HN1 := hid (show NameIs ((zs.set q (97 + ((q % 7 : Nat) : Int))).set q 47) (q + 1) k from by
          rw [List.set_set]
          exact HN.out.put HQ.out (by decide) (by decide) (fun _ => hc2))
        have c1 := HZ1.out.cell HL1.out
        have f1 := frozen_of_row V1 w.heap.size q _ _ HZ1.out
        have HZ2 := hid (HZ1.out.set (q := q) 47)
        have HW2 := hid (HW1.out.setCell (p := ⟨w.heap.size, q, none⟩) (Nat.le_refl _) (.int .u8 47))
        clear hc hc2 HN
        go_wp2_with fail
        go_roundw
        case rel => exact ⟨q + 1, _, by go_num, by omega, HN1, HZ2, HW2⟩
        case measure => simp [intOf]; omega
      | false =>
        have HN1 := hid (HN.out.put HQ.out (z := 97 + ((q % 7 : Nat) : Int)) (by omega) (by omega) (fun h => by omega))
        clear hc HN
        go_wp2_with fail
        go_roundw
        case rel => exact ⟨q + 1, _, by go_num, by omega, HN1, HZ1, HW1⟩
        case measure => simp [intOf]; omega
    · obtain rfl : q = k := by omega
      clear hlt
      have hl := HN.out.len
      have cv := Sp.run_str (HZ.out.rd HN.out.bd) q
      rw [hl] at cv
      go_upto_region 11 with fail
      have HS := hid HN.out.size
      have HNN := hid HN.out.noNul
      have HSL := hid HN.out.slash
      clear cv hl HN HZ hq
      generalize Sp.strOf zs = s at *
      have hsz : s.size ≤ 1000000 := by rw [HS.out]; omega
      have HSZ := hid hsz
      have HTO := hid (to_any (M.named s) (.slice none 0 0) (.slice none 0 0) B wr (min_plain (named_fit hsz) rfl rfl) (HT.out _ HW.out).1 (HT.out _ HW.out).2)
      clear hsz
      go_wp2_with fail
      refine HTO.out.mono ?_
      rintro e w1 ⟨A, c, rfl, hr1, hc1, hb1⟩
      have HB1 := hid (HW.out.trans (hb1.mono HW.out.size))
      have HFI := hid (fun (W : World) (hW : Below w1.heap.size w1 W) => fin_to (w := W) (m := M.named s) (by intro r hr; cases hr) ((hr1.below hW).more hW.size))
      clear HTO hr1 hc1 hb1 HW
      go_upto_region 12 with (refine wpList_store_row rfl 26 (.tmp 9) (.tmp 61) rfl w1.heap.size (hcells (M.toH (M.named s)) (.slice none 0 0)) (by simp [Act.eval]) (by simp [Act.eval]) 26 (hcells {} (.slice none 0 0)) (heap_alloc_new w1 _) hdr_size rfl (hcells_one _ rfl) ?_; rw [World.setRow_alloc_new])
      have hb2 := (Below.refl w1.heap.size w1).alloc (Nat.le_refl _) (.cells (hcells (M.toH (M.named s)) (.slice none 0 0)) 26)
      have HH2 := hid (HB.new w1 (M.toH (M.named s)) (.slice none 0 0))
      have hs2 : w1.heap.size < (w1.alloc (.cells (hcells (M.toH (M.named s)) (.slice none 0 0)) 26)).heap.size := by rw [World.size_alloc]; omega
      have HFI2 := hid (HFI.out _ hb2)
      have HB2 := hid (HB1.out.trans (hb2.mono HB1.out.size))
      clear HFI HB1 hb2
      generalize World.alloc w1 _ = w2 at *
      by_cases hbad : q = 0 ∨ 4096 < q
      · rw [named_bad (by rw [HS.out]; exact hbad)]
        have HBAD := hid hbad
        clear hbad
        rcases HBAD.out with h0 | h0
        case' inl =>
          have d0 : ((q : Int) == 0) = true := by rw [beq_iff_eq]; omega
        case' inr =>
          have d0 : ((q : Int) == 0) = false := by rw [beq_eq_false_iff_ne]; omega
          have d1 : decide ((q : Int) > 4096) = true := by rw [decide_eq_true_eq]; omega
        all_goals
          clear h0
          go_wp2_with fail
          refine (known_any B w2 (HT.out _ HB2.out).1 (HT.out _ HB2.out).2).mono ?_
          rintro e w3 ⟨rfl, hb3⟩
          have HB3 := hid (HB2.out.trans (hb3.mono HB2.out.size))
          clear hb3
          go_wp2
          go_ret
          exact ⟨rfl, HB3.out⟩
      · have d0 : ((q : Int) == 0) = false := by rw [beq_eq_false_iff_ne]; omega
        have d1 : decide ((q : Int) > 4096) = false := by rw [decide_eq_false_iff_not]; omega
        have hE := M.named_toE (s := s) (by rw [HS.out]; omega) (by rw [HS.out]; omega) HNN.out HSL.out
        have HF := hid (from_any (M.toH (M.named s)) (.slice none 0 0) ((M.toR (M.named s)).map M.mk) [] [] [] A none none none c 0 0 0 B w2 HFI2.out (HT.out _ HB2.out).1 (HT.out _ HB2.out).2)
        unfold FromIs at HF
        rw [List.length_map, rcs_mk, (M.from_to hE).1, (M.from_to hE).2] at HF
        have HL := hid (named_toR (s := s) (by rw [HS.out]; omega) hE)
        have HRM := hid (M.split_room s)
        have HSP := hid (fun W => split_any s HSZ.out W)
        unfold splitV at HSP
        rw [hE]
        clear hE hbad HFI2
        generalize (M.toR (M.named s)).length = L at *
        generalize M.toH (M.named s) = H at *
        generalize (M.split s).1 = p1 at *
        generalize (M.split s).2.1 = p2 at *
        generalize (M.split s).2.2 = ok at *
        go_wp2_with (refine wpList_load_row rfl 26 (.tmp 9) rfl w1.heap.size (by rfl) 26 (hcells H (.slice none 0 0)) (0, 0) _ HH2.out Tryz.underlying26 rfl hdr_size ?_)
        refine HF.out.mono ?_
        rintro e w3 ⟨pv, ev, rfl, hmi, hb3⟩
        have HB3 := hid (HB2.out.trans (hb3.mono HB2.out.size))
        have hpv : pv.oneCell' = true := by
          obtain ⟨A2, c2, e, _⟩ := hmi.parts
          rw [e]; rfl
        have hev : ev.oneCell' = true := by
          obtain ⟨A2, c2, e, _⟩ := hmi.extra
          rw [e]; rfl
        have HP := hid (And.intro hpv hev)
        clear hpv hev hmi hb3 HF HB2 HH2 hs2
        go_upto_region 15 with (refine wpList_store_row rfl 34 (.tmp 12) (.tmp 79) rfl w3.heap.size (mcells (M.named s) pv ev) (by simp [Act.eval]) (by simp [Act.eval]) 34 (mcells {} (.slice none 0 0) (.slice none 0 0)) (heap_alloc_new w3 _) met_size rfl (mcells_one _ HP.out.1 HP.out.2) ?_; rw [World.setRow_alloc_new])
        have M4 := hid (MB.new w3 (M.named s) pv ev)
        have HB4 := hid (HB3.out.alloc HB3.out.size (.cells (mcells (M.named s) pv ev) 34))
        have hs4 : w3.heap.size < (w3.alloc (.cells (mcells (M.named s) pv ev) 34)).heap.size := by rw [World.size_alloc]; omega
        clear HB3
        generalize World.alloc w3 _ = w4 at *
        go_wp2_with fail
        refine (HSP.out _).mono ?_
        rintro e w5 ⟨rfl, hb5⟩
        have HB5 := hid (HB4.out.trans (hb5.mono HB4.out.size))
        have M5 := hid (M4.out.below hb5 hs4)
        have hs5 := hb5.size
        clear hb5 HB4 M4 HSP
        go_wp2_with fail
        refine (known_any B w5 (HT.out _ HB5.out).1 (HT.out _ HB5.out).2).mono ?_
        rintro e w6 ⟨rfl, hb6⟩
        have HB6 := hid (HB5.out.trans (hb6.mono HB5.out.size))
        have x0 := (M5.out.below hb6 (by omega)).cell (i := 0) (v := .string s) rfl
        have e1 : decide ((p2.size : Int) ≤ 100) = true := by rw [decide_eq_true_eq]; have := HRM.out.2; omega
        have e2 : decide ((p1.size : Int) ≤ 155) = true := by rw [decide_eq_true_eq]; have := HRM.out.1; omega
        have e3 : (((L : Int) == 0) == ok) = true := by
          rw [HL.out]
          cases ok <;> rfl
        have HE3 := hid e3
        clear hb6 M5 HB5 HL e3
        cases ok with
        | true =>
          have e4 : ((L : Int) == 0) = true := by have := HE3.out; simpa using this
          clear HE3
          go_wp2
          go_ret
          exact ⟨rfl, HB6.out⟩
        | false =>
          have e4 : ((L : Int) == 0) = false := by have := HE3.out; simpa using this
          clear HE3
          go_wp2
          go_ret
          exact ⟨rfl, HB6.out⟩
end Go.Proofs.YtbpangofobkmfaaGreatDoor
