/-
  Texts of one chapter, merged.
-/
import Derived.Test.YtgfihdfncddpaaaGreatDoorMtFrom
import Derived.Test.YtgfihdfncddpaaaGreatDoorMtWhat
import Derived.Test.YtgfihdfncddpaaaGreatDoorMtSplit
import Derived.Test.YtgfihdfncddpaaaGreatDoorMtKeys
import Derived.Deep.CutRange
import Derived.IntWalk
import Derived.Test.YtgfihdfncddpaaaGreatDoorMtExtra
import Derived.Test.YtgfihdfncddpaaaGreatDoorKX
import Derived.Test.YtgfihdfncddpaaaGreatDoorKS
import Derived.Test.YtgfihdfncddpaaaGreatDoorMtBox
import Derived.Laws.StructEq
import Derived.Test.YtgfihdfncddpaaaGreatDoorMtQuiet
import Derived.Test.YtgfihdfncddpaaaGreatDoorRows
import Derived.WalkKit
import Derived.ProofKit
import Derived.OpenShut
import Derived.ShutString
import Derived.ChangeOld
import Derived.ChangeSame
import Derived.LaidMore
import Derived.Lib.LaidTab
import Derived.MakeChecks
import Derived.Stop.LaidErr
import Derived.Test.YtgfihdfncddpaaaGreatDoorProg
import Derived.OrdersHeld
import Derived.Deep.CutBlock
import Derived.Test.YtgfihdfncddpaaaGreatDoorKhF
import Derived.Test.YtgfihdfncddpaaaGreatDoorMtFin
set_option linter.unusedVariables false
set_option linter.unusedSimpArgs false
namespace Go.Proofs.YtgfihdfncddpaaaGreatDoor
open Go.RowKit Go.Lib
open Px (R2 tl)
attribute [local go_sem ↓] add_plain
theorem ex_fit : Fit1 M.exM where
  kind := by decide
  name := by decide
  link := by decide
  user := by decide
  group := by decide
  mode := isI64_0
  uid := isI64_le (k := 3000000) (by decide) (by decide)
  gid := isI64_0
  sec := isI64_0
  nan := isI64_0
  major := isI64_0
  minor := isI64_0
  sz := isI64_0
  real := isI64_0
set_option maxRecDepth 100000 in
set_option maxHeartbeats 4000000 in
theorem known_any (B : Nat) (w : World) (hB : B ≤ w.heap.size) (ht : Sp.EV B w) : Calls Tryz.prog 7 #[] w fun e w' => e = .returned (.bool true) ∧ Below w.heap.size w w' := by
  have HT := hid (to_any M.exM (.slice none 0 0) (.slice none 0 0) B w (min_plain ex_fit rfl rfl) hB ht)
  have HEV := hid ht
  clear ht
  go_enter Tryz.func7, Tryz.ntmps7
  go_wp2_with fail
  refine HT.out.mono ?_
  rintro e w1 ⟨A, c, rfl, hr1, hc1, hb1⟩
  have HFI := hid (fun (W : World) (hW : Below w1.heap.size w1 W) => fin_to (w := W) (m := M.exM) (by intro r hr; cases hr) ((hr1.below hW).more hW.size))
  have HR1 := hid (show Px.RdR w1 w1.heap.size A [((⟨#[117, 105, 100]⟩, ⟨#[51, 48, 48, 48, 48, 48, 48]⟩) : R2)] from by rw [M.ex_head.2] at hr1; exact hr1)
  have HB1 := hid hb1
  have hl1 : (M.toR M.exM).length = 1 := by rw [M.ex_head.2]; rfl
  rw [hl1, M.ex_toE]
  clear HT hr1 hc1 hb1
  have HF := hid (fun (c : Nat) (W : World) (hW : Below w1.heap.size w1 W) => from_any (M.toH M.exM) (.slice none 0 0) ((M.toR M.exM).map M.mk) [] [] [] A none none none c 0 0 0 B W (HFI.out W hW) (Nat.le_trans hB (Nat.le_trans HB1.out.size hW.size)) (HEV.out.on ((HB1.out.trans (hW.mono HB1.out.size)).mono hB)))
  unfold FromIs at HF
  rw [List.length_map, hl1, rcs_mk, (M.from_to M.ex_toE).1, (M.from_to M.ex_toE).2] at HF
  have hu := M.ex_head.1
  clear hl1 HFI
  generalize M.toH M.exM = H at *
  go_upto_region 2 with (refine wpList_store_row rfl 31 (.tmp 1) (.tmp 9) rfl w1.heap.size (hcells H (.slice none 0 0)) (by simp [Act.eval]) (by simp [Act.eval]) 31 (hcells {} (.slice none 0 0)) (heap_alloc_new w1 _) hdr_size rfl (hcells_one _ rfl) ?_; rw [World.setRow_alloc_new])
  have hb2 := (Below.refl w1.heap.size w1).alloc (Nat.le_refl _) (.cells (hcells H (.slice none 0 0)) 31)
  have HH2 := hid (HB.new w1 H (.slice none 0 0))
  have hs2 := World.size_alloc w1 (.cells (hcells H (.slice none 0 0)) 31)
  have HF2 := hid (HF.out c _ hb2)
  have HR2 := hid ((HR1.out.below hb2).more hb2.size)
  have HB2 := hid (HB1.out.trans (hb2.mono HB1.out.size))
  clear HF HR1 HB1 hb2
  generalize World.alloc w1 _ = w2 at *
  go_wp2_with (refine wpList_load_row rfl 31 (.tmp 1) rfl w1.heap.size (by rfl) 31 (hcells H (.slice none 0 0)) (0, 0) _ HH2.out Tryz.underlying31 rfl hdr_size ?_)
  refine HF2.out.mono ?_
  rintro e w3 ⟨pv, ev, rfl, hmi, hb3⟩
  have HH3 := HH2.out.below hb3 (by omega)
  have hr3 := HR2.out.below hb3
  have hs3 := hb3.size
  have HB3 := hid (HB2.out.trans (hb3.mono HB2.out.size))
  obtain ⟨b, off, rfl, hbb, c0, _⟩ := hr3.at_ (k := 0) (by decide)
  have y3 := HH3.cell (i := 2) (v := .int .i64 H.uid) rfl
  rw [hu] at y3
  simp only [Nat.zero_mul, Nat.add_zero, List.getElem_cons_zero] at c0
  have hbl : b < w3.heap.size := by omega
  have hpv : pv.oneCell' = true := by
    obtain ⟨A2, c2, e, _⟩ := hmi.parts
    rw [e]; rfl
  have hev : ev.oneCell' = true := by
    obtain ⟨A2, c2, e, _⟩ := hmi.extra
    rw [e]; rfl
  have HP := hid (And.intro hpv hev)
  clear HF2 HR2 HB2 HH2 hr3 HH3 hmi hpv hev
  go_upto_region 3 with (refine wpList_store_row rfl 28 (.tmp 4) (.tmp 16) rfl w3.heap.size (mcells M.exM pv ev) (by simp [Act.eval]) (by simp [Act.eval]) 28 (mcells {} (.slice none 0 0) (.slice none 0 0)) (heap_alloc_new w3 _) met_size rfl (mcells_one _ HP.out.1 HP.out.2) ?_; rw [World.setRow_alloc_new])
  have MB4 := MB.new w3 M.exM pv ev
  have x4 := MB4.cell (i := 4) (v := .int .i64 3000000) rfl
  have x0 := MB4.cell (i := 0) (v := .string ⟨#[97]⟩) rfl
  have HB4 := hid (HB3.out.alloc HB3.out.size (.cells (mcells M.exM pv ev) 28))
  have y3' := (World.cell?_alloc_lt w3 (.cells (mcells M.exM pv ev) 28) ⟨w1.heap.size, 2, none⟩ (by show w1.heap.size < _; omega)).trans y3
  have c0' := (World.cell?_alloc_lt w3 (.cells (mcells M.exM pv ev) 28) ⟨b, off, none⟩ hbl).trans c0
  clear MB4 HB3 y3 c0
  generalize World.alloc w3 _ = w4 at *
  go_wp2
  go_ret
  exact ⟨rfl, HB4.out⟩
end Go.Proofs.YtgfihdfncddpaaaGreatDoor

/-! A name, and what stands ahead of it: the document's answer; both are the same. -/
namespace Go.Proofs.YtgfihdfncddpaaaGreatDoor
open Go.RowKit Go.Lib
open Px (R2 tl)

end Go.Proofs.YtgfihdfncddpaaaGreatDoor

/-! A text of choices. -/
namespace Go.Proofs.YtgfihdfncddpaaaGreatDoor
open Go.RowKit Go.Lib
open Px (R2 tl)
attribute [local go_sem ↓] add_plain
def wordL : List ByteArray := [⟨#[97]⟩, ⟨#[98]⟩, ⟨#[99]⟩, ⟨#[100, 100]⟩, ⟨#[47]⟩, ⟨#[101]⟩]
/-- The text of a choice, piece by piece. -/
def wordT (k : Nat) : Nat → ByteArray
  | 0 => ⟨#[]⟩
  | q + 1 => wordT k q ++ wordL.getD ((q * q + k) % 6) ⟨#[]⟩
theorem wordL_size : ∀ x ∈ wordL, x.size ≤ 2 := by decide
theorem wordT_size (k : Nat) : ∀ q, (wordT k q).size ≤ 2 * q
  | 0 => Nat.le_refl 0
  | q + 1 => by
    have ih := wordT_size k q
    have hl : (q * q + k) % 6 < wordL.length := by show _ < 6; exact Nat.mod_lt _ (by decide)
    have h2 := wordL_size _ (List.getElem_mem hl)
    show (wordT k q ++ wordL.getD ((q * q + k) % 6) ⟨#[]⟩).size ≤ 2 * (q + 1)
    rw [ByteArray.size_append, List.getD_eq_getElem?_getD, List.getElem?_eq_getElem hl]
    show (wordT k q).size + (wordL[(q * q + k) % 6]).size ≤ _
    omega
set_option maxRecDepth 100000 in
set_option maxHeartbeats 2000000 in
theorem textX_any (k : Nat) (hk : k ≤ 1000) (w : World) :
    Calls Tryz.prog 16 #[.int .i64 k] w fun e w' => e = .returned (.string (wordT k k)) ∧ Below w.heap.size w w' := by
  go_enter Tryz.func16, Tryz.ntmps16
  go_wp2
  go_loopw [3, 4] (fun v i wr => ∃ (q : Nat) (s : ByteArray), i = .int .i64 q ∧ q ≤ k ∧ v = .string s ∧ s.size ≤ 2 * q ∧ Hid (s = wordT k q) ∧ Hid (Below w.heap.size w wr)) (fun _ i _ => k - (intOf i).toNat)
  case atStart => exact ⟨0, ⟨#[]⟩, rfl, by omega, rfl, by decide, hid rfl, hid (Below.refl _ _)⟩
  case round =>
    obtain ⟨q, s, rfl, hq, rfl, hs, HSQ, HW⟩ := hrel
    have hbs := HW.out.size
    by_cases hlt : q < k
    · have hq2 : (q : Int) * q ≤ 1000000 := by
        have : q * q ≤ 1000 * 1000 := Nat.mul_le_mul (by omega) (by omega)
        have h3 : ((q * q : Nat) : Int) ≤ ((1000 * 1000 : Nat) : Int) := Int.ofNat_le.2 this
        rw [Int.natCast_mul] at h3
        omega
      have hq3 : 0 ≤ (q : Int) * q := Int.mul_nonneg (by omega) (by omega)
      obtain ⟨p, hp⟩ : ∃ p : Int, (q : Int) * q = p := ⟨_, rfl⟩
      rw [hp] at hq2 hq3
      have e1 : IntKind.i64.wrap ((q : Int) * q) = p := by rw [hp]; exact IntWalk.i64_in _ (by omega)
      obtain ⟨m, hm⟩ : ∃ m : Int, p + k = m := ⟨_, rfl⟩
      have e2 : IntKind.i64.wrap (p + k) = m := by rw [← hm]; exact IntWalk.i64_in _ (by omega)
      obtain ⟨j, hj⟩ : ∃ j : Nat, j = (q * q + k) % 6 := ⟨_, rfl⟩
      have hmj : m % 6 = j := by rw [hj, ← hm, ← hp]; simp
      have e3 : m.tmod 6 = j := by rw [Int.tmod_eq_emod_of_nonneg (by omega), hmj]
      have hj6 : j < wordL.length := by rw [hj]; show _ < 6; exact Nat.mod_lt _ (by decide)
      have hcx : (wr.alloc (.cells #[.string ⟨#[97]⟩, .string ⟨#[98]⟩, .string ⟨#[99]⟩, .string ⟨#[100, 100]⟩, .string ⟨#[47]⟩, .string ⟨#[101]⟩] 9)).cell? ⟨wr.heap.size, j, none⟩ = some (.string wordL[j]) := by
        refine (World.cell?_alloc_mark wr _ 9 (0, 0) j).trans ?_
        have e : (#[Value.string ⟨#[97]⟩, .string ⟨#[98]⟩, .string ⟨#[99]⟩, .string ⟨#[100, 100]⟩, .string ⟨#[47]⟩, .string ⟨#[101]⟩] : Array Value) = (wordL.map Value.string).toArray := rfl
        rw [e]
        simp [hj6]
      have HX := hid (show wordT k (q + 1) = s ++ wordL[j] from by
        show wordT k q ++ wordL.getD ((q * q + k) % 6) ⟨#[]⟩ = _
        rw [← hj, HSQ.out, List.getD_eq_getElem?_getD, List.getElem?_eq_getElem hj6]
        rfl)
      have hx := wordL_size _ (List.getElem_mem hj6)
      obtain ⟨x, hxe⟩ : ∃ x, wordL[j] = x := ⟨_, rfl⟩
      rw [hxe] at hcx HX hx
      have hj6' : j < 6 := hj6
      clear hj hq2 hq3 hp hm hmj HSQ hxe hj6
      go_wp2
      go_roundw
      case rel => exact ⟨q + 1, s ++ x, by go_num, by omega, rfl, by rw [ByteArray.size_append]; omega, hid HX.out.symm, hid (HW.out.alloc hbs _)⟩
      case measure => simp [intOf]; omega
    · obtain rfl : q = k := by omega
      have HE := hid HSQ.out
      clear hlt
      go_wp2
      go_ret
      exact ⟨by rw [← HE.out]; rfl, HW.out⟩
end Go.Proofs.YtgfihdfncddpaaaGreatDoor

/-! Are two rows the same? -/
namespace Go.Proofs.YtgfihdfncddpaaaGreatDoor
open Go.RowKit Go.Lib
open Px (R2 tl)
attribute [local go_sem ↓] add_plain
theorem ret_b {a b : Bool} (h : a = b) : Ending.returned (.bool a) = .returned (.bool b) := by rw [h]
theorem takeP_same {α : Type} {l m : List α} {k : Nat} (hl : k < l.length) (hm : k < m.length) (h : l.take k = m.take k) (h2 : l[k] = m[k]) : l.take (k + 1) = m.take (k + 1) := by
  rw [List.take_succ_eq_append_getElem hl, List.take_succ_eq_append_getElem hm, h, h2]

set_option maxRecDepth 100000 in
set_option maxHeartbeats 1000000 in
theorem sameR_any (A : Option Addr) (c : Nat) (l : List (R2)) (A' : Option Addr) (c' : Nat) (m : List (R2)) (hl : l.length ≤ 9223372036854775807) (hm : m.length ≤ 9223372036854775807) (B : Nat) (w : World) (h : Px.RdR w B A l) (h' : Px.RdR w B A' m) :
    Calls Tryz.prog 42 #[.slice A l.length c, .slice A' m.length c'] w fun e w' => e = .returned (.bool (decide (l = m))) ∧ Below w.heap.size w w' := by
  by_cases hlm : l.length = m.length
  · have HR := Lib.hid h
    have HR' := Lib.hid h'
    have hle1 : l.length ≤ m.length := by omega
    have hle2 : m.length ≤ l.length := by omega
    have hb1 : ((l.length : Int) != (m.length : Int)) = false := by simp; omega
    have hb2 : (l.length != m.length) = false := by simp; omega
    clear h h' hlm
    go_enter Tryz.func42, Tryz.ntmps42
    go_wp2
    go_loopw [5] (fun i wr => ∃ k d : Nat, i = .int .i64 k ∧ k ≤ l.length ∧ l.take k = m.take k ∧ wr = w.drewN d) (fun i _ => l.length - (intOf i).toNat)
    case atStart => exact ⟨0, 0, rfl, Nat.zero_le _, rfl, rfl⟩
    case round =>
      obtain ⟨k, d, rfl, hk, htk, rfl⟩ := hrel
      have hbd := Px.below_drewN' (Below.refl w.heap.size w) d
      by_cases hlt : k < l.length
      · have hlt' : k < m.length := by omega
        obtain ⟨b, off, rfl, hbb, c1, c2⟩ := HR.out.at_ hlt
        obtain ⟨b', off', rfl, hbb', c1', c2'⟩ := HR'.out.at_ hlt'
        obtain ⟨r, hr⟩ : ∃ r, l[k] = r := ⟨_, rfl⟩
        obtain ⟨q, hq⟩ : ∃ q, m[k] = q := ⟨_, rfl⟩
        have HS := hid (takeP_same hlt hlt' htk)
        rw [hr] at c1 c2
        rw [hq] at c1' c2'
        rw [hr, hq] at HS
        have HK := Lib.hid htk
        clear htk
        by_cases he : r = q
        · subst he
          have HN := Lib.hid (HS.out rfl)
          clear HS hr hq
          obtain ⟨s, t⟩ := r
          dsimp only at c1 c2 c1' c2'
          go_wp2_with fail
          go_quiet (fail)
          go_wp2
          go_roundw
          case rel => exact ⟨_, d + nq, (show Value.int .i64 _ = Value.int .i64 ((_ + 1 : Nat) : Int) by go_num), by omega, HN.out, rfl⟩
          case measure => simp [intOf]; omega
        · have hne : l ≠ m := fun e => he (by subst e; rw [← hr, ← hq])
          have HE := Lib.hid hne
          obtain ⟨s, t⟩ := r
          obtain ⟨s', t'⟩ := q
          dsimp only at c1 c2 c1' c2'
          clear HS hr hq hne
          by_cases hs : s = s'
          · subst hs
            have ht : (t.toList == t'.toList) = false := by
              rw [str_eq, decide_eq_false_iff_not]
              exact fun e => he (by rw [tl_inj e])
            clear he
            go_wp2_with fail
            go_quiet (fail)
            go_wp2
            go_ret
            exact ⟨ret_b (by rw [decide_eq_false HE.out]), Px.below_drewN' hbd _⟩
          · have ht : (s.toList == s'.toList) = false := by
              rw [str_eq, decide_eq_false_iff_not]
              exact fun e => hs (tl_inj e)
            clear he hs
            go_wp2_with fail
            go_quiet (fail)
            go_wp2
            go_ret
            exact ⟨ret_b (by rw [decide_eq_false HE.out]), Px.below_drewN' hbd _⟩
      · obtain rfl : k = l.length := by omega
        have he : l = m := by
          rw [List.take_length, List.take_of_length_le (by omega)] at htk
          exact htk
        have HE := Lib.hid he
        clear htk hlt he
        go_wp2
        go_ret
        exact ⟨ret_b (by rw [decide_eq_true HE.out]), hbd⟩
  · have hne : l ≠ m := fun e => hlm (by rw [e])
    have HE := Lib.hid hne
    have hb1 : ((l.length : Int) != (m.length : Int)) = true := by simp; omega
    have hb2 : (l.length != m.length) = true := by simp; omega
    clear h h' hne
    go_enter Tryz.func42, Tryz.ntmps42
    go_wp2
    go_ret
    exact ⟨ret_b (by rw [decide_eq_false HE.out]), Below.refl _ _⟩

set_option maxRecDepth 100000 in
set_option maxHeartbeats 1000000 in
theorem sameP_any (A : Option Addr) (c : Nat) (l : List (Int × Int)) (A' : Option Addr) (c' : Nat) (m : List (Int × Int)) (hl : l.length ≤ 9223372036854775807) (hm : m.length ≤ 9223372036854775807) (B : Nat) (w : World) (h : Sp.RdP w B A l.length l) (h' : Sp.RdP w B A' m.length m) :
    Calls Tryz.prog 41 #[.slice A l.length c, .slice A' m.length c'] w fun e w' => e = .returned (.bool (decide (l = m))) ∧ Below w.heap.size w w' := by
  by_cases hlm : l.length = m.length
  · have HR := Lib.hid h
    have HR' := Lib.hid h'
    have hle1 : l.length ≤ m.length := by omega
    have hle2 : m.length ≤ l.length := by omega
    have hb1 : ((l.length : Int) != (m.length : Int)) = false := by simp; omega
    have hb2 : (l.length != m.length) = false := by simp; omega
    clear h h' hlm
    go_enter Tryz.func41, Tryz.ntmps41
    go_wp2
    go_loopw [5] (fun i wr => ∃ k d : Nat, i = .int .i64 k ∧ k ≤ l.length ∧ l.take k = m.take k ∧ wr = w.drewN d) (fun i _ => l.length - (intOf i).toNat)
    case atStart => exact ⟨0, 0, rfl, Nat.zero_le _, rfl, rfl⟩
    case round =>
      obtain ⟨k, d, rfl, hk, htk, rfl⟩ := hrel
      have hbd := Px.below_drewN' (Below.refl w.heap.size w) d
      by_cases hlt : k < l.length
      · have hlt' : k < m.length := by omega
        obtain ⟨b, off, r, rfl, hbb, hr, c1, c2⟩ := HR.out.at_ hlt
        obtain ⟨b', off', q, rfl, hbb', hq, c1', c2'⟩ := HR'.out.at_ hlt'
        rw [List.getElem?_eq_getElem hlt, Option.some.injEq] at hr
        rw [List.getElem?_eq_getElem hlt', Option.some.injEq] at hq
        have HS := hid (takeP_same hlt hlt' htk)
        rw [hr, hq] at HS
        have HK := Lib.hid htk
        clear htk
        by_cases he : r = q
        · subst he
          have HN := Lib.hid (HS.out rfl)
          clear HS hr hq
          obtain ⟨s, t⟩ := r
          dsimp only at c1 c2 c1' c2'
          go_wp2_with fail
          go_quiet (fail)
          go_wp2
          go_roundw
          case rel => exact ⟨_, d + nq, (show Value.int .i64 _ = Value.int .i64 ((_ + 1 : Nat) : Int) by go_num), by omega, HN.out, rfl⟩
          case measure => simp [intOf]; omega
        · have hne : l ≠ m := fun e => he (by subst e; rw [← hr, ← hq])
          have HE := Lib.hid hne
          obtain ⟨s, t⟩ := r
          obtain ⟨s', t'⟩ := q
          dsimp only at c1 c2 c1' c2'
          clear HS hr hq hne
          by_cases hs : s = s'
          · subst hs
            have ht : (t == t') = false := by
              rw [beq_eq_false_iff_ne]
              exact fun e => he (by rw [e])
            clear he
            go_wp2_with fail
            go_quiet (fail)
            go_wp2
            go_ret
            exact ⟨ret_b (by rw [decide_eq_false HE.out]), Px.below_drewN' hbd _⟩
          · have ht : (s == s') = false := by
              rw [beq_eq_false_iff_ne]
              exact hs
            clear he hs
            go_wp2_with fail
            go_quiet (fail)
            go_wp2
            go_ret
            exact ⟨ret_b (by rw [decide_eq_false HE.out]), Px.below_drewN' hbd _⟩
      · obtain rfl : k = l.length := by omega
        have he : l = m := by
          rw [List.take_length, List.take_of_length_le (by omega)] at htk
          exact htk
        have HE := Lib.hid he
        clear htk hlt he
        go_wp2
        go_ret
        exact ⟨ret_b (by rw [decide_eq_true HE.out]), hbd⟩
  · have hne : l ≠ m := fun e => hlm (by rw [e])
    have HE := Lib.hid hne
    have hb1 : ((l.length : Int) != (m.length : Int)) = true := by simp; omega
    have hb2 : (l.length != m.length) = true := by simp; omega
    clear h h' hne
    go_enter Tryz.func41, Tryz.ntmps41
    go_wp2
    go_ret
    exact ⟨ret_b (by rw [decide_eq_false HE.out]), Below.refl _ _⟩

end Go.Proofs.YtgfihdfncddpaaaGreatDoor

/-! Are two that are known the same? -/
namespace Go.Proofs.YtgfihdfncddpaaaGreatDoor
open Go.RowKit Go.Lib
open Px (R2 tl)
attribute [local go_sem ↓] add_plain
section
variable {P : Program} {ops : Array Oper} {Q : Exit → Act → World → Prop} {a : Act} {w : World} {rest : List Oper} {o : Oper}
theorem wl_yes (d : Nat) {v : Value} (hd : o.dst = some d) (hw : Region.wanted o (yielded ops a.tmps) = true) (hv : (execOp a.eval o).run P w = .ok (.value v) w) (h : wpList P ops Q rest (a.put (some d) v) w) : wpList P ops Q (o :: rest) a w := by
  unfold wpList
  rw [if_pos hw]
  left
  unfold Oper.wp
  rw [hv]
  show wpList P ops Q rest (a.put o.dst v) w
  rw [hd]; exact h
theorem wl_if (d : Nat) (g : Bool) {v : Value} (hd : o.dst = some d) (hw : Region.wanted o (yielded ops a.tmps) = g) (hv : g = true → (execOp a.eval o).run P w = .ok (.value v) w) (h : wpList P ops Q rest (a.put (some d) (bif g then v else undef)) w) : wpList P ops Q (o :: rest) a w := by
  cases g with
  | true => exact wl_yes d hd hw (hv rfl) h
  | false =>
    unfold wpList
    rw [if_neg (by rw [hw]; decide), hd]
    exact h
theorem wl_call (d : Nat) {v : Value} {f : FuncId} {args : Array Value} {C : World → Prop} (hd : o.dst = some d) (hw : Region.wanted o (yielded ops a.tmps) = true) (hx : (execOp a.eval o).run P w = .ok (.enter f args) w)
    (hc : Calls P f args w (fun e w' => e = .returned v ∧ C w')) (h : ∀ w', C w' → wpList P ops Q rest (a.put (some d) v) w') : wpList P ops Q (o :: rest) a w := by
  unfold wpList
  rw [if_pos hw]
  left
  unfold Oper.wp
  rw [hx]
  refine hc.mono ?_
  rintro e w' ⟨rfl, hC⟩
  show wpList P ops Q rest (a.put o.dst v) w'
  rw [hd]; exact h w' hC
end

/-- The rows behind one that is known. -/
structure SIn (w : World) (m : M.Met) (pv ev : Value) : Prop where
  parts : ∃ A c, pv = .slice A m.parts.length c ∧ Sp.RdP w w.heap.size A m.parts.length m.parts
  extra : ∃ A c, ev = .slice A m.extra.length c ∧ Px.RdR w w.heap.size A m.extra
  nparts : m.parts.length ≤ 9223372036854775807
  nextra : m.extra.length ≤ 9223372036854775807
theorem SIn.later {w w' : World} {m : M.Met} {pv ev : Value} (h : SIn w m pv ev) (hb : Below w.heap.size w w') : SIn w' m pv ev := by
  obtain ⟨⟨A, c, h1, h2⟩, ⟨A', c', h3, h4⟩, h5, h6⟩ := h
  exact ⟨⟨A, c, h1, (h2.below hb).more hb.size⟩, ⟨A', c', h3, (h4.below hb).more hb.size⟩, h5, h6⟩
namespace M
noncomputable def sameM (a b : Met) : Bool := @decide (a = b) (Classical.propDecidable _)
theorem sameM_self (a : Met) : sameM a a = true := by unfold sameM; exact @decide_eq_true _ (Classical.propDecidable _) rfl
end M
theorem sameM_eq (a b : M.Met) : M.sameM a b = ((a.name.toList == b.name.toList) && ((a.link.toList == b.link.toList) && ((a.kind == b.kind) && ((a.mode == b.mode) && ((a.uid == b.uid) && ((a.gid == b.gid) && ((a.user.toList == b.user.toList) && ((a.group.toList == b.group.toList) && ((a.sec == b.sec) && ((a.nan == b.nan) && ((a.major == b.major) && ((a.minor == b.minor) && ((a.size == b.size) && ((a.real == b.real) && ((a.holes == b.holes) && (decide (a.parts = b.parts) && (decide (a.extra = b.extra)))))))))))))))))) := by
  rw [Bool.eq_iff_iff]
  unfold M.sameM
  rw [@decide_eq_true_eq _ (Classical.propDecidable _)]
  simp only [Bool.and_eq_true, str_eq, decide_eq_true_eq, beq_iff_eq]
  constructor
  · rintro rfl
    simp
  · rintro ⟨h0, h1, h2, h3, h4, h5, h6, h7, h8, h9, h10, h11, h12, h13, h14, h15, h16⟩
    obtain ⟨x0, x1, x2, x3, x4, x5, x6, x7, x8, x9, x10, x11, x12, x13, x14, x15, x16⟩ := a
    obtain ⟨y0, y1, y2, y3, y4, y5, y6, y7, y8, y9, y10, y11, y12, y13, y14, y15, y16⟩ := b
    simp only at *
    have e0 := tl_inj h0
    have e1 := tl_inj h1
    have e6 := tl_inj h6
    have e7 := tl_inj h7
    subst e0 e1 h2 h3 h4 h5 e6 e7 h8 h9 h10 h11 h12 h13 h14 h15 h16
    rfl

set_option maxRecDepth 100000 in
set_option maxHeartbeats 8000000 in
theorem refSame_any (a b : M.Met) (Pa Pb Ea Eb : Option Addr) (pa pb ea eb : Nat) (w : World) (ha : SIn w a (.slice Pa a.parts.length pa) (.slice Ea a.extra.length ea)) (hb : SIn w b (.slice Pb b.parts.length pb) (.slice Eb b.extra.length eb)) :
    Calls Tryz.prog 11 #[.agg (mcells a (.slice Pa a.parts.length pa) (.slice Ea a.extra.length ea)), .agg (mcells b (.slice Pb b.parts.length pb) (.slice Eb b.extra.length eb))] w fun e w' => e = .returned (.bool (M.sameM a b)) ∧ Below w.heap.size w w' := by
  have rows : ∀ {m : M.Met} {P E : Option Addr} {p e : Nat}, SIn w m (.slice P m.parts.length p) (.slice E m.extra.length e) → Sp.RdP w w.heap.size P m.parts.length m.parts ∧ Px.RdR w w.heap.size E m.extra := by
    intro m P E p e h
    obtain ⟨A, c, e1, h1⟩ := h.parts
    obtain ⟨A2, c2, e2, h2⟩ := h.extra
    injection e1 with e1
    injection e2 with e2
    rw [e1, e2]
    exact ⟨h1, h2⟩
  have hra := rows ha
  have hrb := rows hb
  have HP := hid (fun W (hW : Below w.heap.size w W) => sameP_any Pa pa a.parts Pb pb b.parts ha.nparts hb.nparts w.heap.size W (hra.1.below hW) (hrb.1.below hW))
  have HE := hid (fun W (hW : Below w.heap.size w W) => sameR_any Ea ea a.extra Eb eb b.extra ha.nextra hb.nextra w.heap.size W (hra.2.below hW) (hrb.2.below hW))
  clear rows hra hrb ha hb
  have B1 := MB.alloc (MB.new w a (.slice Pa a.parts.length pa) (.slice Ea a.extra.length ea)) (.cells (mcells b (.slice Pb b.parts.length pb) (.slice Eb b.extra.length eb)) 28)
  have B2 := MB.new (w.alloc (.cells (mcells a (.slice Pa a.parts.length pa) (.slice Ea a.extra.length ea)) 28)) b (.slice Pb b.parts.length pb) (.slice Eb b.extra.length eb)
  rw [World.size_alloc] at B2
  have HW := hid (((Below.refl w.heap.size w).alloc (Nat.le_refl _) (.cells (mcells a (.slice Pa a.parts.length pa) (.slice Ea a.extra.length ea)) 28)).alloc (by simp) (.cells (mcells b (.slice Pb b.parts.length pb) (.slice Eb b.extra.length eb)) 28))
  have HS := hid (sameM_eq a b)
  obtain ⟨b0, t0⟩ : ∃ c, (a.name.toList == b.name.toList) = c := ⟨_, rfl⟩
  obtain ⟨b1, t1⟩ : ∃ c, (a.link.toList == b.link.toList) = c := ⟨_, rfl⟩
  obtain ⟨b2, t2⟩ : ∃ c, (a.kind == b.kind) = c := ⟨_, rfl⟩
  obtain ⟨b3, t3⟩ : ∃ c, (a.mode == b.mode) = c := ⟨_, rfl⟩
  obtain ⟨b4, t4⟩ : ∃ c, (a.uid == b.uid) = c := ⟨_, rfl⟩
  obtain ⟨b5, t5⟩ : ∃ c, (a.gid == b.gid) = c := ⟨_, rfl⟩
  obtain ⟨b6, t6⟩ : ∃ c, (a.user.toList == b.user.toList) = c := ⟨_, rfl⟩
  obtain ⟨b7, t7⟩ : ∃ c, (a.group.toList == b.group.toList) = c := ⟨_, rfl⟩
  obtain ⟨b8, t8⟩ : ∃ c, (a.sec == b.sec) = c := ⟨_, rfl⟩
  obtain ⟨b9, t9⟩ : ∃ c, (a.nan == b.nan) = c := ⟨_, rfl⟩
  obtain ⟨b10, t10⟩ : ∃ c, (a.major == b.major) = c := ⟨_, rfl⟩
  obtain ⟨b11, t11⟩ : ∃ c, (a.minor == b.minor) = c := ⟨_, rfl⟩
  obtain ⟨b12, t12⟩ : ∃ c, (a.size == b.size) = c := ⟨_, rfl⟩
  obtain ⟨b13, t13⟩ : ∃ c, (a.real == b.real) = c := ⟨_, rfl⟩
  obtain ⟨b14, t14⟩ : ∃ c, (a.holes == b.holes) = c := ⟨_, rfl⟩
  obtain ⟨b15, t15⟩ : ∃ c, decide (a.parts = b.parts) = c := ⟨_, rfl⟩
  obtain ⟨b16, t16⟩ : ∃ c, decide (a.extra = b.extra) = c := ⟨_, rfl⟩
  rw [t0, t1, t2, t3, t4, t5, t6, t7, t8, t9, t10, t11, t12, t13, t14, t15, t16] at HS
  rw [t15] at HP
  rw [t16] at HE
  have T0 := hid t0
  have T1 := hid t1
  have T2 := hid t2
  have T3 := hid t3
  have T4 := hid t4
  have T5 := hid t5
  have T6 := hid t6
  have T7 := hid t7
  have T8 := hid t8
  have T9 := hid t9
  have T10 := hid t10
  have T11 := hid t11
  have T12 := hid t12
  have T13 := hid t13
  have T14 := hid t14
  clear t0 t1 t2 t3 t4 t5 t6 t7 t8 t9 t10 t11 t12 t13 t14 t15 t16
  have A1 := hid B1
  have B1 := hid B2
  clear B2
  go_enter Tryz.func11, Tryz.ntmps11
  go_upto_region 1 with fail
  generalize World.alloc (World.alloc w _) _ = W at *
  obtain ⟨g1, hg1⟩ : ∃ g, g = (b0 && b1) := ⟨_, rfl⟩
  have G1 := hid hg1
  clear hg1
  obtain ⟨g2, hg2⟩ : ∃ g, g = (g1 && b2) := ⟨_, rfl⟩
  have G2 := hid hg2
  clear hg2
  obtain ⟨g3, hg3⟩ : ∃ g, g = (g2 && b3) := ⟨_, rfl⟩
  have G3 := hid hg3
  clear hg3
  obtain ⟨g4, hg4⟩ : ∃ g, g = (g3 && b4) := ⟨_, rfl⟩
  have G4 := hid hg4
  clear hg4
  obtain ⟨g5, hg5⟩ : ∃ g, g = (g4 && b5) := ⟨_, rfl⟩
  have G5 := hid hg5
  clear hg5
  obtain ⟨g6, hg6⟩ : ∃ g, g = (g5 && b6) := ⟨_, rfl⟩
  have G6 := hid hg6
  clear hg6
  obtain ⟨g7, hg7⟩ : ∃ g, g = (g6 && b7) := ⟨_, rfl⟩
  have G7 := hid hg7
  clear hg7
  obtain ⟨g8, hg8⟩ : ∃ g, g = (g7 && (b8 && b9)) := ⟨_, rfl⟩
  have G8 := hid hg8
  clear hg8
  obtain ⟨g9, hg9⟩ : ∃ g, g = (g8 && b10) := ⟨_, rfl⟩
  have G9 := hid hg9
  clear hg9
  obtain ⟨g10, hg10⟩ : ∃ g, g = (g9 && b11) := ⟨_, rfl⟩
  have G10 := hid hg10
  clear hg10
  obtain ⟨g11, hg11⟩ : ∃ g, g = (g10 && b12) := ⟨_, rfl⟩
  have G11 := hid hg11
  clear hg11
  obtain ⟨g12, hg12⟩ : ∃ g, g = (g11 && b13) := ⟨_, rfl⟩
  have G12 := hid hg12
  clear hg12
  obtain ⟨g13, hg13⟩ : ∃ g, g = (g12 && b14) := ⟨_, rfl⟩
  have G13 := hid hg13
  clear hg13
  have HT : Hid (M.sameM a b = (g13 && (b15 && b16))) := hid (by rw [HS.out, G13.out, G12.out, G11.out, G10.out, G9.out, G8.out, G7.out, G6.out, G5.out, G4.out, G3.out, G2.out, G1.out]; simp only [Bool.and_assoc])
  clear HS
  refine wp_region_lit ?_
  refine wl_yes 6 (v := ?_) rfl (by kernel_rfl) ?hy6 ?rest6
  case hy6 => (go_simp; first | done | with_reducible rfl)
  try simp only [Act.put, List.setIfInBounds_toArray, List.set_cons_zero, List.set_cons_succ]
  refine wl_yes 7 (v := ?_) rfl (by kernel_rfl) ?hy7 ?rest7
  case hy7 => (have z0 := A1.out.cell (i := 0) (v := .string a.name) rfl; go_simp; first | done | with_reducible rfl)
  try simp only [Act.put, List.setIfInBounds_toArray, List.set_cons_zero, List.set_cons_succ]
  refine wl_yes 8 (v := ?_) rfl (by kernel_rfl) ?hy8 ?rest8
  case hy8 => (go_simp; first | done | with_reducible rfl)
  try simp only [Act.put, List.setIfInBounds_toArray, List.set_cons_zero, List.set_cons_succ]
  refine wl_yes 9 (v := ?_) rfl (by kernel_rfl) ?hy9 ?rest9
  case hy9 => (have z0 := B1.out.cell (i := 0) (v := .string b.name) rfl; go_simp; first | done | with_reducible rfl)
  try simp only [Act.put, List.setIfInBounds_toArray, List.set_cons_zero, List.set_cons_succ]
  refine wl_yes 10 (v := .bool b0) rfl (by kernel_rfl) ?hy10 ?rest10
  case hy10 => (rw [← T0.out]; go_simp; first | done | with_reducible rfl)
  try simp only [Act.put, List.setIfInBounds_toArray, List.set_cons_zero, List.set_cons_succ]
  refine wl_yes 11 (v := ?_) rfl (by kernel_rfl) ?hy11 ?rest11
  case hy11 => (go_simp; first | done | with_reducible rfl)
  try simp only [Act.put, List.setIfInBounds_toArray, List.set_cons_zero, List.set_cons_succ]
  refine wl_if 12 b0 (v := ?_) rfl (by cases b0 <;> kernel_rfl) ?hy12 ?rest12
  case hy12 => (intro hg; subst hg; (try simp only [cond_true]); go_simp; first | done | with_reducible rfl)
  try simp only [Act.put, List.setIfInBounds_toArray, List.set_cons_zero, List.set_cons_succ]
  refine wl_if 13 b0 (v := ?_) rfl (by cases b0 <;> kernel_rfl) ?hy13 ?rest13
  case hy13 => (intro hg; subst hg; (try simp only [cond_true]); have z1 := A1.out.cell (i := 1) (v := .string a.link) rfl; go_simp; first | done | with_reducible rfl)
  try simp only [Act.put, List.setIfInBounds_toArray, List.set_cons_zero, List.set_cons_succ]
  refine wl_if 14 b0 (v := ?_) rfl (by cases b0 <;> kernel_rfl) ?hy14 ?rest14
  case hy14 => (intro hg; subst hg; (try simp only [cond_true]); go_simp; first | done | with_reducible rfl)
  try simp only [Act.put, List.setIfInBounds_toArray, List.set_cons_zero, List.set_cons_succ]
  refine wl_if 15 b0 (v := ?_) rfl (by cases b0 <;> kernel_rfl) ?hy15 ?rest15
  case hy15 => (intro hg; subst hg; (try simp only [cond_true]); have z1 := B1.out.cell (i := 1) (v := .string b.link) rfl; go_simp; first | done | with_reducible rfl)
  try simp only [Act.put, List.setIfInBounds_toArray, List.set_cons_zero, List.set_cons_succ]
  refine wl_if 16 b0 (v := .bool b1) rfl (by cases b0 <;> kernel_rfl) ?hy16 ?rest16
  case hy16 => (intro hg; subst hg; (try simp only [cond_true]); rw [← T1.out]; go_simp; first | done | with_reducible rfl)
  try simp only [Act.put, List.setIfInBounds_toArray, List.set_cons_zero, List.set_cons_succ]
  refine wl_yes 17 (v := .bool g1) rfl (by kernel_rfl) ?hy17 ?rest17
  case hy17 => (rw [G1.out]; cases b0 <;> (go_simp; first | done | with_reducible rfl))
  try simp only [Act.put, List.setIfInBounds_toArray, List.set_cons_zero, List.set_cons_succ]
  refine wl_yes 18 (v := ?_) rfl (by kernel_rfl) ?hy18 ?rest18
  case hy18 => (go_simp; first | done | with_reducible rfl)
  try simp only [Act.put, List.setIfInBounds_toArray, List.set_cons_zero, List.set_cons_succ]
  refine wl_if 19 g1 (v := ?_) rfl (by cases g1 <;> kernel_rfl) ?hy19 ?rest19
  case hy19 => (intro hg; subst hg; (try simp only [cond_true]); go_simp; first | done | with_reducible rfl)
  try simp only [Act.put, List.setIfInBounds_toArray, List.set_cons_zero, List.set_cons_succ]
  refine wl_if 20 g1 (v := ?_) rfl (by cases g1 <;> kernel_rfl) ?hy20 ?rest20
  case hy20 => (intro hg; subst hg; (try simp only [cond_true]); have z2 := A1.out.cell (i := 2) (v := .int .u8 a.kind) rfl; go_simp; first | done | with_reducible rfl)
  try simp only [Act.put, List.setIfInBounds_toArray, List.set_cons_zero, List.set_cons_succ]
  refine wl_if 21 g1 (v := ?_) rfl (by cases g1 <;> kernel_rfl) ?hy21 ?rest21
  case hy21 => (intro hg; subst hg; (try simp only [cond_true]); go_simp; first | done | with_reducible rfl)
  try simp only [Act.put, List.setIfInBounds_toArray, List.set_cons_zero, List.set_cons_succ]
  refine wl_if 22 g1 (v := ?_) rfl (by cases g1 <;> kernel_rfl) ?hy22 ?rest22
  case hy22 => (intro hg; subst hg; (try simp only [cond_true]); have z2 := B1.out.cell (i := 2) (v := .int .u8 b.kind) rfl; go_simp; first | done | with_reducible rfl)
  try simp only [Act.put, List.setIfInBounds_toArray, List.set_cons_zero, List.set_cons_succ]
  refine wl_if 23 g1 (v := .bool b2) rfl (by cases g1 <;> kernel_rfl) ?hy23 ?rest23
  case hy23 => (intro hg; subst hg; (try simp only [cond_true]); rw [← T2.out]; go_simp; first | done | with_reducible rfl)
  try simp only [Act.put, List.setIfInBounds_toArray, List.set_cons_zero, List.set_cons_succ]
  refine wl_yes 24 (v := .bool g2) rfl (by kernel_rfl) ?hy24 ?rest24
  case hy24 => (rw [G2.out]; cases g1 <;> (go_simp; first | done | with_reducible rfl))
  try simp only [Act.put, List.setIfInBounds_toArray, List.set_cons_zero, List.set_cons_succ]
  refine wl_yes 25 (v := ?_) rfl (by kernel_rfl) ?hy25 ?rest25
  case hy25 => (go_simp; first | done | with_reducible rfl)
  try simp only [Act.put, List.setIfInBounds_toArray, List.set_cons_zero, List.set_cons_succ]
  refine wl_if 26 g2 (v := ?_) rfl (by cases g2 <;> kernel_rfl) ?hy26 ?rest26
  case hy26 => (intro hg; subst hg; (try simp only [cond_true]); go_simp; first | done | with_reducible rfl)
  try simp only [Act.put, List.setIfInBounds_toArray, List.set_cons_zero, List.set_cons_succ]
  refine wl_if 27 g2 (v := ?_) rfl (by cases g2 <;> kernel_rfl) ?hy27 ?rest27
  case hy27 => (intro hg; subst hg; (try simp only [cond_true]); have z3 := A1.out.cell (i := 3) (v := .int .i64 a.mode) rfl; go_simp; first | done | with_reducible rfl)
  try simp only [Act.put, List.setIfInBounds_toArray, List.set_cons_zero, List.set_cons_succ]
  refine wl_if 28 g2 (v := ?_) rfl (by cases g2 <;> kernel_rfl) ?hy28 ?rest28
  case hy28 => (intro hg; subst hg; (try simp only [cond_true]); go_simp; first | done | with_reducible rfl)
  try simp only [Act.put, List.setIfInBounds_toArray, List.set_cons_zero, List.set_cons_succ]
  refine wl_if 29 g2 (v := ?_) rfl (by cases g2 <;> kernel_rfl) ?hy29 ?rest29
  case hy29 => (intro hg; subst hg; (try simp only [cond_true]); have z3 := B1.out.cell (i := 3) (v := .int .i64 b.mode) rfl; go_simp; first | done | with_reducible rfl)
  try simp only [Act.put, List.setIfInBounds_toArray, List.set_cons_zero, List.set_cons_succ]
  refine wl_if 30 g2 (v := .bool b3) rfl (by cases g2 <;> kernel_rfl) ?hy30 ?rest30
  case hy30 => (intro hg; subst hg; (try simp only [cond_true]); rw [← T3.out]; go_simp; first | done | with_reducible rfl)
  try simp only [Act.put, List.setIfInBounds_toArray, List.set_cons_zero, List.set_cons_succ]
  refine wl_yes 31 (v := .bool g3) rfl (by kernel_rfl) ?hy31 ?rest31
  case hy31 => (rw [G3.out]; cases g2 <;> (go_simp; first | done | with_reducible rfl))
  try simp only [Act.put, List.setIfInBounds_toArray, List.set_cons_zero, List.set_cons_succ]
  refine wl_yes 32 (v := ?_) rfl (by kernel_rfl) ?hy32 ?rest32
  case hy32 => (go_simp; first | done | with_reducible rfl)
  try simp only [Act.put, List.setIfInBounds_toArray, List.set_cons_zero, List.set_cons_succ]
  refine wl_if 33 g3 (v := ?_) rfl (by cases g3 <;> kernel_rfl) ?hy33 ?rest33
  case hy33 => (intro hg; subst hg; (try simp only [cond_true]); go_simp; first | done | with_reducible rfl)
  try simp only [Act.put, List.setIfInBounds_toArray, List.set_cons_zero, List.set_cons_succ]
  refine wl_if 34 g3 (v := ?_) rfl (by cases g3 <;> kernel_rfl) ?hy34 ?rest34
  case hy34 => (intro hg; subst hg; (try simp only [cond_true]); have z4 := A1.out.cell (i := 4) (v := .int .i64 a.uid) rfl; go_simp; first | done | with_reducible rfl)
  try simp only [Act.put, List.setIfInBounds_toArray, List.set_cons_zero, List.set_cons_succ]
  refine wl_if 35 g3 (v := ?_) rfl (by cases g3 <;> kernel_rfl) ?hy35 ?rest35
  case hy35 => (intro hg; subst hg; (try simp only [cond_true]); go_simp; first | done | with_reducible rfl)
  try simp only [Act.put, List.setIfInBounds_toArray, List.set_cons_zero, List.set_cons_succ]
  refine wl_if 36 g3 (v := ?_) rfl (by cases g3 <;> kernel_rfl) ?hy36 ?rest36
  case hy36 => (intro hg; subst hg; (try simp only [cond_true]); have z4 := B1.out.cell (i := 4) (v := .int .i64 b.uid) rfl; go_simp; first | done | with_reducible rfl)
  try simp only [Act.put, List.setIfInBounds_toArray, List.set_cons_zero, List.set_cons_succ]
  refine wl_if 37 g3 (v := .bool b4) rfl (by cases g3 <;> kernel_rfl) ?hy37 ?rest37
  case hy37 => (intro hg; subst hg; (try simp only [cond_true]); rw [← T4.out]; go_simp; first | done | with_reducible rfl)
  try simp only [Act.put, List.setIfInBounds_toArray, List.set_cons_zero, List.set_cons_succ]
  refine wl_yes 38 (v := .bool g4) rfl (by kernel_rfl) ?hy38 ?rest38
  case hy38 => (rw [G4.out]; cases g3 <;> (go_simp; first | done | with_reducible rfl))
  try simp only [Act.put, List.setIfInBounds_toArray, List.set_cons_zero, List.set_cons_succ]
  refine wl_yes 39 (v := ?_) rfl (by kernel_rfl) ?hy39 ?rest39
  case hy39 => (go_simp; first | done | with_reducible rfl)
  try simp only [Act.put, List.setIfInBounds_toArray, List.set_cons_zero, List.set_cons_succ]
  refine wl_if 40 g4 (v := ?_) rfl (by cases g4 <;> kernel_rfl) ?hy40 ?rest40
  case hy40 => (intro hg; subst hg; (try simp only [cond_true]); go_simp; first | done | with_reducible rfl)
  try simp only [Act.put, List.setIfInBounds_toArray, List.set_cons_zero, List.set_cons_succ]
  refine wl_if 41 g4 (v := ?_) rfl (by cases g4 <;> kernel_rfl) ?hy41 ?rest41
  case hy41 => (intro hg; subst hg; (try simp only [cond_true]); have z5 := A1.out.cell (i := 5) (v := .int .i64 a.gid) rfl; go_simp; first | done | with_reducible rfl)
  try simp only [Act.put, List.setIfInBounds_toArray, List.set_cons_zero, List.set_cons_succ]
  refine wl_if 42 g4 (v := ?_) rfl (by cases g4 <;> kernel_rfl) ?hy42 ?rest42
  case hy42 => (intro hg; subst hg; (try simp only [cond_true]); go_simp; first | done | with_reducible rfl)
  try simp only [Act.put, List.setIfInBounds_toArray, List.set_cons_zero, List.set_cons_succ]
  refine wl_if 43 g4 (v := ?_) rfl (by cases g4 <;> kernel_rfl) ?hy43 ?rest43
  case hy43 => (intro hg; subst hg; (try simp only [cond_true]); have z5 := B1.out.cell (i := 5) (v := .int .i64 b.gid) rfl; go_simp; first | done | with_reducible rfl)
  try simp only [Act.put, List.setIfInBounds_toArray, List.set_cons_zero, List.set_cons_succ]
  refine wl_if 44 g4 (v := .bool b5) rfl (by cases g4 <;> kernel_rfl) ?hy44 ?rest44
  case hy44 => (intro hg; subst hg; (try simp only [cond_true]); rw [← T5.out]; go_simp; first | done | with_reducible rfl)
  try simp only [Act.put, List.setIfInBounds_toArray, List.set_cons_zero, List.set_cons_succ]
  refine wl_yes 45 (v := .bool g5) rfl (by kernel_rfl) ?hy45 ?rest45
  case hy45 => (rw [G5.out]; cases g4 <;> (go_simp; first | done | with_reducible rfl))
  try simp only [Act.put, List.setIfInBounds_toArray, List.set_cons_zero, List.set_cons_succ]
  refine wl_yes 46 (v := ?_) rfl (by kernel_rfl) ?hy46 ?rest46
  case hy46 => (go_simp; first | done | with_reducible rfl)
  try simp only [Act.put, List.setIfInBounds_toArray, List.set_cons_zero, List.set_cons_succ]
  refine wl_if 47 g5 (v := ?_) rfl (by cases g5 <;> kernel_rfl) ?hy47 ?rest47
  case hy47 => (intro hg; subst hg; (try simp only [cond_true]); go_simp; first | done | with_reducible rfl)
  try simp only [Act.put, List.setIfInBounds_toArray, List.set_cons_zero, List.set_cons_succ]
  refine wl_if 48 g5 (v := ?_) rfl (by cases g5 <;> kernel_rfl) ?hy48 ?rest48
  case hy48 => (intro hg; subst hg; (try simp only [cond_true]); have z6 := A1.out.cell (i := 6) (v := .string a.user) rfl; go_simp; first | done | with_reducible rfl)
  try simp only [Act.put, List.setIfInBounds_toArray, List.set_cons_zero, List.set_cons_succ]
  refine wl_if 49 g5 (v := ?_) rfl (by cases g5 <;> kernel_rfl) ?hy49 ?rest49
  case hy49 => (intro hg; subst hg; (try simp only [cond_true]); go_simp; first | done | with_reducible rfl)
  try simp only [Act.put, List.setIfInBounds_toArray, List.set_cons_zero, List.set_cons_succ]
  refine wl_if 50 g5 (v := ?_) rfl (by cases g5 <;> kernel_rfl) ?hy50 ?rest50
  case hy50 => (intro hg; subst hg; (try simp only [cond_true]); have z6 := B1.out.cell (i := 6) (v := .string b.user) rfl; go_simp; first | done | with_reducible rfl)
  try simp only [Act.put, List.setIfInBounds_toArray, List.set_cons_zero, List.set_cons_succ]
  refine wl_if 51 g5 (v := .bool b6) rfl (by cases g5 <;> kernel_rfl) ?hy51 ?rest51
  case hy51 => (intro hg; subst hg; (try simp only [cond_true]); rw [← T6.out]; go_simp; first | done | with_reducible rfl)
  try simp only [Act.put, List.setIfInBounds_toArray, List.set_cons_zero, List.set_cons_succ]
  refine wl_yes 52 (v := .bool g6) rfl (by kernel_rfl) ?hy52 ?rest52
  case hy52 => (rw [G6.out]; cases g5 <;> (go_simp; first | done | with_reducible rfl))
  try simp only [Act.put, List.setIfInBounds_toArray, List.set_cons_zero, List.set_cons_succ]
  refine wl_yes 53 (v := ?_) rfl (by kernel_rfl) ?hy53 ?rest53
  case hy53 => (go_simp; first | done | with_reducible rfl)
  try simp only [Act.put, List.setIfInBounds_toArray, List.set_cons_zero, List.set_cons_succ]
  refine wl_if 54 g6 (v := ?_) rfl (by cases g6 <;> kernel_rfl) ?hy54 ?rest54
  case hy54 => (intro hg; subst hg; (try simp only [cond_true]); go_simp; first | done | with_reducible rfl)
  try simp only [Act.put, List.setIfInBounds_toArray, List.set_cons_zero, List.set_cons_succ]
  refine wl_if 55 g6 (v := ?_) rfl (by cases g6 <;> kernel_rfl) ?hy55 ?rest55
  case hy55 => (intro hg; subst hg; (try simp only [cond_true]); have z7 := A1.out.cell (i := 7) (v := .string a.group) rfl; go_simp; first | done | with_reducible rfl)
  try simp only [Act.put, List.setIfInBounds_toArray, List.set_cons_zero, List.set_cons_succ]
  refine wl_if 56 g6 (v := ?_) rfl (by cases g6 <;> kernel_rfl) ?hy56 ?rest56
  case hy56 => (intro hg; subst hg; (try simp only [cond_true]); go_simp; first | done | with_reducible rfl)
  try simp only [Act.put, List.setIfInBounds_toArray, List.set_cons_zero, List.set_cons_succ]
  refine wl_if 57 g6 (v := ?_) rfl (by cases g6 <;> kernel_rfl) ?hy57 ?rest57
  case hy57 => (intro hg; subst hg; (try simp only [cond_true]); have z7 := B1.out.cell (i := 7) (v := .string b.group) rfl; go_simp; first | done | with_reducible rfl)
  try simp only [Act.put, List.setIfInBounds_toArray, List.set_cons_zero, List.set_cons_succ]
  refine wl_if 58 g6 (v := .bool b7) rfl (by cases g6 <;> kernel_rfl) ?hy58 ?rest58
  case hy58 => (intro hg; subst hg; (try simp only [cond_true]); rw [← T7.out]; go_simp; first | done | with_reducible rfl)
  try simp only [Act.put, List.setIfInBounds_toArray, List.set_cons_zero, List.set_cons_succ]
  refine wl_yes 59 (v := .bool g7) rfl (by kernel_rfl) ?hy59 ?rest59
  case hy59 => (rw [G7.out]; cases g6 <;> (go_simp; first | done | with_reducible rfl))
  try simp only [Act.put, List.setIfInBounds_toArray, List.set_cons_zero, List.set_cons_succ]
  refine wl_yes 60 (v := ?_) rfl (by kernel_rfl) ?hy60 ?rest60
  case hy60 => (go_simp; first | done | with_reducible rfl)
  try simp only [Act.put, List.setIfInBounds_toArray, List.set_cons_zero, List.set_cons_succ]
  refine wl_if 61 g7 (v := ?_) rfl (by cases g7 <;> kernel_rfl) ?hy61 ?rest61
  case hy61 => (intro hg; subst hg; (try simp only [cond_true]); go_simp; first | done | with_reducible rfl)
  try simp only [Act.put, List.setIfInBounds_toArray, List.set_cons_zero, List.set_cons_succ]
  refine wl_if 62 g7 (v := ?_) rfl (by cases g7 <;> kernel_rfl) ?hy62 ?rest62
  case hy62 => (intro hg; subst hg; (try simp only [cond_true]); have z8 := A1.out.cell (i := 8) (v := .int .i64 a.sec) rfl; have z9 := A1.out.cell (i := 9) (v := .int .i64 a.nan) rfl; go_simp; first | done | with_reducible rfl)
  try simp only [Act.put, List.setIfInBounds_toArray, List.set_cons_zero, List.set_cons_succ]
  refine wl_if 63 g7 (v := ?_) rfl (by cases g7 <;> kernel_rfl) ?hy63 ?rest63
  case hy63 => (intro hg; subst hg; (try simp only [cond_true]); go_simp; first | done | with_reducible rfl)
  try simp only [Act.put, List.setIfInBounds_toArray, List.set_cons_zero, List.set_cons_succ]
  refine wl_if 64 g7 (v := ?_) rfl (by cases g7 <;> kernel_rfl) ?hy64 ?rest64
  case hy64 => (intro hg; subst hg; (try simp only [cond_true]); have z8 := B1.out.cell (i := 8) (v := .int .i64 b.sec) rfl; have z9 := B1.out.cell (i := 9) (v := .int .i64 b.nan) rfl; go_simp; first | done | with_reducible rfl)
  try simp only [Act.put, List.setIfInBounds_toArray, List.set_cons_zero, List.set_cons_succ]
  refine wl_if 65 g7 (v := .bool (b8 && b9)) rfl (by cases g7 <;> kernel_rfl) ?hy65 ?rest65
  case hy65 => (intro hg; subst hg; (try simp only [cond_true]); rw [← T8.out, ← T9.out]; go_simp; by_cases e1 : a.sec = b.sec <;> by_cases e2 : a.nan = b.nan <;> simp [e1, e2])
  try simp only [Act.put, List.setIfInBounds_toArray, List.set_cons_zero, List.set_cons_succ]
  refine wl_yes 66 (v := .bool g8) rfl (by kernel_rfl) ?hy66 ?rest66
  case hy66 => (rw [G8.out]; cases g7 <;> (go_simp; first | done | with_reducible rfl))
  try simp only [Act.put, List.setIfInBounds_toArray, List.set_cons_zero, List.set_cons_succ]
  refine wl_yes 5 (v := ?_) rfl (by kernel_rfl) ?hy5 ?rest5
  case hy5 => (go_simp; first | done | with_reducible rfl)
  try simp only [Act.put, List.setIfInBounds_toArray, List.set_cons_zero, List.set_cons_succ]
  refine wpList_nil ?_
  go_upto_region 2 with fail
  refine wp_region_lit ?_
  refine wl_yes 67 (v := ?_) rfl (by kernel_rfl) ?hy67 ?rest67
  case hy67 => (go_simp; first | done | with_reducible rfl)
  try simp only [Act.put, List.setIfInBounds_toArray, List.set_cons_zero, List.set_cons_succ]
  refine wl_yes 68 (v := ?_) rfl (by kernel_rfl) ?hy68 ?rest68
  case hy68 => (go_simp; first | done | with_reducible rfl)
  try simp only [Act.put, List.setIfInBounds_toArray, List.set_cons_zero, List.set_cons_succ]
  refine wl_if 69 g8 (v := ?_) rfl (by cases g8 <;> kernel_rfl) ?hy69 ?rest69
  case hy69 => (intro hg; subst hg; (try simp only [cond_true]); go_simp; first | done | with_reducible rfl)
  try simp only [Act.put, List.setIfInBounds_toArray, List.set_cons_zero, List.set_cons_succ]
  refine wl_if 70 g8 (v := ?_) rfl (by cases g8 <;> kernel_rfl) ?hy70 ?rest70
  case hy70 => (intro hg; subst hg; (try simp only [cond_true]); have z10 := A1.out.cell (i := 10) (v := .int .i64 a.major) rfl; go_simp; first | done | with_reducible rfl)
  try simp only [Act.put, List.setIfInBounds_toArray, List.set_cons_zero, List.set_cons_succ]
  refine wl_if 71 g8 (v := ?_) rfl (by cases g8 <;> kernel_rfl) ?hy71 ?rest71
  case hy71 => (intro hg; subst hg; (try simp only [cond_true]); go_simp; first | done | with_reducible rfl)
  try simp only [Act.put, List.setIfInBounds_toArray, List.set_cons_zero, List.set_cons_succ]
  refine wl_if 72 g8 (v := ?_) rfl (by cases g8 <;> kernel_rfl) ?hy72 ?rest72
  case hy72 => (intro hg; subst hg; (try simp only [cond_true]); have z10 := B1.out.cell (i := 10) (v := .int .i64 b.major) rfl; go_simp; first | done | with_reducible rfl)
  try simp only [Act.put, List.setIfInBounds_toArray, List.set_cons_zero, List.set_cons_succ]
  refine wl_if 73 g8 (v := .bool b10) rfl (by cases g8 <;> kernel_rfl) ?hy73 ?rest73
  case hy73 => (intro hg; subst hg; (try simp only [cond_true]); rw [← T10.out]; go_simp; first | done | with_reducible rfl)
  try simp only [Act.put, List.setIfInBounds_toArray, List.set_cons_zero, List.set_cons_succ]
  refine wl_yes 74 (v := .bool g9) rfl (by kernel_rfl) ?hy74 ?rest74
  case hy74 => (rw [G9.out]; cases g8 <;> (go_simp; first | done | with_reducible rfl))
  try simp only [Act.put, List.setIfInBounds_toArray, List.set_cons_zero, List.set_cons_succ]
  refine wl_yes 75 (v := ?_) rfl (by kernel_rfl) ?hy75 ?rest75
  case hy75 => (go_simp; first | done | with_reducible rfl)
  try simp only [Act.put, List.setIfInBounds_toArray, List.set_cons_zero, List.set_cons_succ]
  refine wl_if 76 g9 (v := ?_) rfl (by cases g9 <;> kernel_rfl) ?hy76 ?rest76
  case hy76 => (intro hg; subst hg; (try simp only [cond_true]); go_simp; first | done | with_reducible rfl)
  try simp only [Act.put, List.setIfInBounds_toArray, List.set_cons_zero, List.set_cons_succ]
  refine wl_if 77 g9 (v := ?_) rfl (by cases g9 <;> kernel_rfl) ?hy77 ?rest77
  case hy77 => (intro hg; subst hg; (try simp only [cond_true]); have z11 := A1.out.cell (i := 11) (v := .int .i64 a.minor) rfl; go_simp; first | done | with_reducible rfl)
  try simp only [Act.put, List.setIfInBounds_toArray, List.set_cons_zero, List.set_cons_succ]
  refine wl_if 78 g9 (v := ?_) rfl (by cases g9 <;> kernel_rfl) ?hy78 ?rest78
  case hy78 => (intro hg; subst hg; (try simp only [cond_true]); go_simp; first | done | with_reducible rfl)
  try simp only [Act.put, List.setIfInBounds_toArray, List.set_cons_zero, List.set_cons_succ]
  refine wl_if 79 g9 (v := ?_) rfl (by cases g9 <;> kernel_rfl) ?hy79 ?rest79
  case hy79 => (intro hg; subst hg; (try simp only [cond_true]); have z11 := B1.out.cell (i := 11) (v := .int .i64 b.minor) rfl; go_simp; first | done | with_reducible rfl)
  try simp only [Act.put, List.setIfInBounds_toArray, List.set_cons_zero, List.set_cons_succ]
  refine wl_if 80 g9 (v := .bool b11) rfl (by cases g9 <;> kernel_rfl) ?hy80 ?rest80
  case hy80 => (intro hg; subst hg; (try simp only [cond_true]); rw [← T11.out]; go_simp; first | done | with_reducible rfl)
  try simp only [Act.put, List.setIfInBounds_toArray, List.set_cons_zero, List.set_cons_succ]
  refine wl_yes 81 (v := .bool g10) rfl (by kernel_rfl) ?hy81 ?rest81
  case hy81 => (rw [G10.out]; cases g9 <;> (go_simp; first | done | with_reducible rfl))
  try simp only [Act.put, List.setIfInBounds_toArray, List.set_cons_zero, List.set_cons_succ]
  refine wl_yes 82 (v := ?_) rfl (by kernel_rfl) ?hy82 ?rest82
  case hy82 => (go_simp; first | done | with_reducible rfl)
  try simp only [Act.put, List.setIfInBounds_toArray, List.set_cons_zero, List.set_cons_succ]
  refine wl_if 83 g10 (v := ?_) rfl (by cases g10 <;> kernel_rfl) ?hy83 ?rest83
  case hy83 => (intro hg; subst hg; (try simp only [cond_true]); go_simp; first | done | with_reducible rfl)
  try simp only [Act.put, List.setIfInBounds_toArray, List.set_cons_zero, List.set_cons_succ]
  refine wl_if 84 g10 (v := ?_) rfl (by cases g10 <;> kernel_rfl) ?hy84 ?rest84
  case hy84 => (intro hg; subst hg; (try simp only [cond_true]); have z12 := A1.out.cell (i := 12) (v := .int .i64 a.size) rfl; go_simp; first | done | with_reducible rfl)
  try simp only [Act.put, List.setIfInBounds_toArray, List.set_cons_zero, List.set_cons_succ]
  refine wl_if 85 g10 (v := ?_) rfl (by cases g10 <;> kernel_rfl) ?hy85 ?rest85
  case hy85 => (intro hg; subst hg; (try simp only [cond_true]); go_simp; first | done | with_reducible rfl)
  try simp only [Act.put, List.setIfInBounds_toArray, List.set_cons_zero, List.set_cons_succ]
  refine wl_if 86 g10 (v := ?_) rfl (by cases g10 <;> kernel_rfl) ?hy86 ?rest86
  case hy86 => (intro hg; subst hg; (try simp only [cond_true]); have z12 := B1.out.cell (i := 12) (v := .int .i64 b.size) rfl; go_simp; first | done | with_reducible rfl)
  try simp only [Act.put, List.setIfInBounds_toArray, List.set_cons_zero, List.set_cons_succ]
  refine wl_if 87 g10 (v := .bool b12) rfl (by cases g10 <;> kernel_rfl) ?hy87 ?rest87
  case hy87 => (intro hg; subst hg; (try simp only [cond_true]); rw [← T12.out]; go_simp; first | done | with_reducible rfl)
  try simp only [Act.put, List.setIfInBounds_toArray, List.set_cons_zero, List.set_cons_succ]
  refine wl_yes 88 (v := .bool g11) rfl (by kernel_rfl) ?hy88 ?rest88
  case hy88 => (rw [G11.out]; cases g10 <;> (go_simp; first | done | with_reducible rfl))
  try simp only [Act.put, List.setIfInBounds_toArray, List.set_cons_zero, List.set_cons_succ]
  refine wl_yes 89 (v := ?_) rfl (by kernel_rfl) ?hy89 ?rest89
  case hy89 => (go_simp; first | done | with_reducible rfl)
  try simp only [Act.put, List.setIfInBounds_toArray, List.set_cons_zero, List.set_cons_succ]
  refine wl_if 90 g11 (v := ?_) rfl (by cases g11 <;> kernel_rfl) ?hy90 ?rest90
  case hy90 => (intro hg; subst hg; (try simp only [cond_true]); go_simp; first | done | with_reducible rfl)
  try simp only [Act.put, List.setIfInBounds_toArray, List.set_cons_zero, List.set_cons_succ]
  refine wl_if 91 g11 (v := ?_) rfl (by cases g11 <;> kernel_rfl) ?hy91 ?rest91
  case hy91 => (intro hg; subst hg; (try simp only [cond_true]); have z13 := A1.out.cell (i := 13) (v := .int .i64 a.real) rfl; go_simp; first | done | with_reducible rfl)
  try simp only [Act.put, List.setIfInBounds_toArray, List.set_cons_zero, List.set_cons_succ]
  refine wl_if 92 g11 (v := ?_) rfl (by cases g11 <;> kernel_rfl) ?hy92 ?rest92
  case hy92 => (intro hg; subst hg; (try simp only [cond_true]); go_simp; first | done | with_reducible rfl)
  try simp only [Act.put, List.setIfInBounds_toArray, List.set_cons_zero, List.set_cons_succ]
  refine wl_if 93 g11 (v := ?_) rfl (by cases g11 <;> kernel_rfl) ?hy93 ?rest93
  case hy93 => (intro hg; subst hg; (try simp only [cond_true]); have z13 := B1.out.cell (i := 13) (v := .int .i64 b.real) rfl; go_simp; first | done | with_reducible rfl)
  try simp only [Act.put, List.setIfInBounds_toArray, List.set_cons_zero, List.set_cons_succ]
  refine wl_if 94 g11 (v := .bool b13) rfl (by cases g11 <;> kernel_rfl) ?hy94 ?rest94
  case hy94 => (intro hg; subst hg; (try simp only [cond_true]); rw [← T13.out]; go_simp; first | done | with_reducible rfl)
  try simp only [Act.put, List.setIfInBounds_toArray, List.set_cons_zero, List.set_cons_succ]
  refine wl_yes 95 (v := .bool g12) rfl (by kernel_rfl) ?hy95 ?rest95
  case hy95 => (rw [G12.out]; cases g11 <;> (go_simp; first | done | with_reducible rfl))
  try simp only [Act.put, List.setIfInBounds_toArray, List.set_cons_zero, List.set_cons_succ]
  refine wl_yes 96 (v := ?_) rfl (by kernel_rfl) ?hy96 ?rest96
  case hy96 => (go_simp; first | done | with_reducible rfl)
  try simp only [Act.put, List.setIfInBounds_toArray, List.set_cons_zero, List.set_cons_succ]
  refine wl_if 97 g12 (v := ?_) rfl (by cases g12 <;> kernel_rfl) ?hy97 ?rest97
  case hy97 => (intro hg; subst hg; (try simp only [cond_true]); go_simp; first | done | with_reducible rfl)
  try simp only [Act.put, List.setIfInBounds_toArray, List.set_cons_zero, List.set_cons_succ]
  refine wl_if 98 g12 (v := ?_) rfl (by cases g12 <;> kernel_rfl) ?hy98 ?rest98
  case hy98 => (intro hg; subst hg; (try simp only [cond_true]); have z14 := A1.out.cell (i := 14) (v := .bool a.holes) rfl; go_simp; first | done | with_reducible rfl)
  try simp only [Act.put, List.setIfInBounds_toArray, List.set_cons_zero, List.set_cons_succ]
  refine wl_if 99 g12 (v := ?_) rfl (by cases g12 <;> kernel_rfl) ?hy99 ?rest99
  case hy99 => (intro hg; subst hg; (try simp only [cond_true]); go_simp; first | done | with_reducible rfl)
  try simp only [Act.put, List.setIfInBounds_toArray, List.set_cons_zero, List.set_cons_succ]
  refine wl_if 100 g12 (v := ?_) rfl (by cases g12 <;> kernel_rfl) ?hy100 ?rest100
  case hy100 => (intro hg; subst hg; (try simp only [cond_true]); have z14 := B1.out.cell (i := 14) (v := .bool b.holes) rfl; go_simp; first | done | with_reducible rfl)
  try simp only [Act.put, List.setIfInBounds_toArray, List.set_cons_zero, List.set_cons_succ]
  refine wl_if 101 g12 (v := .bool b14) rfl (by cases g12 <;> kernel_rfl) ?hy101 ?rest101
  case hy101 => (intro hg; subst hg; (try simp only [cond_true]); rw [← T14.out]; go_simp; first | done | with_reducible rfl)
  try simp only [Act.put, List.setIfInBounds_toArray, List.set_cons_zero, List.set_cons_succ]
  refine wl_yes 102 (v := .bool g13) rfl (by kernel_rfl) ?hy102 ?rest102
  case hy102 => (rw [G13.out]; cases g12 <;> (go_simp; first | done | with_reducible rfl))
  try simp only [Act.put, List.setIfInBounds_toArray, List.set_cons_zero, List.set_cons_succ]
  refine wl_yes 103 (v := ?_) rfl (by kernel_rfl) ?hy103 ?rest103
  case hy103 => (go_simp; first | done | with_reducible rfl)
  try simp only [Act.put, List.setIfInBounds_toArray, List.set_cons_zero, List.set_cons_succ]
  refine wl_if 104 g13 (v := ?_) rfl (by cases g13 <;> kernel_rfl) ?hy104 ?rest104
  case hy104 => (intro hg; subst hg; (try simp only [cond_true]); go_simp; first | done | with_reducible rfl)
  try simp only [Act.put, List.setIfInBounds_toArray, List.set_cons_zero, List.set_cons_succ]
  refine wl_if 105 g13 (v := ?_) rfl (by cases g13 <;> kernel_rfl) ?hy105 ?rest105
  case hy105 => (intro hg; subst hg; (try simp only [cond_true]); have z15 := A1.out.cell (i := 15) (v := .slice Pa a.parts.length pa) rfl; go_simp; first | done | with_reducible rfl)
  try simp only [Act.put, List.setIfInBounds_toArray, List.set_cons_zero, List.set_cons_succ]
  refine wl_if 106 g13 (v := ?_) rfl (by cases g13 <;> kernel_rfl) ?hy106 ?rest106
  case hy106 => (intro hg; subst hg; (try simp only [cond_true]); go_simp; first | done | with_reducible rfl)
  try simp only [Act.put, List.setIfInBounds_toArray, List.set_cons_zero, List.set_cons_succ]
  refine wl_if 107 g13 (v := ?_) rfl (by cases g13 <;> kernel_rfl) ?hy107 ?rest107
  case hy107 => (intro hg; subst hg; (try simp only [cond_true]); have z15 := B1.out.cell (i := 15) (v := .slice Pb b.parts.length pb) rfl; go_simp; first | done | with_reducible rfl)
  try simp only [Act.put, List.setIfInBounds_toArray, List.set_cons_zero, List.set_cons_succ]
  cases g13 with
  | false =>
    refine wl_if 108 false (v := undef) rfl (by kernel_rfl) (fun h => by cases h) ?rest108
    try simp only [Act.put, List.setIfInBounds_toArray, List.set_cons_zero, List.set_cons_succ]
    refine wl_yes 109 (v := .bool false) rfl (by kernel_rfl) ?hy109 ?rest109
    case hy109 => (go_simp; first | done | with_reducible rfl)
    try simp only [Act.put, List.setIfInBounds_toArray, List.set_cons_zero, List.set_cons_succ]
    refine wl_yes 110 (v := ?_) rfl (by kernel_rfl) ?hy110 ?rest110
    case hy110 => (go_simp; first | done | with_reducible rfl)
    try simp only [Act.put, List.setIfInBounds_toArray, List.set_cons_zero, List.set_cons_succ]
    refine wl_if 111 false (v := undef) rfl (by kernel_rfl) (fun h => by cases h) ?rest111
    try simp only [Act.put, List.setIfInBounds_toArray, List.set_cons_zero, List.set_cons_succ]
    refine wl_if 112 false (v := undef) rfl (by kernel_rfl) (fun h => by cases h) ?rest112
    try simp only [Act.put, List.setIfInBounds_toArray, List.set_cons_zero, List.set_cons_succ]
    refine wl_if 113 false (v := undef) rfl (by kernel_rfl) (fun h => by cases h) ?rest113
    try simp only [Act.put, List.setIfInBounds_toArray, List.set_cons_zero, List.set_cons_succ]
    refine wl_if 114 false (v := undef) rfl (by kernel_rfl) (fun h => by cases h) ?rest114
    try simp only [Act.put, List.setIfInBounds_toArray, List.set_cons_zero, List.set_cons_succ]
    refine wl_if 115 false (v := undef) rfl (by kernel_rfl) (fun h => by cases h) ?rest115
    try simp only [Act.put, List.setIfInBounds_toArray, List.set_cons_zero, List.set_cons_succ]
    refine wl_yes 116 (v := .bool false) rfl (by kernel_rfl) ?hy116 ?rest116
    case hy116 => (go_simp; first | done | with_reducible rfl)
    try simp only [Act.put, List.setIfInBounds_toArray, List.set_cons_zero, List.set_cons_succ]
    refine wl_yes 4 (v := ?_) rfl (by kernel_rfl) ?hy4 ?rest4
    case hy4 => (go_simp; first | done | with_reducible rfl)
    try simp only [Act.put, List.setIfInBounds_toArray, List.set_cons_zero, List.set_cons_succ]
    refine wpList_nil ?_
    go_wp2_with fail
    go_ret
    exact ⟨by rw [HT.out]; rfl, HW.out⟩
  | true =>
    have HP2 := hid (HP.out _ HW.out)
    refine wl_call 108 (v := .bool b15) rfl (by kernel_rfl) (by go_simp; first | done | with_reducible rfl) HP2.out ?_
    intro w5 hb5
    try simp only [Act.put, List.setIfInBounds_toArray, List.set_cons_zero, List.set_cons_succ]
    have HW5 := hid (HW.out.trans (hb5.mono HW.out.size))
    have A5 := hid (A1.out.below hb5 A1.out.lt)
    have B5 := hid (B1.out.below hb5 B1.out.lt)
    clear hb5 HP2
    refine wl_yes 109 (v := .bool b15) rfl (by kernel_rfl) ?hyT109 ?restT109
    case hyT109 => (cases b15 <;> (go_simp; first | done | with_reducible rfl))
    try simp only [Act.put, List.setIfInBounds_toArray, List.set_cons_zero, List.set_cons_succ]
    refine wl_yes 110 (v := ?_) rfl (by kernel_rfl) ?hyT110 ?restT110
    case hyT110 => (go_simp; first | done | with_reducible rfl)
    try simp only [Act.put, List.setIfInBounds_toArray, List.set_cons_zero, List.set_cons_succ]
    refine wl_if 111 b15 (v := ?_) rfl (by cases b15 <;> kernel_rfl) ?hyT111 ?restT111
    case hyT111 => (intro hg; subst hg; (try simp only [cond_true]); go_simp; first | done | with_reducible rfl)
    try simp only [Act.put, List.setIfInBounds_toArray, List.set_cons_zero, List.set_cons_succ]
    refine wl_if 112 b15 (v := ?_) rfl (by cases b15 <;> kernel_rfl) ?hyT112 ?restT112
    case hyT112 => (intro hg; subst hg; (try simp only [cond_true]); have z16 := A5.out.cell (i := 16) (v := .slice Ea a.extra.length ea) rfl; go_simp; first | done | with_reducible rfl)
    try simp only [Act.put, List.setIfInBounds_toArray, List.set_cons_zero, List.set_cons_succ]
    refine wl_if 113 b15 (v := ?_) rfl (by cases b15 <;> kernel_rfl) ?hyT113 ?restT113
    case hyT113 => (intro hg; subst hg; (try simp only [cond_true]); go_simp; first | done | with_reducible rfl)
    try simp only [Act.put, List.setIfInBounds_toArray, List.set_cons_zero, List.set_cons_succ]
    refine wl_if 114 b15 (v := ?_) rfl (by cases b15 <;> kernel_rfl) ?hyT114 ?restT114
    case hyT114 => (intro hg; subst hg; (try simp only [cond_true]); have z16 := B5.out.cell (i := 16) (v := .slice Eb b.extra.length eb) rfl; go_simp; first | done | with_reducible rfl)
    try simp only [Act.put, List.setIfInBounds_toArray, List.set_cons_zero, List.set_cons_succ]
    cases b15 with
    | false =>
      refine wl_if 115 false (v := undef) rfl (by kernel_rfl) (fun h => by cases h) ?restV115
      try simp only [Act.put, List.setIfInBounds_toArray, List.set_cons_zero, List.set_cons_succ]
      refine wl_yes 116 (v := .bool false) rfl (by kernel_rfl) ?hyV116 ?restV116
      case hyV116 => (go_simp; first | done | with_reducible rfl)
      try simp only [Act.put, List.setIfInBounds_toArray, List.set_cons_zero, List.set_cons_succ]
      refine wl_yes 4 (v := ?_) rfl (by kernel_rfl) ?hyV4 ?restV4
      case hyV4 => (go_simp; first | done | with_reducible rfl)
      try simp only [Act.put, List.setIfInBounds_toArray, List.set_cons_zero, List.set_cons_succ]
      refine wpList_nil ?_
      go_wp2_with fail
      go_ret
      exact ⟨by rw [HT.out]; rfl, HW5.out⟩
    | true =>
      have HE2 := hid (HE.out _ HW5.out)
      refine wl_call 115 (v := .bool b16) rfl (by kernel_rfl) (by go_simp; first | done | with_reducible rfl) HE2.out ?_
      intro w6 hb6
      try simp only [Act.put, List.setIfInBounds_toArray, List.set_cons_zero, List.set_cons_succ]
      have HW6 := hid (HW5.out.trans (hb6.mono HW5.out.size))
      refine wl_yes 116 (v := .bool b16) rfl (by kernel_rfl) ?hyU116 ?restU116
      case hyU116 => (cases b16 <;> (go_simp; first | done | with_reducible rfl))
      try simp only [Act.put, List.setIfInBounds_toArray, List.set_cons_zero, List.set_cons_succ]
      refine wl_yes 4 (v := ?_) rfl (by kernel_rfl) ?hyU4 ?restU4
      case hyU4 => (go_simp; first | done | with_reducible rfl)
      try simp only [Act.put, List.setIfInBounds_toArray, List.set_cons_zero, List.set_cons_succ]
      refine wpList_nil ?_
      go_wp2_with fail
      go_ret
      exact ⟨by rw [HT.out]; rfl, HW6.out⟩
end Go.Proofs.YtgfihdfncddpaaaGreatDoor

/-! Split of any text, and Same of any two, are what the chapter says. -/
namespace Go.Proofs.YtgfihdfncddpaaaGreatDoor
open Go.RowKit Go.Lib
open Px (R2 tl)
attribute [local go_sem ↓] add_plain
end Go.Proofs.YtgfihdfncddpaaaGreatDoor

namespace Go.Proofs.YtgfihdfncddpaaaGreatDoor
open Go.RowKit Go.Lib
open Px (R2 tl)
attribute [local go_sem ↓] add_plain
/-- A choice; none: 0. -/
def gz (zs : List Int) (i : Nat) : Int := zs.getD i 0
theorem gz_bd {zs : List Int} (h : ∀ z ∈ zs, 0 ≤ z ∧ z ≤ 255) (i : Nat) : 0 ≤ gz zs i ∧ gz zs i ≤ 255 := by
  unfold gz
  rw [List.getD_eq_getElem?_getD]
  cases hz : zs[i]? with
  | none => exact (by decide : (0 : Int) ≤ 0 ∧ (0 : Int) ≤ 255)
  | some z => exact h z (List.mem_of_getElem? hz)
set_option maxRecDepth 100000 in
set_option maxHeartbeats 1000000 in
theorem g_any (A : Option Addr) (n c : Nat) (zs : List Int) (i : Nat) (hn : n ≤ 9223372036854775807) (hi : i ≤ 1000) (w : World) (B : Nat) (h : Sp.Rd w B A n zs) :
    Calls Tryz.prog 15 #[.slice A n c, .int .i64 i] w fun e w' => e = .returned (.int .i64 (gz zs i)) ∧ Below w.heap.size w w' := by
  by_cases hlt : i < n
  · obtain ⟨b, off, z, rfl, hbb, h0, h1, hz, hc⟩ := h.at_ hlt
    have HG := hid (show gz zs i = z by unfold gz; rw [List.getD_eq_getElem?_getD, hz]; rfl)
    have e1 : IntKind.i64.wrap z = z := IntWalk.i64_in _ (by omega)
    clear hz h
    go_enter Tryz.func15, Tryz.ntmps15
    go_wp2
    go_ret
    exact ⟨by rw [HG.out]; rfl, Below.refl _ _⟩
  · have HG := hid (show gz zs i = 0 by unfold gz; rw [List.getD_eq_getElem?_getD, List.getElem?_eq_none (by rw [h.len]; omega)]; rfl)
    have hge : n ≤ i := by omega
    clear h
    go_enter Tryz.func15, Tryz.ntmps15
    go_wp2
    go_ret
    exact ⟨by rw [HG.out]; rfl, Below.refl _ _⟩

def nameL : List ByteArray := [⟨#[97]⟩, ⟨#[98]⟩, ⟨#[100, 47, 97]⟩, ⟨#[100, 47, 98]⟩, ⟨#[108, 111, 110, 103, 47, 101]⟩]
/-- The path of a choice. -/
def nameT (k : Nat) : ByteArray :=
  if k % 8 = 0 then ⟨#[120]⟩ ++ wordT k k
  else if k % 8 = 1 then ⟨#[120]⟩ ++ wordT (90 + k % 20) (90 + k % 20) ++ ⟨#[121]⟩
  else if k % 8 = 2 then ⟨#[100, 105, 114, 47]⟩ ++ wordT (k % 9) (k % 9) ++ ⟨#[122]⟩
  else nameL.getD (k % 5) ⟨#[]⟩
theorem nameL_size : ∀ x ∈ nameL, 1 ≤ x.size ∧ x.size ≤ 6 := by decide
theorem nameT_size (k : Nat) (hk : k ≤ 255) : 1 ≤ (nameT k).size ∧ (nameT k).size ≤ 600 := by
  have a1 : (⟨#[120]⟩ : ByteArray).size = 1 := rfl
  have a2 : (⟨#[121]⟩ : ByteArray).size = 1 := rfl
  have a3 : (⟨#[122]⟩ : ByteArray).size = 1 := rfl
  have a4 : (⟨#[100, 105, 114, 47]⟩ : ByteArray).size = 4 := rfl
  unfold nameT
  split
  · have := wordT_size k k
    rw [ByteArray.size_append, a1]; omega
  · split
    · have := wordT_size (90 + k % 20) (90 + k % 20)
      rw [ByteArray.size_append, ByteArray.size_append, a1, a2]; omega
    · split
      · have := wordT_size (k % 9) (k % 9)
        rw [ByteArray.size_append, ByteArray.size_append, a3, a4]; omega
      · have hl : k % 5 < nameL.length := by show _ < 5; exact Nat.mod_lt _ (by decide)
        have h2 := nameL_size _ (List.getElem_mem hl)
        rw [List.getD_eq_getElem?_getD, List.getElem?_eq_getElem hl]
        show 1 ≤ (nameL[k % 5]).size ∧ (nameL[k % 5]).size ≤ 600
        omega
set_option maxRecDepth 100000 in
set_option maxHeartbeats 2000000 in
theorem name_any (k : Nat) (hk : k ≤ 255) (w : World) :
    Calls Tryz.prog 14 #[.int .i64 k] w fun e w' => e = .returned (.string (nameT k)) ∧ Below w.heap.size w w' := by
  have e8 : (k : Int).tmod 8 = ((k % 8 : Nat) : Int) := by rw [Int.tmod_eq_emod_of_nonneg (by omega)]; omega
  obtain ⟨r, hr⟩ : ∃ r, k % 8 = r := ⟨_, rfl⟩
  rw [hr] at e8
  by_cases h0 : r = 0
  · have HN := hid (show nameT k = ⟨#[120]⟩ ++ wordT k k by unfold nameT; rw [if_pos (by omega)])
    have d0 : ((r : Int) == 0) = true := by rw [beq_iff_eq]; omega
    have hs := wordT_size k k
    have HT := hid (fun V => textX_any k (by omega) V)
    generalize wordT k k = t at *
    clear h0 hr
    go_enter Tryz.func14, Tryz.ntmps14
    go_wp2_with (go_at_call 16; (with_reducible refine (HT.out _).mono ?_); rintro e w1 ⟨rfl, hb1⟩)
    go_ret
    exact ⟨by rw [HN.out]; rfl, hb1⟩
  · by_cases h1 : r = 1
    · have HN := hid (show nameT k = ⟨#[120]⟩ ++ wordT (90 + k % 20) (90 + k % 20) ++ ⟨#[121]⟩ by unfold nameT; rw [if_neg (by omega), if_pos (by omega)])
      have d0 : ((r : Int) == 0) = false := by rw [beq_eq_false_iff_ne]; omega
      have d1 : ((r : Int) == 1) = true := by rw [beq_iff_eq]; omega
      obtain ⟨q, hq⟩ : ∃ q, 90 + k % 20 = q := ⟨_, rfl⟩
      rw [hq] at HN
      have e20 : (k : Int).tmod 20 = ((k % 20 : Nat) : Int) := by rw [Int.tmod_eq_emod_of_nonneg (by omega)]; omega
      have e21 : IntKind.i64.wrap (90 + ((k % 20 : Nat) : Int)) = (q : Int) := by rw [IntWalk.i64_in _ (by omega)]; omega
      have hs := wordT_size q q
      have HT := hid (fun V => textX_any q (by omega) V)
      generalize wordT q q = t at *
      have hq110 : q ≤ 110 := by omega
      generalize k % 20 = m at *
      clear h0 h1 hr hq
      go_enter Tryz.func14, Tryz.ntmps14
      go_wp2_with (go_at_call 16; (with_reducible refine (HT.out _).mono ?_); rintro e w1 ⟨rfl, hb1⟩)
      go_ret
      exact ⟨by rw [HN.out]; rfl, hb1⟩
    · by_cases h2 : r = 2
      · have HN := hid (show nameT k = ⟨#[100, 105, 114, 47]⟩ ++ wordT (k % 9) (k % 9) ++ ⟨#[122]⟩ by unfold nameT; rw [if_neg (by omega), if_neg (by omega), if_pos (by omega)])
        have d0 : ((r : Int) == 0) = false := by rw [beq_eq_false_iff_ne]; omega
        have d1 : ((r : Int) == 1) = false := by rw [beq_eq_false_iff_ne]; omega
        have d2 : ((r : Int) == 2) = true := by rw [beq_iff_eq]; omega
        have e9 : (k : Int).tmod 9 = ((k % 9 : Nat) : Int) := by rw [Int.tmod_eq_emod_of_nonneg (by omega)]; omega
        obtain ⟨q, hq⟩ : ∃ q, k % 9 = q := ⟨_, rfl⟩
        rw [hq] at HN e9
        have hs := wordT_size q q
        have HT := hid (fun V => textX_any q (by omega) V)
        generalize wordT q q = t at *
        have hq9 : q ≤ 9 := by omega
        clear h0 h1 h2 hr hq
        go_enter Tryz.func14, Tryz.ntmps14
        go_wp2_with (go_at_call 16; (with_reducible refine (HT.out _).mono ?_); rintro e w1 ⟨rfl, hb1⟩)
        go_ret
        exact ⟨by rw [HN.out]; rfl, hb1⟩
      · have HN := hid (show nameT k = nameL.getD (k % 5) ⟨#[]⟩ by unfold nameT; rw [if_neg (by omega), if_neg (by omega), if_neg (by omega)])
        have d0 : ((r : Int) == 0) = false := by rw [beq_eq_false_iff_ne]; omega
        have d1 : ((r : Int) == 1) = false := by rw [beq_eq_false_iff_ne]; omega
        have d2 : ((r : Int) == 2) = false := by rw [beq_eq_false_iff_ne]; omega
        have e5 : (k : Int).tmod 5 = ((k % 5 : Nat) : Int) := by rw [Int.tmod_eq_emod_of_nonneg (by omega)]; omega
        obtain ⟨q, hq⟩ : ∃ q, k % 5 = q := ⟨_, rfl⟩
        rw [hq] at HN e5
        have hql : q < nameL.length := by show q < 5; omega
        have hcx : (w.alloc (.cells #[.string ⟨#[97]⟩, .string ⟨#[98]⟩, .string ⟨#[100, 47, 97]⟩, .string ⟨#[100, 47, 98]⟩, .string ⟨#[108, 111, 110, 103, 47, 101]⟩] 9)).cell? ⟨w.heap.size, q, none⟩ = some (.string nameL[q]) := by
          refine (World.cell?_alloc_mark w _ 9 (0, 0) q).trans ?_
          have e : (#[Value.string ⟨#[97]⟩, .string ⟨#[98]⟩, .string ⟨#[100, 47, 97]⟩, .string ⟨#[100, 47, 98]⟩, .string ⟨#[108, 111, 110, 103, 47, 101]⟩] : Array Value) = (nameL.map Value.string).toArray := rfl
          rw [e]
          simp [hql]
        have HN2 := hid (show nameT k = nameL[q] by rw [HN.out, List.getD_eq_getElem?_getD, List.getElem?_eq_getElem hql]; rfl)
        obtain ⟨x, hx⟩ : ∃ x, nameL[q] = x := ⟨_, rfl⟩
        rw [hx] at hcx HN2
        have hq5 : q < 5 := hql
        clear h0 h1 h2 hr hq HN hx hql
        go_enter Tryz.func14, Tryz.ntmps14
        go_wp2
        go_ret
        exact ⟨by rw [HN2.out]; rfl, (Below.refl _ w).alloc (Nat.le_refl _) _⟩
end Go.Proofs.YtgfihdfncddpaaaGreatDoor

namespace Go.Proofs.YtgfihdfncddpaaaGreatDoor
open Go.RowKit Go.WideShapes Go.ChangeShapes

section
variable {H : Type} {enc : TypeId × Value → H} {P : Program}
/-- The row's last step, where the world below is as it was. -/
theorem post_of_below {f : Func} {s : ChangeSpec} {apart fresh handsOn again : Bool} {W W' : World} {args : Array Value} {v : Value} {ds gs : List (DataW H)} {before pa pv : List MemPlace}
    (hW : DataW.Whole enc P f.params.toList s.vars apart W args.toList ds gs before)
    (hres : ∀ (b : Nat) (sp : Nat → Bool) (hd : Bool), DataW.TrodAll enc P W' b sp hd f.resultTypes.toList (v.resultList f.resultTypes.size) (s.fn H (ds ++ gs)).results [])
    (hargs : ∀ sp : Nat → Bool, (∀ p ∈ before, sp p.block = true) → DataW.TrodAll enc P W' 0 sp true f.params.toList args.toList (s.fn H (ds ++ gs)).args pa)
    (hvars : ∀ sp : Nat → Bool, (∀ p ∈ before, sp p.block = true) → DataW.TrodVars enc P W' sp s.vars (s.fn H (ds ++ gs)).vars pv)
    (hps : before = pa ++ pv) (hb : Below W.heap.size W W')
    (hok : ∀ (j : Nat) (t : TypeId) (r : Value), f.resultTypes[j]? = some t → (v.resultList f.resultTypes.size)[j]? = some r → Value.okWide P W' .any 0 t r) :
    s.post enc P f apart fresh handsOn again W args v W' := by
  have hlt : ∀ p ∈ before, p.block < W.heap.size := fun p hp => hW.lt p hp
  have hold : ∀ p ∈ before, (fun b => decide (b < W.heap.size)) p.block = true := fun p hp => by simpa using hlt p hp
  refine ⟨ds, gs, before, [], pa, pv, hW, hres _ _ _, hargs _ hold, hvars _ hold, World.keptBut_mono (fun p hp => ⟨hp, ?_⟩) (hb.frame (· ∈ before)), fun _ => ?_⟩
  · rw [hps, List.mem_append] at hp
    exact Or.inr hp
  · obtain ⟨_, _, _, _, _, hz, hn⟩ := hW
    refine ⟨hok, _, _, ([] ++ pa) ++ pv, ⟨[] ++ pa, pv, trodAll_append (hargs _ (fun _ _ => rfl)) (hres _ _ _), hvars _ (fun _ _ => rfl), rfl, ?_, ?_⟩, ?_⟩
    · intro b off hp
      have hin : MemPlace.cell b off ∈ before := by rw [hps]; simpa using hp
      rw [hb.frozen (hlt _ hin)]
      exact hz b off hin
    · intro ha
      have := hn ha
      rw [hps] at this
      simpa using this
    · intro p hp _
      rw [hps]
      simpa using hp
end

/-- Bytes that came in. -/
theorem rd_of_row {w : World} {a : Option Addr} {len cap : Nat} {zs : List Int}
    (h : (a = none ∧ len = 0 ∧ cap = 0 ∧ zs = []) ∨
      ∃ x, a = some x ∧ len ≤ cap ∧ cap ≤ maxLen ∧ zs.length = cap ∧ (∀ i, i < zs.length → w.cell? (x.add i) = some (.int .u8 (zs.getD i 0))) ∧ ∀ n ∈ zs, (Lit.int .u8 n).wf = true) :
    Sp.Rd w w.heap.size a len (zs.take len) ∧ len ≤ cap ∧ cap ≤ maxLen := by
  rcases h with ⟨rfl, rfl, rfl, rfl⟩ | ⟨x, rfl, hl, hm, hz, hcell, hwz⟩
  · exact ⟨Sp.Rd.none_, Nat.le_refl _, Nat.zero_le _⟩
  · refine ⟨⟨by rw [List.length_take]; omega, fun z hz' => bounds_u8 (hwz z (List.mem_of_mem_take hz')), fun hn => ?_⟩, hl, hm⟩
    obtain ⟨b, off, spot⟩ := x
    have hc := hcell 0 (by omega)
    have hspot : spot = none := by simpa [Addr.add] using World.cell?_spot hc
    subst hspot
    have hb : b < w.heap.size := by
      have hc' := hc
      rw [show (⟨b, off, none⟩ : Addr).add 0 = ⟨b, off, none⟩ from by simp [Addr.add]] at hc'
      exact World.block_lt_of_cell? _ _ hc'
    refine ⟨b, off, rfl, hb, fun j z hj => ?_⟩
    rw [List.getElem?_take] at hj
    split at hj
    · rename_i hjl
      have hjz : j < zs.length := by omega
      have hcj := hcell j hjz
      have e : (⟨b, off, none⟩ : Addr).add j = ⟨b, off + j, none⟩ := by
        unfold Addr.add
        split
        · rename_i h0
          subst h0
          rfl
        · rfl
      rw [e, List.getD_eq_getElem?_getD, hj] at hcj
      exact hcj
    · cases hj


/-- Atoi's and Itoa's tables. -/
abbrev EV (B : Nat) (w : World) : Prop := Sp.EV B w
theorem star_ : "*" ++ "errors.errorString" = "*errors.errorString" := by decide
/-- What Atoi and Itoa read, out of what is laid. -/
theorem ev_of (w : World) (laid : List (String × DataW Unit)) (a b c : String × DataW Unit) (t1 t2 : List UInt8) (rest : List (String × DataW Unit))
    (hl : laid = a :: b :: ("internal/strconv.uint64pow10", Lib.tabData .u64 Lib.pow10Tab) :: c :: ("strconv.ErrRange", .iface "*errors.errorString" (.ptr (.agg [.lit (.string t1)]))) :: ("strconv.ErrSyntax", .iface "*errors.errorString" (.ptr (.agg [.lit (.string t2)]))) :: rest)
    (hn : (laid.all fun x => x.2.handleName?.isNone) = true) (h : laidMetH Tryz.prog laid w) : EV w.heap.size w := by
  rw [MakeChecks.laidMetH_plain _ _ _ hn, hl] at h
  have h2 := laidMet.tail (laidMet.tail h)
  have h4 := laidMet.tail (laidMet.tail h2)
  have h5 := laidMet.tail h4
  have hrow : ∀ u, Tryz.prog.typeName? 3 u = some "*errors.errorString" → u = 221 := fun u h =>
    typeName_ptr_named (nm := "errors.errorString") (by rw [star_]; kernel_rfl) (by kernel_rfl) (by decide) u (by rw [star_]; exact h)
  obtain ⟨a1, s1, hv1, _⟩ := laid_sentinel h4 (g := 3) (ti := 144) (tp := 221) (te := 223) (ts := 9) (by kernel_rfl) (by kernel_rfl) Tryz.underlying144 hrow Tryz.underlying221 Tryz.underlying223 rfl rfl Tryz.underlying9 (by kernel_rfl) (by kernel_rfl)
  obtain ⟨a2, s2, hv2, _⟩ := laid_sentinel h5 (g := 2) (ti := 144) (tp := 221) (te := 223) (ts := 9) (by kernel_rfl) (by kernel_rfl) Tryz.underlying144 hrow Tryz.underlying221 Tryz.underlying223 rfl rfl Tryz.underlying9 (by kernel_rfl) (by kernel_rfl)
  have c1 := World.var?_cell (g := 3) (by kernel_rfl) hv1 0
  have c2 := World.var?_cell (g := 2) (by kernel_rfl) hv2 0
  exact ⟨Lib.tabBelow_of_tabIs (Lib.tabIs_of_head (g := 0) (by kernel_rfl) (by kernel_rfl) Tryz.underlying177 Tryz.underlying156 (by kernel_rfl) (by kernel_rfl) h2),
    ⟨World.block_lt_of_cell? _ _ c2, _, _, c2⟩, ⟨World.block_lt_of_cell? _ _ c1, _, _, c1⟩⟩
end Go.Proofs.YtgfihdfncddpaaaGreatDoor

/-! The parts of choices: what the statements feed on. -/
namespace Go.Proofs.YtgfihdfncddpaaaGreatDoor.Sp
open Go.RowKit Go.Lib

namespace M
def sumL (l : List Pt) : Int := (l.map (·.2)).sum
theorem sumL_snoc (l : List Pt) (p : Pt) : sumL (l ++ [p]) = sumL l + p.2 := by simp [sumL]
/-- Parts of choices. -/
structure Few (l : List Pt) (n e : Int) : Prop where
  len : l.length ≤ 8
  parts : ∀ p ∈ l, (-10000 ≤ p.1 ∧ p.1 ≤ 10000) ∧ 1 ≤ p.2 ∧ p.2 ≤ 30
  sum : n = sumL l
  n0 : 0 ≤ n ∧ n ≤ 240
  e0 : -10000 ≤ e ∧ e ≤ 10000
theorem Few.i64 {l : List Pt} {n e : Int} (h : Few l n e) : i64s l := by
  intro p hp
  have := h.parts p hp
  omega
/-- The parts of choices, k of them, and where they end. -/
def chP (zs : List Int) : Nat → List Pt × Int
  | 0 => ([], 0)
  | k + 1 =>
    ((chP zs k).1 ++ [((chP zs k).2 + zs.getD (2 * k) 0 % 40 - (if 250 < zs.getD (2 * k) 0 then 50 else 0), 1 + zs.getD (2 * k + 1) 0 % 30)],
      ((chP zs k).2 + zs.getD (2 * k) 0 % 40 - (if 250 < zs.getD (2 * k) 0 then 50 else 0)) + (1 + zs.getD (2 * k + 1) 0 % 30))
def chParts (zs : List Int) : List Pt := (chP zs (min (zs.length / 2) 8)).1
theorem chP_step {zs : List Int} {i k : Nat} {acc : List Pt} {a z0 z1 x y p q : Int} (h : chP zs k = (acc, a)) (hik : i = 2 * k) (h0 : zs[i]? = some z0) (h1 : zs[i + 1]? = some z1) (b0 : 0 ≤ z0) (b1 : 0 ≤ z1)
    (hx : Int.tmod z0 40 = x) (hy : Int.tmod z1 30 = y) (hp : a + x - (if 250 < z0 then 50 else 0) = p) (hq : 1 + y = q) : chP zs (k + 1) = (acc ++ [(p, q)], p + q) := by
  subst hik
  rw [Int.tmod_eq_emod_of_nonneg b0] at hx
  rw [Int.tmod_eq_emod_of_nonneg b1] at hy
  have e0 : zs.getD (2 * k) 0 = z0 := by rw [List.getD_eq_getElem?_getD, h0]; rfl
  have e1 : zs.getD (2 * k + 1) 0 = z1 := by rw [List.getD_eq_getElem?_getD, h1]; rfl
  simp only [chP, h, e0, e1, hx, hy, hp, hq]
end M
/-- What the law's Parts answers. -/
def FewTo (w : World) (e : Ending) (w' : World) : Prop :=
  ∃ v l n at_, e = .returned (.tuple #[v, .int .i64 n, .int .i64 at_]) ∧ OwnP w' w.heap.size v l ∧ M.Few l n at_ ∧ Below w.heap.size w w'
/-- The same, exactly. -/
def FewXTo (zs : List Int) (w : World) (e : Ending) (w' : World) : Prop :=
  ∃ v n at_, e = .returned (.tuple #[v, .int .i64 n, .int .i64 at_]) ∧ OwnP w' w.heap.size v (M.chParts zs) ∧ M.Few (M.chParts zs) n at_ ∧ Below w.heap.size w w'
theorem results_tmp3 {f : Func} {a b c : Nat} (hf : f.results = #[.tmp a, .tmp b, .tmp c]) (tmps : Array Value) (P : Program) (w : World) :
    (results f tmps).run P w = .ok (.tuple #[tmps.getD a undef, tmps.getD b undef, tmps.getD c undef]) w := by
  simp only [results, hf]
  rw [Array.getD_eq_getD_getElem?, Array.getD_eq_getD_getElem?, Array.getD_eq_getD_getElem?]
  simp [go_sem]

set_option maxRecDepth 100000 in
set_option maxHeartbeats 2000000 in
theorem lawPartsX_any (A : Option Addr) (n c : Nat) (zs : List Int) (w : World) (hr : Rd w w.heap.size A n zs) (hn : n ≤ maxLen) :
    Calls Tryz.prog 17 #[.slice A n c] w (FewXTo zs w) := by
  have HL := hid hr.len
  have HR := hid (fun (W : World) (hW : Below w.heap.size w W) => hr.below hW)
  clear hr
  go_enter Tryz.func17, Tryz.ntmps17
  go_wp2
  go_loopw [5, 6, 7, 8] (fun lv av nv iv wr => ∃ (i k : Nat) (acc : List M.Pt) (a m : Int), iv = .int .i64 i ∧ i = 2 * k ∧ i ≤ n ∧ k ≤ 8 ∧ av = .int .i64 a ∧ nv = .int .i64 m ∧ (-100 * (k : Int) ≤ a ∧ a ≤ 100 * (k : Int)) ∧ (0 ≤ m ∧ m ≤ 30 * (k : Int)) ∧ Hid (m = M.sumL acc) ∧ Hid (acc.length = k) ∧ Hid (∀ p ∈ acc, (-10000 ≤ p.1 ∧ p.1 ≤ 10000) ∧ 1 ≤ p.2 ∧ p.2 ≤ 30) ∧ Hid (M.chP zs k = (acc, a)) ∧ Hid (OwnP wr w.heap.size lv acc) ∧ Hid (Below w.heap.size w wr)) (fun _ _ _ iv _ => 16 - (RowKit.intOf iv).toNat)
  case atStart => exact ⟨0, 0, [], 0, 0, rfl, rfl, Nat.zero_le _, Nat.zero_le _, rfl, rfl, by omega, by omega, hid rfl, hid rfl, hid (by intro p hp; cases hp), hid rfl, hid (OwnP.nil _ _), hid (Below.refl _ _)⟩
  case round =>
    obtain ⟨i, k, acc, a, m, rfl, hik, hin, hk, rfl, rfl, ha, hm, HS, HAL, HP, HCP, HO, HB⟩ := hrel
    obtain ⟨A1, c1, rfl, _, _⟩ := HO.out.rd
    have hbs := HB.out.size
    have HO1 := hid HO.out
    have hal : acc.length ≤ 1000000 := by rw [HAL.out]; omega
    by_cases hlt : i + 1 < n ∧ i < 16
    · obtain ⟨hlt1, hlt2⟩ := hlt
      obtain ⟨b, off, z0, rfl, hb, z00, z01, hz0, hcz⟩ := (HR.out wr HB.out).at_ (k := i) (by omega)
      obtain ⟨b', off', z1, eA, _, z10, z11, hz1, hcz1⟩ := (HR.out wr HB.out).at_ (k := i + 1) hlt1
      injection eA with eA
      injection eA with e1 e2
      subst e1 e2
      obtain ⟨x, hx⟩ : ∃ x : Int, Int.tmod z0 40 = x := ⟨_, rfl⟩
      obtain ⟨y, hy⟩ : ∃ y : Int, Int.tmod z1 30 = y := ⟨_, rfl⟩
      have hxb : 0 ≤ x ∧ x < 40 := by rw [Int.tmod_eq_emod_of_nonneg z00] at hx; omega
      have hyb : 0 ≤ y ∧ y < 30 := by rw [Int.tmod_eq_emod_of_nonneg z10] at hy; omega
      obtain ⟨x0, x1⟩ := hxb
      obtain ⟨y0, y1⟩ := hyb
      have hab : -800 ≤ a ∧ a ≤ 800 := by omega
      have hmb : 0 ≤ m ∧ m ≤ 240 := by omega
      obtain ⟨a0, a1⟩ := hab
      obtain ⟨m0, m1⟩ := hmb
      have HI := hid (⟨hik, ha, hm⟩ : _ ∧ _ ∧ _)
      have d1 : decide ((i : Int) + 1 < (n : Int)) = true := by rw [decide_eq_true_eq]; omega
      have d2 : decide ((i : Int) < 16) = true := by rw [decide_eq_true_eq]; omega
      have HCS := hid (fun (p q : Int) hp hq => M.chP_step (p := p) (q := q) HCP.out hik hz0 hz1 z00 z10 hx hy hp hq)
      clear hz0 hz1 hik ha hm hk
      have hbne : b < wr.heap.size := Nat.lt_of_lt_of_le hb hbs
      have hcy := (World.cell?_alloc_lt wr (.cells #[.int .i64 (a + x), .int .i64 (1 + y)] 89) ⟨b, off + i, none⟩ hbne).trans hcz
      by_cases hbig : 250 < z0
      · have d3 : decide (250 < z0) = true := by rw [decide_eq_true_eq]; exact hbig
        rw [if_pos hbig] at HCS
        have hbx := BoxP.new wr (a + x - 50) (1 + y)
        have HB2 := hid (HB.out.alloc hbs (.cells #[.int .i64 (a + x - 50), .int .i64 (1 + y)] 89))
        have HO2 := hid (HO.out.alloc (.cells #[.int .i64 (a + x - 50), .int .i64 (1 + y)] 89))
        have k0 := hbx.cell0
        have k1 := hbx.cell1
        clear hbig hbx HO
        by_cases hi0 : i = 0
        case' pos =>
          subst hi0
          simp only [Nat.add_zero, Nat.zero_add] at hcz hcz1 hcy
        case' neg => have hip : 0 < i := by omega
        all_goals
          go_upto_region 11 with fail
          generalize World.alloc wr _ = W2 at *
          clear hcz hcz1 hcy d1 d2 d3
          generalize hp1 : a + x - 50 = p1 at *
          generalize hq1 : 1 + y = q1 at *
          have HCX := hid (HCS.out p1 q1 rfl rfl)
          have HPQ := hid (⟨hp1, hq1⟩ : _ ∧ _)
          have hpb : -1000 ≤ p1 ∧ p1 ≤ 1000 := by omega
          have hqb : 1 ≤ q1 ∧ q1 ≤ 30 := by omega
          obtain ⟨hpb0, hpb1⟩ := hpb
          obtain ⟨hqb0, hqb1⟩ := hqb
          have hbs2 := HB2.out.size
          clear hp1 hq1 hx hy
          go_wp2_with (refine wpList_appP rfl (.tmp 57) (.tmp 59) rfl w.heap.size _ acc p1 q1 (by simp [Act.eval]) HO2.out hbs2 (by simp [Act.eval]) hal ?_; intro v' w9 ho9 hb9 _)
          have HAP := hid (show ∀ p ∈ acc ++ [(p1, q1)], (-10000 ≤ p.1 ∧ p.1 ≤ 10000) ∧ 1 ≤ p.2 ∧ p.2 ≤ 30 by
            intro p hp
            rw [List.mem_append, List.mem_singleton] at hp
            rcases hp with hp | rfl
            · exact HP.out p hp
            · dsimp only; omega)
          have hI := HI.out
          have hPQ := HPQ.out
          go_roundw
          case rel => exact ⟨_, k + 1, acc ++ [(p1, q1)], p1 + q1, m + q1, (show Value.int .i64 _ = Value.int .i64 ((_ + 2 : Nat) : Int) by go_num), by omega, by omega, by omega, by go_num, by go_num, by omega, by omega, hid (by rw [M.sumL_snoc, ← HS.out]), hid (by rw [List.length_append, HAL.out]; rfl), HAP, HCX, ho9, hid (HB2.out.trans hb9.out)⟩
          case measure => simp [RowKit.intOf] <;> omega
      · have d3 : decide (250 < z0) = false := by rw [decide_eq_false_iff_not]; exact hbig
        rw [if_neg hbig] at HCS
        simp only [Int.sub_zero] at HCS
        have hbx := BoxP.new wr (a + x) (1 + y)
        have HB2 := hid (HB.out.alloc hbs (.cells #[.int .i64 (a + x), .int .i64 (1 + y)] 89))
        have HO2 := hid (HO.out.alloc (.cells #[.int .i64 (a + x), .int .i64 (1 + y)] 89))
        have k0 := hbx.cell0
        have k1 := hbx.cell1
        clear hbig hbx HO
        by_cases hi0 : i = 0
        case' pos =>
          subst hi0
          simp only [Nat.add_zero, Nat.zero_add] at hcz hcz1 hcy
        case' neg => have hip : 0 < i := by omega
        all_goals
          go_upto_region 11 with fail
          generalize World.alloc wr _ = W2 at *
          clear hcz hcz1 hcy d1 d2 d3
          generalize hp1 : a + x = p1 at *
          generalize hq1 : 1 + y = q1 at *
          have HCX := hid (HCS.out p1 q1 rfl rfl)
          have HPQ := hid (⟨hp1, hq1⟩ : _ ∧ _)
          have hpb : -1000 ≤ p1 ∧ p1 ≤ 1000 := by omega
          have hqb : 1 ≤ q1 ∧ q1 ≤ 30 := by omega
          obtain ⟨hpb0, hpb1⟩ := hpb
          obtain ⟨hqb0, hqb1⟩ := hqb
          have hbs2 := HB2.out.size
          clear hp1 hq1 hx hy
          go_wp2_with (refine wpList_appP rfl (.tmp 57) (.tmp 59) rfl w.heap.size _ acc p1 q1 (by simp [Act.eval]) HO2.out hbs2 (by simp [Act.eval]) hal ?_; intro v' w9 ho9 hb9 _)
          have HAP := hid (show ∀ p ∈ acc ++ [(p1, q1)], (-10000 ≤ p.1 ∧ p.1 ≤ 10000) ∧ 1 ≤ p.2 ∧ p.2 ≤ 30 by
            intro p hp
            rw [List.mem_append, List.mem_singleton] at hp
            rcases hp with hp | rfl
            · exact HP.out p hp
            · dsimp only; omega)
          have hI := HI.out
          have hPQ := HPQ.out
          go_roundw
          case rel => exact ⟨_, k + 1, acc ++ [(p1, q1)], p1 + q1, m + q1, (show Value.int .i64 _ = Value.int .i64 ((_ + 2 : Nat) : Int) by go_num), by omega, by omega, by omega, by go_num, by go_num, by omega, by omega, hid (by rw [M.sumL_snoc, ← HS.out]), hid (by rw [List.length_append, HAL.out]; rfl), HAP, HCX, ho9, hid (HB2.out.trans hb9.out)⟩
          case measure => simp [RowKit.intOf] <;> omega
    · have HCE := hid (show M.chParts zs = acc by
        have e : min (zs.length / 2) 8 = k := by rw [HL.out]; omega
        unfold M.chParts
        rw [e, HCP.out])
      have HF := hid (show M.Few acc m a from ⟨by rw [HAL.out]; exact hk, HP.out, HS.out, by omega, by omega⟩)
      by_cases h1 : i + 1 < n
      case' pos =>
        have d1 : decide ((i : Int) + 1 < (n : Int)) = true := by rw [decide_eq_true_eq]; omega
        have d2 : decide ((i : Int) < 16) = false := by rw [decide_eq_false_iff_not]; omega
      case' neg => have d1 : decide ((i : Int) + 1 < (n : Int)) = false := by rw [decide_eq_false_iff_not]; omega
      all_goals
        have hib : i ≤ 16 := by omega
        clear hlt h1 hik
        go_wp2
        refine bodyPost_ret (results_tmp3 rfl _ _ _) rfl ?_
        exact ⟨_, m, a, rfl, by rw [HCE.out]; exact HO.out, by rw [HCE.out]; exact HF.out, HB.out⟩
theorem lawParts_any (A : Option Addr) (n c : Nat) (zs : List Int) (w : World) (hr : Rd w w.heap.size A n zs) (hn : n ≤ maxLen) :
    Calls Tryz.prog 17 #[.slice A n c] w (FewTo w) :=
  (lawPartsX_any A n c zs w hr hn).mono fun _ _ ⟨v, m, a, h1, h2, h3, h4⟩ => ⟨v, _, m, a, h1, h2, h3, h4⟩
end Go.Proofs.YtgfihdfncddpaaaGreatDoor.Sp

/-! A region that draws its order and has no guards: what each operation leaves is said of its own value alone, and stays so while memory grows; its last operation comes behind all others. Then the order does not matter: each operation is walked once. -/
namespace Go.Proofs.YtgfihdfncddpaaaGreatDoor
open Go.RowKit

/-- With one more value. -/
def upd (f : Nat → Option Value) (i : Nat) (v : Value) : Nat → Option Value := fun j => if j = i then some v else f j
theorem upd_same (f : Nat → Option Value) (i : Nat) (v : Value) : upd f i v i = some v := by unfold upd; rw [if_pos rfl]
theorem upd_ne {f : Nat → Option Value} {i j : Nat} {v : Value} (h : j ≠ i) : upd f i v j = f j := by unfold upd; rw [if_neg h]
/-- The bools that a region of this kind has: no guards; nothing waits for what comes behind it; the last waits for all. -/
def rowsB (md : Region.Mode) (ops : Array Oper) (N : Nat) : Bool :=
  (ops.size == N + 1) && ((List.range (N + 1)).all fun i => match ops[i]? with
    | none => false
    | some o => o.guard.isNone && (o.after.all fun e => decide (e.on < i)) && (decide (i < N) || (List.range N).all fun j => o.after.any fun e => e.on == j && Region.binds md e))

section
variable {P : Program} {ops : Array Oper} {Q : Exit → Act → World → Prop} {md : Region.Mode}
theorem wanted_plain {o : Oper} (h : o.guard = none) (y : Nat → Option Bool) : Region.wanted o y = true := by
  unfold Region.wanted
  rw [h]
theorem wpAny_over {listed : Array Bool} {a : Act} {w : World} (hr : Region.ready md ops listed = []) (h : Q .normal a w) : ∀ fuel, wpAny P md ops Q fuel listed a w
  | 0 => ⟨hr, h⟩
  | _ + 1 => ⟨fun _ => h, by rw [hr]; intro i hi; cases hi⟩
theorem rowsB_at {N : Nat} (hB : rowsB md ops N = true) {i : Nat} (hi : i < N + 1) : ∃ o, ops[i]? = some o ∧ o.guard = none ∧ (∀ e ∈ o.after, e.on < i) ∧ (i < N ∨ ∀ j, j < N → ∃ e ∈ o.after, e.on = j ∧ Region.binds md e = true) := by
  unfold rowsB at hB
  rw [Bool.and_eq_true, List.all_eq_true] at hB
  have h := hB.2 i (List.mem_range.2 hi)
  cases ho : ops[i]? with
  | none => rw [ho] at h; cases h
  | some o =>
    rw [ho] at h
    simp only [Bool.and_eq_true, Bool.or_eq_true, decide_eq_true_eq] at h
    refine ⟨o, rfl, Option.isNone_iff_eq_none.1 h.1.1, ?_, ?_⟩
    · intro e he
      exact of_decide_eq_true ((Array.all_eq_true_iff_forall_mem.1 h.1.2) e he)
    · rcases h.2 with h2 | h2
      · exact .inl h2
      · refine .inr fun j hj => ?_
        obtain ⟨e, he, hb⟩ := Array.any_eq_true'.1 (List.all_eq_true.1 h2 j (List.mem_range.2 hj))
        rw [Bool.and_eq_true, beq_iff_eq] at hb
        exact ⟨e, he, hb.1, hb.2⟩
theorem getD_true_of {listed : Array Bool} {j : Nat} (hj : j < listed.size) : listed.getD j true = listed.getD j false := by
  simp [hj]

/-- The whole region, in whatever order. -/
theorem rows_any (N : Nat) (hB : rowsB md ops N = true) (W0 : World) (act : (Nat → Option Value) → Act) (R : Nat → Value → World → Prop)
    (hmono : ∀ i, i < N → ∀ v w w', Below w.heap.size w w' → R i v w → R i v w')
    (hstep : ∀ i, i < N → ∀ o, ops[i]? = some o → ∀ (f : Nat → Option Value) w, f i = none → Below W0.heap.size W0 w → (∀ j v, f j = some v → R j v w) → (∀ e ∈ o.after, Region.binds md e = true → ∃ v, f e.on = some v) →
      Oper.wp P o (act f) w (fun a' w' => ∃ v, a' = act (upd f i v) ∧ R i v w' ∧ Below w.heap.size w w') Q)
    (hlast : ∀ o, ops[N]? = some o → ∀ (vs : Nat → Value) (f : Nat → Option Value) w, Below W0.heap.size W0 w → (∀ j, j < N → f j = some (vs j) ∧ R j (vs j) w) → Oper.wp P o (act f) w (fun a' w' => Q .normal a' w') Q) :
    ∀ (fuel : Nat) (listed : Array Bool) (f : Nat → Option Value) (w : World), listed.size = N + 1 → (∀ j, j < N + 1 → listed.getD j false = (f j).isSome) → (∀ j, N ≤ j → f j = none) →
      Below W0.heap.size W0 w → (∀ j v, f j = some v → R j v w) → ((List.range (N + 1)).filter fun j => !listed.getD j false).length ≤ fuel → wpAny P md ops Q fuel listed (act f) w := by
  have hsz : ops.size = N + 1 := by
    unfold rowsB at hB
    rw [Bool.and_eq_true, beq_iff_eq] at hB
    exact hB.1
  intro fuel
  induction fuel with
  | zero =>
    intro listed f w hl hf hN hb hR hlen
    have : N ∈ (List.range (N + 1)).filter fun j => !listed.getD j false := by
      rw [List.mem_filter, List.mem_range]
      exact ⟨Nat.lt_succ_self N, by rw [hf N (Nat.lt_succ_self N), hN N (Nat.le_refl N)]; rfl⟩
    have h0 := List.length_pos_of_mem this
    omega
  | succ fuel ih =>
    intro listed f w hl hf hN hb hR hlen
    refine ⟨fun hr => ?_, fun i hi => ?_⟩
    · -- the first that has not come up may come up
      exfalso
      have hex : ∃ j, j < N + 1 ∧ listed.getD j false = false := ⟨N, Nat.lt_succ_self N, by rw [hf N (Nat.lt_succ_self N), hN N (Nat.le_refl N)]; rfl⟩
      have hmin : ∀ n, (∃ j, j ≤ n ∧ j < N + 1 ∧ listed.getD j false = false) → ∃ j, j < N + 1 ∧ listed.getD j false = false ∧ ∀ k, k < j → listed.getD k false = true := by
        intro n
        induction n with
        | zero =>
          rintro ⟨j, h0, h1, h2⟩
          obtain rfl : j = 0 := by omega
          exact ⟨0, h1, h2, fun k hk => absurd hk (Nat.not_lt_zero k)⟩
        | succ n ihn =>
          rintro ⟨j, h0, h1, h2⟩
          by_cases hj : ∃ k, k ≤ n ∧ k < N + 1 ∧ listed.getD k false = false
          · exact ihn hj
          · refine ⟨j, h1, h2, fun k hk => ?_⟩
            cases hk2 : listed.getD k false with
            | true => rfl
            | false => exact absurd ⟨k, by omega, by omega, hk2⟩ hj
      obtain ⟨j0, h1, h2⟩ := hex
      obtain ⟨j, hj, hjl, hjk⟩ := hmin j0 ⟨j0, Nat.le_refl _, h1, h2⟩
      obtain ⟨o, ho, _, hon, _⟩ := rowsB_at hB hj
      have hm : j ∈ Region.ready md ops listed := mem_ready.2 ⟨by rw [getD_true_of (by omega)]; exact hjl, o, ho, fun e he _ => hjk e.on (hon e he)⟩
      rw [hr] at hm
      cases hm
    · obtain ⟨hiu, o, ho, hall⟩ := mem_ready.1 hi
      have hiN : i < N + 1 := by rw [← hsz]; exact (Array.getElem?_eq_some_iff.1 ho).1
      obtain ⟨o', ho', hg, hon, hor⟩ := rowsB_at hB hiN
      obtain rfl : o' = o := Option.some.inj (ho'.symm.trans ho)
      have hpre : ∀ e ∈ o'.after, Region.binds md e = true → ∃ v, f e.on = some v := fun e he hbd => by
        have h1 := hall e he hbd
        have h2 := hon e he
        rw [hf e.on (by omega)] at h1
        exact Option.isSome_iff_exists.1 h1
      have hkey : ∀ j, j < N + 1 → (listed.setIfInBounds i true).getD j false = if j = i then true else listed.getD j false := fun j hj => by
        by_cases e : j = i
        · subst e; rw [if_pos rfl]; simp [hl, hj]
        · rw [if_neg e, getD_set_ne false (Ne.symm e)]
      unfold wpOp
      rw [ho]
      dsimp only
      rw [if_pos (wanted_plain hg _)]
      refine .inl ?_
      by_cases hlt : i < N
      · refine Oper.wp_mono ?_ (hstep i hlt o' ho f w (by
          rw [getD_true_of (by omega), hf i hiN] at hiu
          cases hfi : f i with
          | none => rfl
          | some v => rw [hfi] at hiu; cases hiu) hb hR hpre)
        rintro a' w' ⟨v, rfl, hRv, hbw⟩
        refine ih _ _ w' (by rw [Array.size_setIfInBounds]; exact hl) ?_ ?_ (hb.trans (hbw.mono hb.size)) ?_ ?_
        · intro j hj
          rw [hkey j hj]
          by_cases e : j = i
          · subst e; rw [if_pos rfl, upd_same]; rfl
          · rw [if_neg e, upd_ne e]; exact hf j hj
        · intro j hj
          rw [upd_ne (by omega)]
          exact hN j hj
        · intro j u hu
          by_cases e : j = i
          · subst e; rw [upd_same] at hu; cases hu; exact hRv
          · rw [upd_ne e] at hu
            have hjN : j < N := by
              refine Classical.byContradiction fun h => ?_
              rw [hN j (by omega)] at hu
              cases hu
            exact hmono j hjN u w w' hbw (hR j u hu)
        · have hiF : i ∈ (List.range (N + 1)).filter fun j => !listed.getD j false := by
            rw [List.mem_filter, List.mem_range]
            refine ⟨hiN, ?_⟩
            rw [getD_true_of (by omega)] at hiu
            rw [hiu]
            rfl
          have e1 : ((List.range (N + 1)).filter fun j => !(listed.setIfInBounds i true).getD j false) = ((List.range (N + 1)).filter fun j => !listed.getD j false).filter fun j => j != i := by
            rw [List.filter_filter]
            refine List.filter_congr fun j hj => ?_
            rw [hkey j (List.mem_range.1 hj)]
            by_cases e : j = i
            · subst e; simp
            · simp [e]
          rw [e1]
          have h2 : (((List.range (N + 1)).filter fun j => !listed.getD j false).filter fun j => j != i).length < ((List.range (N + 1)).filter fun j => !listed.getD j false).length := by
            refine List.length_filter_lt_length_iff_exists.2 ⟨i, hiF, by simp⟩
          omega
      · obtain rfl : i = N := by omega
        have hallN : ∀ j, j < i → ∃ v, f j = some v := fun j hj => by
          rcases hor with h | h
          · exact absurd h hlt
          · obtain ⟨e, he, hej, hbd⟩ := h j hj
            obtain ⟨v, hv⟩ := hpre e he hbd
            exact ⟨v, by rw [← hej]; exact hv⟩
        have hvs : ∀ j, j < i → f j = some ((f j).getD undef) ∧ R j ((f j).getD undef) w := fun j hj => by
          obtain ⟨v, hv⟩ := hallN j hj
          rw [hv]
          exact ⟨rfl, hR j v hv⟩
        refine Oper.wp_mono ?_ (hlast o' ho (fun j => (f j).getD undef) f w hb hvs)
        intro a' w' hQ
        refine wpAny_over ?_ hQ fuel
        refine List.eq_nil_iff_forall_not_mem.2 fun j hj => ?_
        obtain ⟨hju, oj, hoj, _⟩ := mem_ready.1 hj
        have hjN : j < i + 1 := by rw [← hsz]; exact (Array.getElem?_eq_some_iff.1 hoj).1
        rw [getD_true_of (by rw [Array.size_setIfInBounds]; omega), hkey j hjN] at hju
        by_cases e : j = i
        · rw [if_pos e] at hju; cases hju
        · rw [if_neg e, hf j hjN] at hju
          obtain ⟨v, hv⟩ := hallN j (by omega)
          rw [hv] at hju
          cases hju
end

/-! The same where each operation lays its value in a slot of its own. -/
def actOf (a0 : Act) (D : List Nat) (f : Nat → Option Value) : Nat → Act
  | 0 => a0
  | k + 1 => match f k with
    | some v => (actOf a0 D f k).put (some (D.getD k 0)) v
    | none => actOf a0 D f k
def putAll (a0 : Act) (D : List Nat) (vs : Nat → Value) : Nat → Act
  | 0 => a0
  | k + 1 => (putAll a0 D vs k).put (some (D.getD k 0)) (vs k)
theorem eval_getD (a : Act) (s : Nat) : a.eval (.tmp s) = a.tmps[s]?.getD undef := by simp [Act.eval]
theorem putAll_at {a0 : Act} {D : List Nat} {vs : Nat → Value} {d : Nat} {v : Value} (K k : Nat) (hK : K = k + 1) (h : D.getD k 0 = d) (hv : vs k = v) : putAll a0 D vs K = (putAll a0 D vs k).put (some d) v := by rw [hK, putAll, h, hv]
theorem putAll_zero {a0 : Act} {D : List Nat} {vs : Nat → Value} : putAll a0 D vs 0 = a0 := rfl
theorem put_size (a : Act) (d : Nat) (v : Value) : (a.put (some d) v).tmps.size = a.tmps.size := by simp [Act.put]
theorem eval_same (a : Act) (d : Nat) (v : Value) (h : d < a.tmps.size) : (a.put (some d) v).eval (.tmp d) = v := by
  simp [Act.put, Act.eval, h]
theorem eval_ne (a : Act) (d s : Nat) (v : Value) (h : s ≠ d) : (a.put (some d) v).eval (.tmp s) = a.eval (.tmp s) :=
  Act.eval_put (fun d' e x => by injection e with e; injection x with x; exact h (x.trans e.symm))
section
variable {a0 : Act} {D : List Nat} {f : Nat → Option Value}
theorem actOf_size (k : Nat) : (actOf a0 D f k).tmps.size = a0.tmps.size := by
  induction k with
  | zero => rfl
  | succ k ih =>
    unfold actOf
    split
    · rw [put_size, ih]
    · exact ih
theorem actOf_par {s : Nat} : ∀ k, (∀ j, j < k → D.getD j 0 ≠ s) → (actOf a0 D f k).eval (.tmp s) = a0.eval (.tmp s)
  | 0, _ => rfl
  | k + 1, h => by
    unfold actOf
    split
    · rw [eval_ne _ _ _ _ (fun e => h k (Nat.lt_succ_self k) e.symm)]
      exact actOf_par k fun j hj => h j (Nat.lt_succ_of_lt hj)
    · exact actOf_par k fun j hj => h j (Nat.lt_succ_of_lt hj)
theorem actOf_at (hD : ∀ i j, i < D.length → j < D.length → D.getD i 0 = D.getD j 0 → i = j) (hs : ∀ i, i < D.length → D.getD i 0 < a0.tmps.size) {j : Nat} {v : Value} (hf : f j = some v) :
    ∀ k, k ≤ D.length → j < k → (actOf a0 D f k).eval (.tmp (D.getD j 0)) = v
  | 0, _, h => absurd h (Nat.not_lt_zero j)
  | k + 1, hk, h => by
    unfold actOf
    by_cases e : j = k
    · subst e
      rw [hf]
      exact eval_same _ _ _ (by rw [actOf_size]; exact hs j (by omega))
    · have ih := actOf_at hD hs hf k (by omega) (by omega)
      split
      · rw [eval_ne _ _ _ _ (fun e' => e (hD _ _ (by omega) (by omega) e'))]
        exact ih
      · exact ih
theorem actOf_upd (hD : ∀ i j, i < D.length → j < D.length → D.getD i 0 = D.getD j 0 → i = j) {i : Nat} {v : Value} (hf : f i = none) :
    ∀ k, k ≤ D.length → actOf a0 D (upd f i v) k = if i < k then (actOf a0 D f k).put (some (D.getD i 0)) v else actOf a0 D f k
  | 0, _ => by rw [if_neg (Nat.not_lt_zero i)]; rfl
  | k + 1, hk => by
    have ih := actOf_upd hD (v := v) hf k (by omega)
    by_cases e : k = i
    · subst e
      rw [if_neg (Nat.lt_irrefl k)] at ih
      rw [if_pos (Nat.lt_succ_self k)]
      unfold actOf
      rw [upd_same, hf]
      dsimp only
      rw [ih]
    · unfold actOf
      rw [upd_ne e]
      by_cases hik : i < k
      · rw [if_pos hik] at ih
        rw [if_pos (by omega)]
        cases hfk : f k with
        | none => exact ih
        | some u =>
          dsimp only
          rw [ih]
          exact Act.put_comm _ _ _ (fun d e1 e2 => e (hD _ _ (by omega) (by omega) (by injection e1 with e1; injection e2 with e2; rw [e1, e2])))
      · rw [if_neg hik] at ih
        rw [if_neg (by omega)]
        cases hfk : f k with
        | none => exact ih
        | some u =>
          dsimp only
          rw [ih]
theorem actOf_none (k : Nat) : actOf a0 D (fun _ => none) k = a0 := by
  induction k with
  | zero => rfl
  | succ k ih => unfold actOf; exact ih
theorem actOf_all {vs : Nat → Value} : ∀ k, (∀ j, j < k → f j = some (vs j)) → actOf a0 D f k = putAll a0 D vs k
  | 0, _ => rfl
  | k + 1, h => by
    unfold actOf putAll
    rw [h k (Nat.lt_succ_self k)]
    dsimp only
    rw [actOf_all k fun j hj => h j (Nat.lt_succ_of_lt hj)]
end
/-- Each operation but the last lays its value in the slot that D names; no slot twice, all there. -/
def slotsB (ops : Array Oper) (D : List Nat) (size : Nat) : Bool :=
  ((List.range D.length).all fun i => match ops[i]? with
    | none => false
    | some o => o.dst == some (D.getD i 0) && decide (D.getD i 0 < size)) && ((List.range D.length).all fun i => (List.range D.length).all fun j => i == j || D.getD i 0 != D.getD j 0)
section
variable {P : Program} {ops : Array Oper} {Q : Exit → Act → World → Prop}
theorem wp_region_rows {id : Nat} {a0 : Act} {w : World} (D : List Nat) (hm : P.follows .mixedOrders = true) (hB : rowsB .any ops D.length = true) (hsl : slotsB ops D a0.tmps.size = true) (R : Nat → Value → World → Prop)
    (hmono : ∀ i, i < D.length → ∀ v w w', Below w.heap.size w w' → R i v w → R i v w')
    (hstep : ∀ i, i < D.length → ∀ o, ops[i]? = some o → ∀ (a : Act) w1, Below w.heap.size w w1 → (∀ s, ¬ s ∈ D → a.eval (.tmp s) = a0.eval (.tmp s)) → (∀ e ∈ o.after, Region.binds .any e = true → R e.on (a.eval (.tmp (D.getD e.on 0))) w1) →
      Oper.wp P o a w1 (fun a' w' => ∃ v, a' = a.put o.dst v ∧ R i v w' ∧ Below w1.heap.size w1 w') Q)
    (hlast : ∀ o, ops[D.length]? = some o → ∀ (vs : Nat → Value) w1, Below w.heap.size w w1 → (∀ j, j < D.length → R j (vs j) w1) → Oper.wp P o (putAll a0 D vs D.length) w1 (fun a' w' => Q .normal a' w') Q) :
    (Code.region id ops true).wp P Q a0 w := by
  unfold slotsB at hsl
  rw [Bool.and_eq_true, List.all_eq_true, List.all_eq_true] at hsl
  have hD : ∀ i j, i < D.length → j < D.length → D.getD i 0 = D.getD j 0 → i = j := fun i j hi hj e => by
    have h1 := List.all_eq_true.1 (hsl.2 i (List.mem_range.2 hi)) j (List.mem_range.2 hj)
    rw [Bool.or_eq_true, beq_iff_eq, bne_iff_ne] at h1
    rcases h1 with h1 | h1
    · exact h1
    · exact absurd e h1
  have hd : ∀ i, i < D.length → ∀ o, ops[i]? = some o → o.dst = some (D.getD i 0) ∧ D.getD i 0 < a0.tmps.size := fun i hi o ho => by
    have h1 := hsl.1 i (List.mem_range.2 hi)
    rw [ho] at h1
    rw [Bool.and_eq_true, beq_iff_eq, decide_eq_true_eq] at h1
    exact h1
  have hs : ∀ i, i < D.length → D.getD i 0 < a0.tmps.size := fun i hi => by
    obtain ⟨o, ho, _⟩ := rowsB_at hB (Nat.lt_succ_of_lt hi)
    exact (hd i hi o ho).2
  have hdr : Below w.heap.size w ({ w with drawn := w.drawn + 1 } : World) := ⟨rfl, rfl, rfl, Nat.le_refl _, fun _ _ => rfl⟩
  have key := rows_any (P := P) (ops := ops) (Q := Q) (md := .any) D.length hB w (fun f => actOf a0 D f D.length) R hmono ?_ ?_ ops.size (Array.replicate ops.size false) (fun _ => none) ({ w with drawn := w.drawn + 1 } : World) ?_ ?_ (fun _ _ => rfl) hdr (fun j v h => nomatch h) ?_
  · rw [actOf_none] at key
    exact wp_region_any hm key
  · intro i hi o ho f w1 hfi hw hR hp
    · refine Oper.wp_mono ?_ (hstep i hi o ho (actOf a0 D f D.length) w1 hw (fun s hs' => actOf_par D.length (fun j hj e => hs' (by
        rw [← e, List.getD_eq_getElem?_getD, List.getElem?_eq_getElem hj]
        exact List.getElem_mem hj))) (fun e he hb => by
          obtain ⟨v, hv⟩ := hp e he hb
          obtain ⟨o', ho', _, hon, _⟩ := rowsB_at hB (Nat.lt_succ_of_lt hi)
          obtain rfl : o' = o := Option.some.inj (ho'.symm.trans ho)
          have := hon e he
          rw [actOf_at hD hs hv D.length (Nat.le_refl _) (by omega)]
          exact hR _ v hv))
      rintro a' w' ⟨v, rfl, h1, h2⟩
      refine ⟨v, ?_, h1, h2⟩
      rw [actOf_upd hD hfi D.length (Nat.le_refl _), if_pos hi, (hd i hi o ho).1]
  · intro o ho vs f w1 hw h
    rw [actOf_all D.length fun j hj => (h j hj).1]
    exact hlast o ho vs w1 hw fun j hj => (h j hj).2
  · rw [Array.size_replicate]
    unfold rowsB at hB
    rw [Bool.and_eq_true, beq_iff_eq] at hB
    exact hB.1
  · intro j hj
    simp [Array.getD]
  · exact Nat.le_trans (List.length_filter_le _ _) (by
      rw [List.length_range]
      unfold rowsB at hB
      rw [Bool.and_eq_true, beq_iff_eq] at hB
      omega)
end
end Go.Proofs.YtgfihdfncddpaaaGreatDoor

/-! What is known of a member, as choices say. -/
namespace Go.Proofs.YtgfihdfncddpaaaGreatDoor
open Go.RowKit Go.Lib
open Px (R2 tl)

/-- All blocks but two are as they were. -/
structure MBut (g r : Nat) (w w' : World) : Prop where
  os : w'.os = w.os
  tape : w'.tape = w.tape
  output : w'.output = w.output
  size : w.heap.size ≤ w'.heap.size
  block : ∀ k, k < w.heap.size → k ≠ g → k ≠ r → w'.heap[k]? = w.heap[k]?
theorem MBut.refl (g r : Nat) (w : World) : MBut g r w w := ⟨rfl, rfl, rfl, Nat.le_refl _, fun _ _ _ _ => rfl⟩
theorem MBut.trans {g r : Nat} {a b c : World} (h : MBut g r a b) (k : MBut g r b c) : MBut g r a c :=
  ⟨k.os.trans h.os, k.tape.trans h.tape, k.output.trans h.output, Nat.le_trans h.size k.size, fun i hi hg hr => (k.block i (Nat.lt_of_lt_of_le hi h.size) hg hr).trans (h.block i hi hg hr)⟩
theorem MBut.of_below {g r : Nat} {w w' : World} (h : Below w.heap.size w w') : MBut g r w w' := ⟨h.os, h.tape, h.output, h.size, fun k hk _ _ => h.block k hk⟩
theorem MBut.set (g : Nat) {r : Nat} (w : World) (i : Nat) (v : Value) : MBut g r w (w.setCell ⟨g, i, none⟩ v) := ⟨rfl, rfl, rfl, by simp [World.setCell], fun k _ hk _ => Below.heap_setCell _ _ _ _ hk⟩
theorem MBut.row (g r : Nat) (w : World) (cs : Array Value) : MBut g r w (w.setRow r cs) := ⟨rfl, rfl, rfl, by simp, fun k _ _ hk => setRow_other w r k cs hk⟩
/-- A variable that holds something known that may come in. -/
structure MQ (nb : Nat) (w W : World) (g : Nat) : Prop where
  ex : ∃ m pv ev, MB W g m pv ev ∧ (∀ W', MBut g w.heap.size W W' → MIn W' m pv ev) ∧ (1 ≤ m.name.size ∧ m.name.size ≤ nb)
  res : MB W w.heap.size {} (.slice none 0 0) (.slice none 0 0)
  low : w.heap.size < g
  below : Below w.heap.size w W
theorem MQ.lt {nb : Nat} {w W : World} {g : Nat} (q : MQ nb w W g) : g < W.heap.size := by obtain ⟨m, pv, ev, h, _⟩ := q.ex; exact h.lt
theorem MQ.later {nb : Nat} {w W W' : World} {g : Nat} (q : MQ nb w W g) (hb : Below W.heap.size W W') : MQ nb w W' g := by
  obtain ⟨m, pv, ev, h1, h2, h3⟩ := q.ex
  exact ⟨⟨m, pv, ev, h1.below hb h1.lt, fun W2 h => h2 W2 ((MBut.of_below hb).trans h), h3⟩, q.res.below hb q.res.lt, q.low, q.below.trans (hb.mono q.below.size)⟩
theorem MQ.set {nb : Nat} {w W : World} {g : Nat} (q : MQ nb w W g) (i : Nat) (v : Value) (up : M.Met → M.Met) (e : ∀ m pv ev, (mcells m pv ev).set! i v = mcells (up m) pv ev) (hup : ∀ W m pv ev, MIn W m pv ev → MIn W (up m) pv ev)
    (hn : ∀ m : M.Met, 1 ≤ m.name.size ∧ m.name.size ≤ nb → 1 ≤ (up m).name.size ∧ (up m).name.size ≤ nb) : MQ nb w (W.setCell ⟨g, i, none⟩ v) g := by
  obtain ⟨m, pv, ev, h1, h2, h3⟩ := q.ex
  refine ⟨⟨up m, pv, ev, h1.set i v (e m pv ev), fun W2 h => hup _ _ _ _ (h2 W2 ((MBut.set g W i v).trans h)), hn m h3⟩, q.res.other (by have := q.low; show w.heap.size ≠ g; omega) v, q.low, q.below.setCell (p := ⟨g, i, none⟩) (Nat.le_of_lt q.low) v⟩
theorem MQ.size {nb : Nat} {w W : World} {g : Nat} (q : MQ nb w W g) : w.heap.size ≤ W.heap.size := q.below.size
theorem MQ.at_ {nb : Nat} {w W : World} {g : Nat} (q : MQ nb w W g) (i : Nat) (hi : i < 17) : ∃ v, W.cell? ⟨g, i, none⟩ = some v ∧ W.frozen? ⟨g, i, none⟩ = false := by
  obtain ⟨m, pv, ev, h1, _⟩ := q.ex
  have hs : i < (mcells m pv ev).size := hi
  exact ⟨(mcells m pv ev)[i], h1.cell (Array.getElem?_eq_getElem hs), h1.frozen i⟩
theorem MQ.kind {nb : Nat} {w W : World} {g : Nat} (q : MQ nb w W g) : ∃ z : Int, W.cell? ⟨g, 2, none⟩ = some (.int .u8 z) := by
  obtain ⟨m, pv, ev, h1, _⟩ := q.ex
  exact ⟨m.kind, h1.cell rfl⟩
theorem MQ.name {nb : Nat} {w W : World} {g : Nat} (q : MQ nb w W g) : ∃ s : ByteArray, W.cell? ⟨g, 0, none⟩ = some (.string s) ∧ W.frozen? ⟨g, 0, none⟩ = false ∧ 1 ≤ s.size ∧ s.size ≤ nb := by
  obtain ⟨m, pv, ev, h1, _, h3⟩ := q.ex
  exact ⟨m.name, h1.cell rfl, h1.frozen 0, h3⟩
section
variable {W : World} {m : M.Met} {pv ev : Value}
theorem MIn.nan_ {x : Int} (hx : -9223372036854775808 ≤ x ∧ x ≤ 9223372036854775807) (h : MIn W m pv ev) : MIn W { m with nan := x } pv ev :=
  ⟨h.parts, h.extra, h.nparts, h.nextra, h.i64s, h.fits, h.kind, h.texts, ⟨h.ints.1, h.ints.2.1, h.ints.2.2.1, h.ints.2.2.2.1, hx, h.ints.2.2.2.2.2⟩⟩
theorem MIn.mode_ {x : Int} (hx : -9223372036854775808 ≤ x ∧ x ≤ 9223372036854775807) (h : MIn W m pv ev) : MIn W { m with mode := x } pv ev :=
  ⟨h.parts, h.extra, h.nparts, h.nextra, h.i64s, h.fits, h.kind, h.texts, ⟨hx, h.ints.2⟩⟩
theorem MIn.major_ {x : Int} (hx : -9223372036854775808 ≤ x ∧ x ≤ 9223372036854775807) (h : MIn W m pv ev) : MIn W { m with major := x } pv ev :=
  ⟨h.parts, h.extra, h.nparts, h.nextra, h.i64s, h.fits, h.kind, h.texts, ⟨h.ints.1, h.ints.2.1, h.ints.2.2.1, h.ints.2.2.2.1, h.ints.2.2.2.2.1, hx, h.ints.2.2.2.2.2.2⟩⟩
theorem MIn.minor_ {x : Int} (hx : -9223372036854775808 ≤ x ∧ x ≤ 9223372036854775807) (h : MIn W m pv ev) : MIn W { m with minor := x } pv ev :=
  ⟨h.parts, h.extra, h.nparts, h.nextra, h.i64s, h.fits, h.kind, h.texts, ⟨h.ints.1, h.ints.2.1, h.ints.2.2.1, h.ints.2.2.2.1, h.ints.2.2.2.2.1, h.ints.2.2.2.2.2.1, hx, h.ints.2.2.2.2.2.2.2⟩⟩
theorem MIn.size_ {x : Int} (hx : -9223372036854775808 ≤ x ∧ x ≤ 9223372036854775807) (h : MIn W m pv ev) : MIn W { m with size := x } pv ev :=
  ⟨h.parts, h.extra, h.nparts, h.nextra, h.i64s, h.fits, h.kind, h.texts, ⟨h.ints.1, h.ints.2.1, h.ints.2.2.1, h.ints.2.2.2.1, h.ints.2.2.2.2.1, h.ints.2.2.2.2.2.1, h.ints.2.2.2.2.2.2.1, hx, h.ints.2.2.2.2.2.2.2.2⟩⟩
theorem MIn.real_ {x : Int} (hx : -9223372036854775808 ≤ x ∧ x ≤ 9223372036854775807) (h : MIn W m pv ev) : MIn W { m with real := x } pv ev :=
  ⟨h.parts, h.extra, h.nparts, h.nextra, h.i64s, h.fits, h.kind, h.texts, ⟨h.ints.1, h.ints.2.1, h.ints.2.2.1, h.ints.2.2.2.1, h.ints.2.2.2.2.1, h.ints.2.2.2.2.2.1, h.ints.2.2.2.2.2.2.1, h.ints.2.2.2.2.2.2.2.1, hx⟩⟩
theorem MIn.name_ {s : ByteArray} (hx : s.size ≤ 1000000) (h : MIn W m pv ev) : MIn W { m with name := s } pv ev :=
  ⟨h.parts, h.extra, h.nparts, h.nextra, h.i64s, h.fits, h.kind, ⟨hx, h.texts.2⟩, h.ints⟩
theorem MIn.link_ {s : ByteArray} (hx : s.size ≤ 1000000) (h : MIn W m pv ev) : MIn W { m with link := s } pv ev :=
  ⟨h.parts, h.extra, h.nparts, h.nextra, h.i64s, h.fits, h.kind, ⟨h.texts.1, hx, h.texts.2.2⟩, h.ints⟩
theorem MIn.holes_ (b : Bool) (h : MIn W m pv ev) : MIn W { m with holes := b } pv ev :=
  ⟨h.parts, h.extra, h.nparts, h.nextra, h.i64s, h.fits, h.kind, h.texts, h.ints⟩
theorem oneP (h : MIn W m pv ev) : pv.oneCell' = true ∧ ev.oneCell' = true := by
  obtain ⟨A, c, e1, _⟩ := h.parts
  obtain ⟨A', c', e2, _⟩ := h.extra
  rw [e1, e2]; exact ⟨rfl, rfl⟩
end
theorem results_law {tmps : Array Value} {g : Nat} {m : M.Met} {pv ev : Value} {w : World} (hb : MB w g m pv ev) (h2 : tmps.getD 2 undef = .pointer (some ⟨g, 0, none⟩)) :
    (results Tryz.f5 tmps).run Tryz.prog w = .ok (.agg (mcells m pv ev)) w := by
  rw [Array.getD_eq_getD_getElem?] at h2
  have hl := run_loadVar_row (P := Tryz.prog) w g 28 28 (mcells m pv ev) (0, 0) _ hb Tryz.underlying28 rfl met_size
  simp [results, Tryz.results5, h2, asAddr, hl]
theorem MQ.weak {nb nc : Nat} {w W : World} {g : Nat} (q : MQ nb w W g) (h : nb ≤ nc) : MQ nc w W g := by
  obtain ⟨m, pv, ev, h1, h2, h3⟩ := q.ex
  exact ⟨⟨m, pv, ev, h1, h2, h3.1, Nat.le_trans h3.2 h⟩, q.res, q.low, q.below⟩
theorem MQ.rename {nb : Nat} {w W : World} {g : Nat} (q : MQ nb w W g) (nc : Nat) (s : ByteArray) (h : 1 ≤ s.size ∧ s.size ≤ nc) (hc : nc ≤ 1000000) : MQ nc w (W.setCell ⟨g, 0, none⟩ (.string s)) g := by
  obtain ⟨m, pv, ev, h1, h2, h3⟩ := q.ex
  refine ⟨⟨{ m with name := s }, pv, ev, h1.set 0 (.string s) rfl, fun W2 hW => (h2 W2 ((MBut.set g W 0 (.string s)).trans hW)).name_ (Nat.le_trans h.2 hc), h⟩, q.res.other (by have := q.low; show w.heap.size ≠ g; omega) (.string s), q.low, q.below.setCell (p := ⟨g, 0, none⟩) (Nat.le_of_lt q.low) (.string s)⟩
theorem MQ.sz {nb : Nat} {w W : World} {g : Nat} (q : MQ nb w W g) : ∃ z : Int, W.cell? ⟨g, 12, none⟩ = some (.int .i64 z) ∧ -9223372036854775808 ≤ z ∧ z ≤ 9223372036854775807 := by
  obtain ⟨m, pv, ev, h1, h2, h3⟩ := q.ex
  exact ⟨m.size, h1.cell rfl, (h2 W (MBut.refl _ _ _)).ints.2.2.2.2.2.2.2.1⟩
theorem own_but {g : Nat} {W W' : World} {base : Nat} {e : TypeId} {size : Nat} {v : Value} {n : Nat} {xs : List Value} (h : W.ownsRow base e size v n xs) (hb : g < base) {r : Nat} (hr : r < base) (hw : MBut g r W W') : W'.ownsRow base e size v n xs := by
  refine ⟨h.1, ?_⟩
  rcases h.2 with hn | ⟨k, cap, cur, hv, hbk, hh, rest⟩
  · exact .inl hn
  · exact .inr ⟨k, cap, cur, hv, hbk, (hw.block k (Array.getElem?_eq_some_iff.1 hh).1 (by omega) (by omega)).trans hh, rest⟩
theorem MQ.parts {nb : Nat} {w W : World} {g : Nat} (q : MQ nb w W g) (A : Option Addr) (c : Nat) (l : List Sp.M.Pt) (b : Nat) (ho : Sp.OwnP W b (.slice A l.length c) l) (hb : g < b) (hl : l.length ≤ 1000000) (hi : Sp.M.i64s l) :
    MQ nb w (W.setCell ⟨g, 15, none⟩ (.slice A l.length c)) g := by
  obtain ⟨m, pv, ev, h1, h2, h3⟩ := q.ex
  refine ⟨⟨{ m with parts := l }, .slice A l.length c, ev, h1.set 15 (.slice A l.length c) rfl, fun W2 hW => ?_, h3⟩, q.res.other (by have := q.low; show w.heap.size ≠ g; omega) _, q.low, q.below.setCell (p := ⟨g, 15, none⟩) (Nat.le_of_lt q.low) _⟩
  have hB := (MBut.set g W 15 (.slice A l.length c)).trans hW
  have h := h2 W2 hB
  have ho2 : Sp.OwnP W2 b (.slice A l.length c) l := own_but ho hb (Nat.lt_trans q.low hb) hB
  obtain ⟨A', c', hv, hr, _⟩ := ho2.rd
  injection hv with a1 a2 a3
  exact ⟨⟨A, c, rfl, by rw [a1]; exact hr⟩, h.extra, hl, h.nextra, hi, h.fits, h.kind, h.texts, h.ints⟩
theorem MQ.extra {nb : Nat} {w W : World} {g : Nat} (q : MQ nb w W g) (b : Nat) (t : TypeId) (s1 s2 s3 s4 : ByteArray) (hh : W.heap[b]? = some (.cells #[.string s1, .string s2, .string s3, .string s4] t (0, 0))) (hb : g < b)
    (hs : (s1.size ≤ 1000000 ∧ s2.size ≤ 1000000) ∧ s3.size ≤ 1000000 ∧ s4.size ≤ 1000000) : MQ nb w (W.setCell ⟨g, 16, none⟩ (.slice (some ⟨b, 0, none⟩) 2 2)) g := by
  obtain ⟨m, pv, ev, h1, h2, h3⟩ := q.ex
  refine ⟨⟨{ m with extra := [(s1, s2), (s3, s4)] }, pv, .slice (some ⟨b, 0, none⟩) 2 2, h1.set 16 _ rfl, fun W2 hW => ?_, h3⟩, q.res.other (by have := q.low; show w.heap.size ≠ g; omega) _, q.low, q.below.setCell (p := ⟨g, 16, none⟩) (Nat.le_of_lt q.low) _⟩
  have hB := (MBut.set g W 16 (.slice (some ⟨b, 0, none⟩) 2 2)).trans hW
  have h := h2 W2 hB
  have hlt := (Array.getElem?_eq_some_iff.1 hh).1
  have hh2 := (hB.block b hlt (by omega) (by have := q.low; omega)).trans hh
  refine ⟨h.parts, ⟨some ⟨b, 0, none⟩, 2, rfl, fun _ => ⟨b, 0, rfl, Nat.lt_of_lt_of_le hlt hB.size, fun k r hr => ?_⟩⟩, h.nparts, by show (2 : Nat) ≤ 500000; decide, h.i64s, ?_, h.kind, h.texts, h.ints⟩
  · match k, hr with
    | 0, hr => cases hr; exact ⟨(cell_of_row _ _ _ _ _ (0, 0) hh2).trans rfl, (cell_of_row _ _ _ _ _ (0, 0) hh2).trans rfl⟩
    | 1, hr => cases hr; exact ⟨(cell_of_row _ _ _ _ _ (0, 0) hh2).trans rfl, (cell_of_row _ _ _ _ _ (0, 0) hh2).trans rfl⟩
    | k + 2, hr => simp at hr
  · intro r hr
    rcases List.mem_cons.1 hr with rfl | hr
    · exact hs.1
    · rcases List.mem_singleton.1 hr with rfl
      exact hs.2
set_option maxRecDepth 100000 in
set_option maxHeartbeats 4000000 in
theorem lawMeta_any (A : Option Addr) (n c : Nat) (zs : List Int) (w : World) (hr : Sp.Rd w w.heap.size A n zs) (hc : n ≤ c) (hcm : c ≤ maxLen) :
    Calls Tryz.prog 5 #[.slice A n c] w fun e w' => ∃ m pv ev, e = .returned (.agg (mcells m pv ev)) ∧ MIn w' m pv ev ∧ Below w.heap.size w w' := by
  have HPt := hid (fun (A2 : Option Addr) (n2 c2 : Nat) (zs2 : List Int) (W : World) (hW : Below w.heap.size w W) (h2 : Sp.Rd w w.heap.size A2 n2 zs2) (h3 : n2 ≤ maxLen) => Sp.lawParts_any A2 n2 c2 zs2 W ((h2.below hW).more hW.size) h3)
  have HC1 := hid hr
  have HC2 := hid (show 10 < n → Sp.Rd w w.heap.size (A.map (·.add 10)) (n - 10) (zs.drop 10) from fun h => by have := hr.cut (c := c) (k := 10) (by omega) hc; unfold Sp.cutA at this; rwa [if_neg (by omega)] at this)
  have HC3 := hid (show n ≤ maxLen from Nat.le_trans hc hcm)
  unfold maxLen at hcm
  have HG := hid (fun (i : Nat) (hi : i ≤ 1000) => (⟨(gz zs i).toNat, by have := gz_bd hr.2.1 i; omega, fun (W : World) (hW : Below w.heap.size w W) => by
    have h := g_any A n c zs i (by omega) hi W w.heap.size (hr.below hW)
    rwa [show gz zs i = (((gz zs i).toNat : Nat) : Int) by have := gz_bd hr.2.1 i; omega] at h⟩ : ∃ k : Nat, k ≤ 255 ∧ ∀ W, Below w.heap.size w W → Calls Tryz.prog 15 #[.slice A n c, .int .i64 i] W (fun e w' => e = .returned (.int .i64 (k : Int)) ∧ Below W.heap.size W w')))
  obtain ⟨k0, hk0, g0⟩ := HG.out 0 (by decide)
  have G0 := hid (show ∀ W, Below w.heap.size w W → Calls Tryz.prog 15 #[.slice A n c, .int .i64 0] W (fun e w' => e = .returned (.int .i64 (k0 : Int)) ∧ Below W.heap.size W w') from g0)
  clear g0
  obtain ⟨k1, hk1, g1⟩ := HG.out 1 (by decide)
  have G1 := hid (show ∀ W, Below w.heap.size w W → Calls Tryz.prog 15 #[.slice A n c, .int .i64 1] W (fun e w' => e = .returned (.int .i64 (k1 : Int)) ∧ Below W.heap.size W w') from g1)
  clear g1
  obtain ⟨k2, hk2, g2⟩ := HG.out 2 (by decide)
  have G2 := hid (show ∀ W, Below w.heap.size w W → Calls Tryz.prog 15 #[.slice A n c, .int .i64 2] W (fun e w' => e = .returned (.int .i64 (k2 : Int)) ∧ Below W.heap.size W w') from g2)
  clear g2
  obtain ⟨k3, hk3, g3⟩ := HG.out 3 (by decide)
  have G3 := hid (show ∀ W, Below w.heap.size w W → Calls Tryz.prog 15 #[.slice A n c, .int .i64 3] W (fun e w' => e = .returned (.int .i64 (k3 : Int)) ∧ Below W.heap.size W w') from g3)
  clear g3
  obtain ⟨k4, hk4, g4⟩ := HG.out 4 (by decide)
  have G4 := hid (show ∀ W, Below w.heap.size w W → Calls Tryz.prog 15 #[.slice A n c, .int .i64 4] W (fun e w' => e = .returned (.int .i64 (k4 : Int)) ∧ Below W.heap.size W w') from g4)
  clear g4
  obtain ⟨k5, hk5, g5⟩ := HG.out 5 (by decide)
  have G5 := hid (show ∀ W, Below w.heap.size w W → Calls Tryz.prog 15 #[.slice A n c, .int .i64 5] W (fun e w' => e = .returned (.int .i64 (k5 : Int)) ∧ Below W.heap.size W w') from g5)
  clear g5
  obtain ⟨k6, hk6, g6⟩ := HG.out 6 (by decide)
  have G6 := hid (show ∀ W, Below w.heap.size w W → Calls Tryz.prog 15 #[.slice A n c, .int .i64 6] W (fun e w' => e = .returned (.int .i64 (k6 : Int)) ∧ Below W.heap.size W w') from g6)
  clear g6
  obtain ⟨k7, hk7, g7⟩ := HG.out 7 (by decide)
  have G7 := hid (show ∀ W, Below w.heap.size w W → Calls Tryz.prog 15 #[.slice A n c, .int .i64 7] W (fun e w' => e = .returned (.int .i64 (k7 : Int)) ∧ Below W.heap.size W w') from g7)
  clear g7
  obtain ⟨k8, hk8, g8⟩ := HG.out 8 (by decide)
  have G8 := hid (show ∀ W, Below w.heap.size w W → Calls Tryz.prog 15 #[.slice A n c, .int .i64 8] W (fun e w' => e = .returned (.int .i64 (k8 : Int)) ∧ Below W.heap.size W w') from g8)
  clear g8
  obtain ⟨k9, hk9, g9⟩ := HG.out 9 (by decide)
  have G9 := hid (show ∀ W, Below w.heap.size w W → Calls Tryz.prog 15 #[.slice A n c, .int .i64 9] W (fun e w' => e = .returned (.int .i64 (k9 : Int)) ∧ Below W.heap.size W w') from g9)
  clear g9
  obtain ⟨j1, hj1⟩ : ∃ j : Nat, j = k1 % 8 := ⟨_, rfl⟩
  obtain ⟨j5, hj5⟩ : ∃ j : Nat, j = k5 % 40 := ⟨_, rfl⟩
  have hj18 : j1 < 8 := by omega
  have hj54 : j5 < 40 := by omega
  have hj1i : (j1 : Int) < 8 := by omega
  have e1a : (k1 : Int) % 8 = (j1 : Int) := by omega
  have e1b : (k1 : Int).tmod 8 = (j1 : Int) := by rw [Int.tmod_eq_emod_of_nonneg (by omega)]; exact e1a
  have e5a : (k5 : Int) % 40 = (j5 : Int) := by omega
  have e5b : (k5 : Int).tmod 40 = (j5 : Int) := by rw [Int.tmod_eq_emod_of_nonneg (by omega)]; exact e5a
  obtain ⟨kk, hkk, hkl⟩ : ∃ kk : Int, (0 ≤ kk ∧ kk ≤ 255) ∧ (#[.int .u8 48, .int .u8 48, .int .u8 48, .int .u8 53, .int .u8 50, .int .u8 49, .int .u8 51, .int .u8 54] : Array Value)[j1]? = some (.int .u8 kk) := by
    have : j1 = 0 ∨ j1 = 1 ∨ j1 = 2 ∨ j1 = 3 ∨ j1 = 4 ∨ j1 = 5 ∨ j1 = 6 ∨ j1 = 7 := by omega
    rcases this with h | h | h | h | h | h | h | h <;> rw [h] <;> exact ⟨_, by decide, rfl⟩
  have HNm := hid (fun W => name_any k0 hk0 W)
  have HTx := hid (fun W => textX_any j5 (by omega) W)
  have HNm8 := hid (fun W => name_any k8 hk8 W)
  have HS8 := hid (show (nameT k8).size ≤ 1000000 by have := (nameT_size k8 hk8).2; omega)
  have HTx7 := hid (fun W => textX_any k7 (by omega) W)
  clear hj1 hj5
  go_enter Tryz.func5, Tryz.ntmps5
  go_wp2_with fail
  generalize hw0 : World.alloc w _ = w0
  have B0 := hid (show Below w.heap.size w w0 by rw [← hw0]; exact (Below.refl _ w).alloc (Nat.le_refl _) _)
  have HRes := hid (show MB w0 w.heap.size {} (.slice none 0 0) (.slice none 0 0) by rw [← hw0]; exact MB.new w {} (.slice none 0 0) (.slice none 0 0))
  clear hw0
  refine wp_region_rows [8, 9, 10, 11, 12, 13, 14, 15, 16, 17, 18, 19, 20, 21, 22, 23, 24, 25, 26, 27, 28, 29, 30, 31, 32, 3] (by kernel_rfl) (by kernel_rfl) (by kernel_rfl) (fun (i : Nat) (v : Value) (W : World) => match i with
    | 0 => v = .slice A n c
    | 1 => v = .int .i64 (k0 : Int)
    | 2 => v = .string (nameT k0)
    | 3 => ∃ b : Nat, v = .slice (some ⟨b, 0, none⟩) 8 8 ∧ b < W.heap.size ∧ W.heap[b]? = some (.cells #[.int .u8 48, .int .u8 48, .int .u8 48, .int .u8 53, .int .u8 50, .int .u8 49, .int .u8 51, .int .u8 54] 5 (0, 0))
    | 4 => v = .slice A n c
    | 5 => v = .int .i64 (k1 : Int)
    | 6 => v = .int .i64 (j1 : Int)
    | 7 => ∃ b : Nat, v = .pointer (some ⟨b, j1, none⟩) ∧ b < W.heap.size ∧ W.cell? ⟨b, j1, none⟩ = some (.int .u8 kk)
    | 8 => v = .int .u8 kk
    | 9 => v = .slice A n c
    | 10 => v = .int .i64 (k2 : Int)
    | 11 => v = .slice A n c
    | 12 => v = .int .i64 (k3 : Int)
    | 13 => v = .slice A n c
    | 14 => v = .int .i64 (k4 : Int)
    | 15 => v = .int .i64 ((k4 : Int) * 20000)
    | 16 => v = .slice A n c
    | 17 => v = .int .i64 (k5 : Int)
    | 18 => v = .int .i64 (j5 : Int)
    | 19 => v = .string (wordT j5 j5)
    | 20 => v = .slice A n c
    | 21 => v = .int .i64 (k6 : Int)
    | 22 => v = .int .i64 ((k6 : Int) - 3)
    | 23 => v = .agg #[.int .i64 ((k6 : Int) - 3), .int .i64 0]
    | 24 => v = .agg (mcells { name := nameT k0, kind := kk, mode := k2, uid := k3, gid := (k4 : Int) * 20000, user := wordT j5 j5, group := ⟨#[103]⟩, sec := (k6 : Int) - 3 } (.slice none 0 0) (.slice none 0 0))
    | _ => ∃ g : Nat, v = .pointer (some ⟨g, 0, none⟩) ∧ w0.heap.size ≤ g ∧ g < W.heap.size ∧ MB W g {} (.slice none 0 0) (.slice none 0 0)) ?_ ?_ ?_
  · intro i hi v w1 w2 hb hR
    have h26 : i < 26 := hi
    have hi' : i = 0 ∨ i = 1 ∨ i = 2 ∨ i = 3 ∨ i = 4 ∨ i = 5 ∨ i = 6 ∨ i = 7 ∨ i = 8 ∨ i = 9 ∨ i = 10 ∨ i = 11 ∨ i = 12 ∨ i = 13 ∨ i = 14 ∨ i = 15 ∨ i = 16 ∨ i = 17 ∨ i = 18 ∨ i = 19 ∨ i = 20 ∨ i = 21 ∨ i = 22 ∨ i = 23 ∨ i = 24 ∨ i = 25 := by omega
    clear h26 hi
    rcases hi' with rfl | rfl | rfl | rfl | rfl | rfl | rfl | rfl | rfl | rfl | rfl | rfl | rfl | rfl | rfl | rfl | rfl | rfl | rfl | rfl | rfl | rfl | rfl | rfl | rfl | rfl
    · exact hR
    · exact hR
    · exact hR
    · obtain ⟨b, h1, h2, h3⟩ := hR
      exact ⟨b, h1, Nat.lt_of_lt_of_le h2 hb.size, (hb.block b h2).trans h3⟩
    · exact hR
    · exact hR
    · exact hR
    · obtain ⟨b, h1, h2, h3⟩ := hR
      exact ⟨b, h1, Nat.lt_of_lt_of_le h2 hb.size, (hb.cell (p := ⟨b, j1, none⟩) h2).trans h3⟩
    · exact hR
    · exact hR
    · exact hR
    · exact hR
    · exact hR
    · exact hR
    · exact hR
    · exact hR
    · exact hR
    · exact hR
    · exact hR
    · exact hR
    · exact hR
    · exact hR
    · exact hR
    · exact hR
    · exact hR
    · obtain ⟨b, h1, h2, h3, h4⟩ := hR
      exact ⟨b, h1, h2, Nat.lt_of_lt_of_le h3 hb.size, h4.below hb h3⟩
  · intro i hi o ho a w1 hw hpar hp
    have h26 : i < 26 := hi
    have hsl : a.eval (.tmp 0) = .slice A n c := hpar 0 (by decide)
    have hB1 := B0.out.trans (hw.mono B0.out.size)
    have hi' : i = 0 ∨ i = 1 ∨ i = 2 ∨ i = 3 ∨ i = 4 ∨ i = 5 ∨ i = 6 ∨ i = 7 ∨ i = 8 ∨ i = 9 ∨ i = 10 ∨ i = 11 ∨ i = 12 ∨ i = 13 ∨ i = 14 ∨ i = 15 ∨ i = 16 ∨ i = 17 ∨ i = 18 ∨ i = 19 ∨ i = 20 ∨ i = 21 ∨ i = 22 ∨ i = 23 ∨ i = 24 ∨ i = 25 := by omega
    clear h26 hi
    rcases hi' with rfl | rfl | rfl | rfl | rfl | rfl | rfl | rfl | rfl | rfl | rfl | rfl | rfl | rfl | rfl | rfl | rfl | rfl | rfl | rfl | rfl | rfl | rfl | rfl | rfl | rfl
    · simp only [List.getElem?_toArray, List.getElem?_cons_zero, List.getElem?_cons_succ, Option.some.injEq] at ho
      subst ho
      have hs0 := (eval_getD a 0).symm.trans hsl
      clear hp hpar hsl
      go_simp
      exact ⟨_, rfl, rfl, Below.refl _ _⟩
    · simp only [List.getElem?_toArray, List.getElem?_cons_zero, List.getElem?_cons_succ, Option.some.injEq] at ho
      subst ho
      have h0 : a.tmps[8]?.getD undef = .slice A n c := (eval_getD a 8).symm.trans (hp ⟨0, .data⟩ (by simp) rfl)
      clear hp hpar hsl
      go_simp
      (with_reducible refine (G0.out w1 hB1).mono ?_)
      rintro e w2 ⟨rfl, h2⟩
      exact ⟨_, rfl, rfl, h2⟩
    · simp only [List.getElem?_toArray, List.getElem?_cons_zero, List.getElem?_cons_succ, Option.some.injEq] at ho
      subst ho
      have h1 : a.tmps[9]?.getD undef = .int .i64 (k0 : Int) := (eval_getD a 9).symm.trans (hp ⟨1, .data⟩ (by simp) rfl)
      clear hp hpar hsl
      go_simp
      (with_reducible refine (HNm.out w1).mono ?_)
      rintro e w2 ⟨rfl, h2⟩
      exact ⟨_, rfl, rfl, h2⟩
    · simp only [List.getElem?_toArray, List.getElem?_cons_zero, List.getElem?_cons_succ, Option.some.injEq] at ho
      subst ho
      clear hp hpar hsl
      go_simp
      exact ⟨_, rfl, ⟨w1.heap.size, rfl, Nat.lt_succ_self _, heap_alloc_new w1 _⟩, (Below.refl _ _).alloc (Nat.le_refl _) _⟩
    · simp only [List.getElem?_toArray, List.getElem?_cons_zero, List.getElem?_cons_succ, Option.some.injEq] at ho
      subst ho
      have hs0 := (eval_getD a 0).symm.trans hsl
      clear hp hpar hsl
      go_simp
      exact ⟨_, rfl, rfl, Below.refl _ _⟩
    · simp only [List.getElem?_toArray, List.getElem?_cons_zero, List.getElem?_cons_succ, Option.some.injEq] at ho
      subst ho
      have h4 : a.tmps[12]?.getD undef = .slice A n c := (eval_getD a 12).symm.trans (hp ⟨4, .data⟩ (by simp) rfl)
      clear hp hpar hsl
      go_simp
      (with_reducible refine (G1.out w1 hB1).mono ?_)
      rintro e w2 ⟨rfl, h2⟩
      exact ⟨_, rfl, rfl, h2⟩
    · simp only [List.getElem?_toArray, List.getElem?_cons_zero, List.getElem?_cons_succ, Option.some.injEq] at ho
      subst ho
      have h5 : a.tmps[13]?.getD undef = .int .i64 (k1 : Int) := (eval_getD a 13).symm.trans (hp ⟨5, .data⟩ (by simp) rfl)
      clear hp hpar hsl
      go_simp
      exact ⟨_, rfl, rfl, Below.refl _ _⟩
    · simp only [List.getElem?_toArray, List.getElem?_cons_zero, List.getElem?_cons_succ, Option.some.injEq] at ho
      subst ho
      obtain ⟨b3, h3, hb3, hc3⟩ : ∃ b : Nat, a.eval (.tmp 11) = .slice (some ⟨b, 0, none⟩) 8 8 ∧ b < w1.heap.size ∧ w1.heap[b]? = some (.cells #[.int .u8 48, .int .u8 48, .int .u8 48, .int .u8 53, .int .u8 50, .int .u8 49, .int .u8 51, .int .u8 54] 5 (0, 0)) := hp ⟨3, .data⟩ (by simp) rfl
      rw [eval_getD] at h3
      have h6 : a.tmps[14]?.getD undef = .int .i64 (j1 : Int) := (eval_getD a 14).symm.trans (hp ⟨6, .data⟩ (by simp) rfl)
      clear hp hpar hsl
      go_simp
      refine ⟨_, rfl, ⟨b3, ?_, hb3, ?_⟩, Below.refl _ _⟩
      · first | rfl | simp
      · rw [cell_of_row _ _ _ _ _ (0, 0) hc3]; exact hkl
    · simp only [List.getElem?_toArray, List.getElem?_cons_zero, List.getElem?_cons_succ, Option.some.injEq] at ho
      subst ho
      obtain ⟨b7, h7, hb7, hc7⟩ : ∃ b : Nat, a.eval (.tmp 15) = .pointer (some ⟨b, j1, none⟩) ∧ b < w1.heap.size ∧ w1.cell? ⟨b, j1, none⟩ = some (.int .u8 kk) := hp ⟨7, .data⟩ (by simp) rfl
      rw [eval_getD] at h7
      clear hp hpar hsl
      go_simp
      exact ⟨_, rfl, rfl, Below.refl _ _⟩
    · simp only [List.getElem?_toArray, List.getElem?_cons_zero, List.getElem?_cons_succ, Option.some.injEq] at ho
      subst ho
      have hs0 := (eval_getD a 0).symm.trans hsl
      clear hp hpar hsl
      go_simp
      exact ⟨_, rfl, rfl, Below.refl _ _⟩
    · simp only [List.getElem?_toArray, List.getElem?_cons_zero, List.getElem?_cons_succ, Option.some.injEq] at ho
      subst ho
      have h9 : a.tmps[17]?.getD undef = .slice A n c := (eval_getD a 17).symm.trans (hp ⟨9, .data⟩ (by simp) rfl)
      clear hp hpar hsl
      go_simp
      (with_reducible refine (G2.out w1 hB1).mono ?_)
      rintro e w2 ⟨rfl, h2⟩
      exact ⟨_, rfl, rfl, h2⟩
    · simp only [List.getElem?_toArray, List.getElem?_cons_zero, List.getElem?_cons_succ, Option.some.injEq] at ho
      subst ho
      have hs0 := (eval_getD a 0).symm.trans hsl
      clear hp hpar hsl
      go_simp
      exact ⟨_, rfl, rfl, Below.refl _ _⟩
    · simp only [List.getElem?_toArray, List.getElem?_cons_zero, List.getElem?_cons_succ, Option.some.injEq] at ho
      subst ho
      have h11 : a.tmps[19]?.getD undef = .slice A n c := (eval_getD a 19).symm.trans (hp ⟨11, .data⟩ (by simp) rfl)
      clear hp hpar hsl
      go_simp
      (with_reducible refine (G3.out w1 hB1).mono ?_)
      rintro e w2 ⟨rfl, h2⟩
      exact ⟨_, rfl, rfl, h2⟩
    · simp only [List.getElem?_toArray, List.getElem?_cons_zero, List.getElem?_cons_succ, Option.some.injEq] at ho
      subst ho
      have hs0 := (eval_getD a 0).symm.trans hsl
      clear hp hpar hsl
      go_simp
      exact ⟨_, rfl, rfl, Below.refl _ _⟩
    · simp only [List.getElem?_toArray, List.getElem?_cons_zero, List.getElem?_cons_succ, Option.some.injEq] at ho
      subst ho
      have h13 : a.tmps[21]?.getD undef = .slice A n c := (eval_getD a 21).symm.trans (hp ⟨13, .data⟩ (by simp) rfl)
      clear hp hpar hsl
      go_simp
      (with_reducible refine (G4.out w1 hB1).mono ?_)
      rintro e w2 ⟨rfl, h2⟩
      exact ⟨_, rfl, rfl, h2⟩
    · simp only [List.getElem?_toArray, List.getElem?_cons_zero, List.getElem?_cons_succ, Option.some.injEq] at ho
      subst ho
      have h14 : a.tmps[22]?.getD undef = .int .i64 (k4 : Int) := (eval_getD a 22).symm.trans (hp ⟨14, .data⟩ (by simp) rfl)
      clear hp hpar hsl
      go_simp
      first | exact ⟨_, rfl, rfl, Below.refl _ _⟩ | exact ⟨_, rfl, congrArg (Value.int .i64) (IntWalk.i64_in _ (by omega)), Below.refl _ _⟩
    · simp only [List.getElem?_toArray, List.getElem?_cons_zero, List.getElem?_cons_succ, Option.some.injEq] at ho
      subst ho
      have hs0 := (eval_getD a 0).symm.trans hsl
      clear hp hpar hsl
      go_simp
      exact ⟨_, rfl, rfl, Below.refl _ _⟩
    · simp only [List.getElem?_toArray, List.getElem?_cons_zero, List.getElem?_cons_succ, Option.some.injEq] at ho
      subst ho
      have h16 : a.tmps[24]?.getD undef = .slice A n c := (eval_getD a 24).symm.trans (hp ⟨16, .data⟩ (by simp) rfl)
      clear hp hpar hsl
      go_simp
      (with_reducible refine (G5.out w1 hB1).mono ?_)
      rintro e w2 ⟨rfl, h2⟩
      exact ⟨_, rfl, rfl, h2⟩
    · simp only [List.getElem?_toArray, List.getElem?_cons_zero, List.getElem?_cons_succ, Option.some.injEq] at ho
      subst ho
      have h17 : a.tmps[25]?.getD undef = .int .i64 (k5 : Int) := (eval_getD a 25).symm.trans (hp ⟨17, .data⟩ (by simp) rfl)
      clear hp hpar hsl
      go_simp
      exact ⟨_, rfl, rfl, Below.refl _ _⟩
    · simp only [List.getElem?_toArray, List.getElem?_cons_zero, List.getElem?_cons_succ, Option.some.injEq] at ho
      subst ho
      have h18 : a.tmps[26]?.getD undef = .int .i64 (j5 : Int) := (eval_getD a 26).symm.trans (hp ⟨18, .data⟩ (by simp) rfl)
      clear hp hpar hsl
      go_simp
      (with_reducible refine (HTx.out w1).mono ?_)
      rintro e w2 ⟨rfl, h2⟩
      exact ⟨_, rfl, rfl, h2⟩
    · simp only [List.getElem?_toArray, List.getElem?_cons_zero, List.getElem?_cons_succ, Option.some.injEq] at ho
      subst ho
      have hs0 := (eval_getD a 0).symm.trans hsl
      clear hp hpar hsl
      go_simp
      exact ⟨_, rfl, rfl, Below.refl _ _⟩
    · simp only [List.getElem?_toArray, List.getElem?_cons_zero, List.getElem?_cons_succ, Option.some.injEq] at ho
      subst ho
      have h20 : a.tmps[28]?.getD undef = .slice A n c := (eval_getD a 28).symm.trans (hp ⟨20, .data⟩ (by simp) rfl)
      clear hp hpar hsl
      go_simp
      (with_reducible refine (G6.out w1 hB1).mono ?_)
      rintro e w2 ⟨rfl, h2⟩
      exact ⟨_, rfl, rfl, h2⟩
    · simp only [List.getElem?_toArray, List.getElem?_cons_zero, List.getElem?_cons_succ, Option.some.injEq] at ho
      subst ho
      have h21 : a.tmps[29]?.getD undef = .int .i64 (k6 : Int) := (eval_getD a 29).symm.trans (hp ⟨21, .data⟩ (by simp) rfl)
      clear hp hpar hsl
      go_simp
      first | exact ⟨_, rfl, rfl, Below.refl _ _⟩ | exact ⟨_, rfl, congrArg (Value.int .i64) (IntWalk.i64_in _ (by omega)), Below.refl _ _⟩
    · simp only [List.getElem?_toArray, List.getElem?_cons_zero, List.getElem?_cons_succ, Option.some.injEq] at ho
      subst ho
      have h22 : a.tmps[30]?.getD undef = .int .i64 ((k6 : Int) - 3) := (eval_getD a 30).symm.trans (hp ⟨22, .data⟩ (by simp) rfl)
      clear hp hpar hsl
      go_simp
      exact ⟨_, rfl, rfl, Below.refl _ _⟩
    · simp only [List.getElem?_toArray, List.getElem?_cons_zero, List.getElem?_cons_succ, Option.some.injEq] at ho
      subst ho
      have h2 : a.tmps[10]?.getD undef = .string (nameT k0) := (eval_getD a 10).symm.trans (hp ⟨2, .data⟩ (by simp) rfl)
      have h8 : a.tmps[16]?.getD undef = .int .u8 kk := (eval_getD a 16).symm.trans (hp ⟨8, .data⟩ (by simp) rfl)
      have h10 : a.tmps[18]?.getD undef = .int .i64 (k2 : Int) := (eval_getD a 18).symm.trans (hp ⟨10, .data⟩ (by simp) rfl)
      have h12 : a.tmps[20]?.getD undef = .int .i64 (k3 : Int) := (eval_getD a 20).symm.trans (hp ⟨12, .data⟩ (by simp) rfl)
      have h15 : a.tmps[23]?.getD undef = .int .i64 ((k4 : Int) * 20000) := (eval_getD a 23).symm.trans (hp ⟨15, .data⟩ (by simp) rfl)
      have h19 : a.tmps[27]?.getD undef = .string (wordT j5 j5) := (eval_getD a 27).symm.trans (hp ⟨19, .data⟩ (by simp) rfl)
      have h23 : a.tmps[31]?.getD undef = .agg #[.int .i64 ((k6 : Int) - 3), .int .i64 0] := (eval_getD a 31).symm.trans (hp ⟨23, .data⟩ (by simp) rfl)
      clear hp hpar hsl
      go_simp
      exact ⟨_, rfl, rfl, Below.refl _ _⟩
    · simp only [List.getElem?_toArray, List.getElem?_cons_zero, List.getElem?_cons_succ, Option.some.injEq] at ho
      subst ho
      clear hp hpar hsl
      go_simp
      exact ⟨_, rfl, ⟨w1.heap.size, rfl, hw.size, Nat.lt_succ_self _, MB.new w1 {} (.slice none 0 0) (.slice none 0 0)⟩, (Below.refl _ _).alloc (Nat.le_refl _) _⟩
  · intro o ho vs w1 hw h
    simp only [List.length_cons, List.length_nil, Nat.reduceAdd, List.getElem?_toArray, List.getElem?_cons_zero, List.getElem?_cons_succ, Option.some.injEq] at ho
    subst ho
    have e0 : vs 0 = .slice A n c := h 0 (by decide)
    have e1 : vs 1 = .int .i64 (k0 : Int) := h 1 (by decide)
    have e2 : vs 2 = .string (nameT k0) := h 2 (by decide)
    have e4 : vs 4 = .slice A n c := h 4 (by decide)
    have e5 : vs 5 = .int .i64 (k1 : Int) := h 5 (by decide)
    have e6 : vs 6 = .int .i64 (j1 : Int) := h 6 (by decide)
    have e8 : vs 8 = .int .u8 kk := h 8 (by decide)
    have e9 : vs 9 = .slice A n c := h 9 (by decide)
    have e10 : vs 10 = .int .i64 (k2 : Int) := h 10 (by decide)
    have e11 : vs 11 = .slice A n c := h 11 (by decide)
    have e12 : vs 12 = .int .i64 (k3 : Int) := h 12 (by decide)
    have e13 : vs 13 = .slice A n c := h 13 (by decide)
    have e14 : vs 14 = .int .i64 (k4 : Int) := h 14 (by decide)
    have e15 : vs 15 = .int .i64 ((k4 : Int) * 20000) := h 15 (by decide)
    have e16 : vs 16 = .slice A n c := h 16 (by decide)
    have e17 : vs 17 = .int .i64 (k5 : Int) := h 17 (by decide)
    have e18 : vs 18 = .int .i64 (j5 : Int) := h 18 (by decide)
    have e19 : vs 19 = .string (wordT j5 j5) := h 19 (by decide)
    have e20 : vs 20 = .slice A n c := h 20 (by decide)
    have e21 : vs 21 = .int .i64 (k6 : Int) := h 21 (by decide)
    have e22 : vs 22 = .int .i64 ((k6 : Int) - 3) := h 22 (by decide)
    have e23 : vs 23 = .agg #[.int .i64 ((k6 : Int) - 3), .int .i64 0] := h 23 (by decide)
    have e24 : vs 24 = .agg (mcells { name := nameT k0, kind := kk, mode := k2, uid := k3, gid := (k4 : Int) * 20000, user := wordT j5 j5, group := ⟨#[103]⟩, sec := (k6 : Int) - 3 } (.slice none 0 0) (.slice none 0 0)) := h 24 (by decide)
    have x25 : ∃ g : Nat, vs 25 = .pointer (some ⟨g, 0, none⟩) ∧ w0.heap.size ≤ g ∧ g < w1.heap.size ∧ MB w1 g {} (.slice none 0 0) (.slice none 0 0) := h 25 (by decide)
    have y25 := Classical.choose_spec x25
    generalize Classical.choose x25 = g at y25
    have e25 := y25.1
    have hg0 := hid y25.2.1
    have hg1 := hid y25.2.2.1
    have hmb := hid y25.2.2.2
    clear x25 y25
    rw [show List.length ([8, 9, 10, 11, 12, 13, 14, 15, 16, 17, 18, 19, 20, 21, 22, 23, 24, 25, 26, 27, 28, 29, 30, 31, 32, 3] : List Nat) = 26 from rfl]
    rw [putAll_at 26 25 rfl (d := 3) rfl e25]
    rw [putAll_at 25 24 rfl (d := 32) rfl e24]
    rw [putAll_at 24 23 rfl (d := 31) rfl e23]
    rw [putAll_at 23 22 rfl (d := 30) rfl e22]
    rw [putAll_at 22 21 rfl (d := 29) rfl e21]
    rw [putAll_at 21 20 rfl (d := 28) rfl e20]
    rw [putAll_at 20 19 rfl (d := 27) rfl e19]
    rw [putAll_at 19 18 rfl (d := 26) rfl e18]
    rw [putAll_at 18 17 rfl (d := 25) rfl e17]
    rw [putAll_at 17 16 rfl (d := 24) rfl e16]
    rw [putAll_at 16 15 rfl (d := 23) rfl e15]
    rw [putAll_at 15 14 rfl (d := 22) rfl e14]
    rw [putAll_at 14 13 rfl (d := 21) rfl e13]
    rw [putAll_at 13 12 rfl (d := 20) rfl e12]
    rw [putAll_at 12 11 rfl (d := 19) rfl e11]
    rw [putAll_at 11 10 rfl (d := 18) rfl e10]
    rw [putAll_at 10 9 rfl (d := 17) rfl e9]
    rw [putAll_at 9 8 rfl (d := 16) rfl e8]
    rw [putAll_at 8 7 rfl (d := 15) rfl rfl]
    rw [putAll_at 7 6 rfl (d := 14) rfl e6]
    rw [putAll_at 6 5 rfl (d := 13) rfl e5]
    rw [putAll_at 5 4 rfl (d := 12) rfl e4]
    rw [putAll_at 4 3 rfl (d := 11) rfl rfl]
    rw [putAll_at 3 2 rfl (d := 10) rfl e2]
    rw [putAll_at 2 1 rfl (d := 9) rfl e1]
    rw [putAll_at 1 0 rfl (d := 8) rfl e0]
    rw [putAll_zero]
    clear h e0 e1 e2 e4 e5 e6 e8 e9 e10 e11 e12 e13 e14 e15 e16 e17 e18 e19 e20 e21 e22 e23 e24 e25
    simp only [Act.put, List.setIfInBounds_toArray, List.set_cons_zero, List.set_cons_succ]
    refine wp_store_row 28 (.tmp 3) (.tmp 32) rfl g (mcells ({ name := nameT k0, kind := kk, mode := k2, uid := k3, gid := (k4 : Int) * 20000, user := wordT j5 j5, group := ⟨#[103]⟩, sec := (k6 : Int) - 3 } : M.Met) (.slice none 0 0) (.slice none 0 0)) (by rfl) (by rfl) 28 (mcells {} (.slice none 0 0) (.slice none 0 0)) hmb.out met_size rfl (mcells_one _ rfl rfl) ?_
    have Q1 := hid (show MQ 600 w (w1.setRow g (mcells ({ name := nameT k0, kind := kk, mode := k2, uid := k3, gid := (k4 : Int) * 20000, user := wordT j5 j5, group := ⟨#[103]⟩, sec := (k6 : Int) - 3 } : M.Met) (.slice none 0 0) (.slice none 0 0))) g from by
      have hgw : w.heap.size < g := Nat.lt_of_lt_of_le HRes.out.lt hg0.out
      have hb := B0.out.trans (hw.mono B0.out.size)
      refine ⟨⟨({ name := nameT k0, kind := kk, mode := k2, uid := k3, gid := (k4 : Int) * 20000, user := wordT j5 j5, group := ⟨#[103]⟩, sec := (k6 : Int) - 3 } : M.Met), _, _, setRow_heap _ _ _ _ _ _ hmb.out, fun W2 _ => ?_, ?_⟩, HRes.out.of_block ((setRow_other w1 g _ _ (by omega)).trans (hw.block _ HRes.out.lt)), hgw, hb.trans ⟨rfl, rfl, rfl, by simp, fun k hk => setRow_other w1 g k _ (by omega)⟩⟩
      · exact {
          parts := ⟨none, 0, rfl, Sp.RdP.none_⟩
          extra := ⟨none, 0, rfl, fun h => absurd h (Nat.lt_irrefl 0)⟩
          nparts := Nat.zero_le _
          nextra := Nat.zero_le _
          i64s := fun p hp => nomatch hp
          fits := fun r hr => nomatch hr
          kind := hkk
          texts := ⟨by have := (nameT_size k0 hk0).2; show (nameT k0).size ≤ 1000000; omega, Nat.zero_le _, by have := wordT_size j5 j5; show (wordT j5 j5).size ≤ 1000000; omega, by show (1 : Nat) ≤ 1000000; decide⟩
          ints := ⟨by show _ ≤ (k2 : Int) ∧ (k2 : Int) ≤ _; omega, by show _ ≤ (k3 : Int) ∧ (k3 : Int) ≤ _; omega, by show _ ≤ (k4 : Int) * 20000 ∧ (k4 : Int) * 20000 ≤ _; omega, by show _ ≤ (k6 : Int) - 3 ∧ (k6 : Int) - 3 ≤ _; omega, by show _ ≤ (0 : Int) ∧ (0 : Int) ≤ _; decide, by show _ ≤ (0 : Int) ∧ (0 : Int) ≤ _; decide, by show _ ≤ (0 : Int) ∧ (0 : Int) ≤ _; decide, by show _ ≤ (0 : Int) ∧ (0 : Int) ≤ _; decide, by show _ ≤ (0 : Int) ∧ (0 : Int) ≤ _; decide⟩ }
      · have := nameT_size k0 hk0
        show 1 ≤ (nameT k0).size ∧ (nameT k0).size ≤ 600
        omega)
    clear hmb hg0 hg1 hw HRes B0
    generalize w1.setRow _ _ = w2 at *
    clear e1a e1b e5a e5b hj18 hj54 hj1i hkl HNm HTx G0 G1 G4 G5
    go_wp2_with fail
    (with_reducible refine (G6.out w2 Q1.out.below).mono ?_)
    rintro e w3 ⟨rfl, b3⟩
    have Q3 := hid (Q1.out.later b3)
    clear b3 Q1
    go_upto_if 35 with fail
    generalize decide (200 < (k6 : Int)) = bt
    go_cut [] from 36 to 40 (fun wx => MQ 600 w wx g)
    case first =>
      cases bt with
      | false =>
        go_wp2_with fail
        go_meet
        case rel => exact Q3.out
      | true =>
        go_wp2_with fail
        (with_reducible refine (G7.out w3 Q3.out.below).mono ?_)
        rintro e w4 ⟨rfl, b4⟩
        have Q4 := hid (Q3.out.later b4)
        clear b4 Q3
        have x9 := Q4.out.at_ 9 (by decide)
        have y9 := Classical.choose_spec x9
        generalize Classical.choose x9 = o9 at y9
        have c9 := y9.1
        have f9 := y9.2
        clear x9 y9
        go_wp2_with fail
        go_meet
        case rel => exact Q4.out.set 9 _ (fun m => { m with nan := 1000 * (k7 : Int) }) (fun _ _ _ => rfl) (fun _ _ _ _ h => h.nan_ (by omega)) (fun _ h => h)
    case rest =>
      have Q4 := hid hcut
      clear hcut Q3
      go_upto_region 4 with fail
      go_cut [42] from 41 to 41 (fun x wx => (∃ z : Int, x = .int .u8 z) ∧ MQ 600 w wx g)
      case first =>
        have xk := Q4.out.kind
        have yk := Classical.choose_spec xk
        generalize Classical.choose xk = z at yk
        clear xk
        go_wp2_with fail
        go_meet
        case rel => exact ⟨⟨z, rfl⟩, Q4.out⟩
      case rest =>
      have Q4 := hid hcut.2
      have x42 := hcut.1
      clear hcut
      have y42 := Classical.choose_spec x42
      generalize Classical.choose x42 = z at y42
      clear x42
      subst y42
      go_upto_block 0 with fail
      go_cut [] from 43 to 102 (fun wx => MQ 601 w wx g)
      case first =>
        go_upto_if 43 with fail
        generalize (z == 48) = b0
        cases b0 with
        | true =>
          go_wp2_with fail
          (with_reducible refine (G8.out wc Q4.out.below).mono ?_)
          rintro e w5 ⟨rfl, b5⟩
          have Q5 := hid (Q4.out.later b5)
          clear b5
          have x12 := Q5.out.at_ 12 (by decide)
          have y12 := Classical.choose_spec x12
          generalize Classical.choose x12 = o12 at y12
          have c12 := y12.1
          have f12 := y12.2
          clear x12 y12
          have Q6 := hid (Q5.out.set 12 (.int .i64 (k8 : Int)) (fun m => { m with size := (k8 : Int) }) (fun _ _ _ => rfl) (fun _ _ _ _ h => h.size_ (by omega)) (fun _ h => h))
          go_upto_region 7 with fail
          clear c12 f12 Q5
          generalize w5.setCell _ _ = w6 at *
          have xz := Q6.out.sz
          have yz := Classical.choose_spec xz
          generalize Classical.choose xz = zz at yz
          have cz := yz.1
          have hz := hid yz.2
          clear xz yz
          have x13 := Q6.out.at_ 13 (by decide)
          have y13 := Classical.choose_spec x13
          generalize Classical.choose x13 = o13 at y13
          have c13 := y13.1
          have f13 := y13.2
          clear x13 y13
          have Q7 := hid (Q6.out.set 13 (.int .i64 zz) (fun m => { m with real := zz }) (fun _ _ _ => rfl) (fun _ _ _ _ h => h.real_ hz.out) (fun _ h => h))
          go_upto_region 8 with fail
          clear c13 f13 cz Q6 hz
          generalize w6.setCell _ _ = w7 at *
          have xn := Q7.out.name
          have yn := Classical.choose_spec xn
          generalize Classical.choose xn = s0 at yn
          have c0 := yn.1
          have f0 := yn.2.1
          have hn0 := hid yn.2.2
          clear xn yn
          have hs1 := hn0.out.1
          have xj : ∃ j : Nat, s0.size = j + 1 := ⟨s0.size - 1, by omega⟩
          have yj := Classical.choose_spec xj
          generalize Classical.choose xj = j at yj
          clear xj
          have ej : ((s0.size : Nat) : Int) - 1 = (j : Int) := by omega
          have ejw : IntKind.i64.wrap (j : Int) = (j : Int) := IntWalk.i64_in _ (by have := hn0.out.2; omega)
          have hjl : j < s0.size := by omega
          clear hs1 yj
          go_upto_if 58 with fail
          generalize ((s0[j].toNat : Nat) : Int) = z57
          clear hjl
          generalize (z57 == 47) = b58
          go_cut [] from 59 to 62 (fun wx => MQ 601 w wx g)
          case first =>
            cases b58 with
            | false =>
              go_wp2_with fail
              go_meet
              case rel => exact Q7.out.weak (by decide)
            | true =>
              have hs0 := hn0.out.2
              go_wp2_with fail
              go_meet
              case rel => exact Q7.out.rename 601 _ (by have := hn0.out; rw [ByteArray.size_append, show (⟨#[102]⟩ : ByteArray).size = 1 from rfl]; omega) (by decide)
          case rest =>
            have Q8 := hid hcut
            clear hcut Q7 c0 f0 hn0 ej ejw
            go_wp2_with fail
            (with_reducible refine (G9.out wc Q8.out.below).mono ?_)
            rintro e w9 ⟨rfl, b9⟩
            have Q9 := hid (Q8.out.later b9)
            clear b9 Q8
            go_upto_if 65 with fail
            generalize decide (200 < (k9 : Int)) = b65
            cases b65 with
            | false =>
              go_wp2_with fail
              go_meet
              case rel => exact Q9.out
            | true =>
              go_upto_if 68 with fail
              go_cut [4] from 69 to 70 (fun x wx => (∃ p : Option Addr × Nat × Nat × List Int, x = .slice p.1 p.2.1 p.2.2.1 ∧ Sp.Rd w w.heap.size p.1 p.2.1 p.2.2.2 ∧ p.2.1 ≤ maxLen) ∧ wx = w9)
              case first =>
                by_cases hlt : 10 < n
                · go_wp2_with fail
                  go_meet
                  case rel => exact ⟨⟨(A.map (·.add 10), n - 10, c - 10, zs.drop 10), rfl, HC2.out hlt, Nat.le_trans (Nat.sub_le _ _) HC3.out⟩, rfl⟩
                · go_wp2_with fail
                  go_meet
                  case rel => exact ⟨⟨(none, 0, 0, []), rfl, Sp.Rd.none_, Nat.zero_le _⟩, rfl⟩
              case rest =>
                have xw := hcut.2
                subst xw
                have x4 := hcut.1
                clear hcut
                have y4 := Classical.choose_spec x4
                generalize Classical.choose x4 = p4 at y4
                clear x4
                generalize p4.1 = A2 at y4
                generalize p4.2.1 = n2 at y4
                generalize p4.2.2.1 = c2 at y4
                generalize p4.2.2.2 = zs2 at y4
                have R2 := hid y4.2
                have e4 := y4.1
                clear y4
                subst e4
                go_wp2_with fail
                (with_reducible refine (HPt.out A2 n2 c2 zs2 wc Q9.out.below R2.out.1 R2.out.2).mono ?_)
                rintro e wa ⟨v5, l5, n5, a5, rfl, ho5, hf5, ba⟩
                obtain ⟨A5, c5, rfl, hr5, hc5⟩ := ho5.rd
                have O5 := hid ho5
                have F5 := hid hf5
                clear hr5 hc5 ho5 hf5
                have Qa := hid (Q9.out.later ba)
                have L5 := hid Q9.out.lt
                clear ba Q9
                have x14 := Qa.out.at_ 14 (by decide)
                have y14 := Classical.choose_spec x14
                generalize Classical.choose x14 = o14 at y14
                have c14 := y14.1
                have f14 := y14.2
                clear x14 y14
                go_upto_region 16 with fail
                have Qb := hid (Qa.out.set 14 (.bool true) (fun m => { m with holes := true }) (fun _ _ _ => rfl) (fun _ _ _ _ h => h.holes_ true) (fun _ h => h))
                have O6 := hid (O5.out.set (p := ⟨g, 14, none⟩) L5.out (.bool true))
                clear c14 f14 Qa O5
                generalize wa.setCell _ _ = wb at *
                have x15 := Qb.out.at_ 15 (by decide)
                have y15 := Classical.choose_spec x15
                generalize Classical.choose x15 = o15 at y15
                have c15 := y15.1
                have f15 := y15.2
                clear x15 y15
                go_upto_region 17 with fail
                have Qc := hid (Qb.out.parts A5 c5 l5 wc.heap.size O6.out L5.out (by have := F5.out.len; omega) F5.out.i64)
                clear c15 f15 Qb O6
                generalize wb.setCell _ _ = w12 at *
                have x12 := Qc.out.at_ 12 (by decide)
                have y12 := Classical.choose_spec x12
                generalize Classical.choose x12 = o12 at y12
                have c12 := y12.1
                have f12 := y12.2
                clear x12 y12
                go_upto_region 18 with fail
                have Qd := hid (Qc.out.set 12 (.int .i64 n5) (fun m => { m with size := n5 }) (fun _ _ _ => rfl) (fun _ _ _ _ h => h.size_ (by have := F5.out.n0; omega)) (fun _ h => h))
                clear c12 f12 Qc
                generalize w12.setCell _ _ = wd at *
                go_wp2_with fail
                (with_reducible refine (G9.out wd Qd.out.below).mono ?_)
                rintro e we ⟨rfl, be⟩
                have Qe := hid (Qd.out.later be)
                clear be Qd
                have x13 := Qe.out.at_ 13 (by decide)
                have y13 := Classical.choose_spec x13
                generalize Classical.choose x13 = o13 at y13
                have c13 := y13.1
                have f13 := y13.2
                clear x13 y13
                have e9b : (k9 : Int).tmod 9 = (k9 : Int) % 9 := Int.tmod_eq_emod_of_nonneg (by omega)
                have xm : ∃ m9 : Int, (k9 : Int) % 9 = m9 ∧ 0 ≤ m9 ∧ m9 < 9 := ⟨_, rfl, by omega, by omega⟩
                have ym := Classical.choose_spec xm
                generalize Classical.choose xm = m9 at ym
                clear xm
                have em := ym.1
                have hm9 := hid ym.2
                clear ym
                rw [em] at e9b
                clear em
                have ew9 : IntKind.i64.wrap (a5 + m9) = a5 + m9 := IntWalk.i64_in _ (by have := hm9.out; have := F5.out.e0; omega)
                go_wp2_with fail
                go_meet
                case rel => exact Qe.out.set 13 (.int .i64 (a5 + m9)) (fun m => { m with real := a5 + m9 }) (fun _ _ _ => rfl) (fun _ _ _ _ h => h.real_ (by have := hm9.out; have := F5.out.e0; omega)) (fun _ h => h)
        | false =>
          go_upto_if 88 with fail
          generalize (z == 49) = b1
          cases b1 with
          | true =>
            go_wp2_with fail
            (with_reducible refine (G8.out wc Q4.out.below).mono ?_)
            rintro e w5 ⟨rfl, b5⟩
            have Q5 := hid (Q4.out.later b5)
            clear b5
            go_wp2_with fail
            (with_reducible refine (HNm8.out w5).mono ?_)
            rintro e w6 ⟨rfl, b6⟩
            have Q6 := hid (Q5.out.later b6)
            clear b6
            have x1 := Q6.out.at_ 1 (by decide)
            have y1 := Classical.choose_spec x1
            generalize Classical.choose x1 = o1 at y1
            have c1 := y1.1
            have f1 := y1.2
            clear x1 y1
            go_wp2_with fail
            go_meet
            case rel => exact (Q6.out.set 1 _ (fun m => { m with link := nameT k8 }) (fun _ _ _ => rfl) (fun _ _ _ _ h => h.link_ HS8.out) (fun _ h => h)).weak (by decide)
          | false =>
            go_upto_region 20 with fail
            go_upto_if 88 with fail
            generalize (z == 50) = b2
            cases b2 with
            | true =>
              go_wp2_with fail
              (with_reducible refine (G8.out wc Q4.out.below).mono ?_)
              rintro e w5 ⟨rfl, b5⟩
              have Q5 := hid (Q4.out.later b5)
              clear b5
              go_wp2_with fail
              (with_reducible refine (HNm8.out w5).mono ?_)
              rintro e w6 ⟨rfl, b6⟩
              have Q6 := hid (Q5.out.later b6)
              clear b6
              have x1 := Q6.out.at_ 1 (by decide)
              have y1 := Classical.choose_spec x1
              generalize Classical.choose x1 = o1 at y1
              have c1 := y1.1
              have f1 := y1.2
              clear x1 y1
              go_wp2_with fail
              go_meet
              case rel => exact (Q6.out.set 1 _ (fun m => { m with link := nameT k8 }) (fun _ _ _ => rfl) (fun _ _ _ _ h => h.link_ HS8.out) (fun _ h => h)).weak (by decide)
            | false =>
              go_upto_if 95 with fail
              generalize (z == 51) = b3
              cases b3 with
              | false =>
                go_wp2_with fail
                go_meet
                case rel => exact Q4.out.weak (by decide)
              | true =>
                go_wp2_with fail
                (with_reducible refine (G8.out wc Q4.out.below).mono ?_)
                rintro e w5 ⟨rfl, b5⟩
                have Q5 := hid (Q4.out.later b5)
                clear b5
                have x10 := Q5.out.at_ 10 (by decide)
                have y10 := Classical.choose_spec x10
                generalize Classical.choose x10 = o10 at y10
                have c10 := y10.1
                have f10 := y10.2
                clear x10 y10
                have Q6 := hid (Q5.out.set 10 (.int .i64 (k8 : Int)) (fun m => { m with major := (k8 : Int) }) (fun _ _ _ => rfl) (fun _ _ _ _ h => h.major_ (by omega)) (fun _ h => h))
                go_upto_region 24 with fail
                clear c10 f10 Q5
                generalize w5.setCell _ _ = w6 at *
                go_wp2_with fail
                (with_reducible refine (G9.out w6 Q6.out.below).mono ?_)
                rintro e w7 ⟨rfl, b7⟩
                have Q7 := hid (Q6.out.later b7)
                clear b7
                have x11 := Q7.out.at_ 11 (by decide)
                have y11 := Classical.choose_spec x11
                generalize Classical.choose x11 = o11 at y11
                have c11 := y11.1
                have f11 := y11.2
                clear x11 y11
                go_wp2_with fail
                go_meet
                case rel => exact (Q7.out.set 11 _ (fun m => { m with minor := (k9 : Int) }) (fun _ _ _ => rfl) (fun _ _ _ _ h => h.minor_ (by omega)) (fun _ h => h)).weak (by decide)
      case rest =>
        have Q5 := hid hcut
        clear hcut Q4
        go_wp2_with fail
        (with_reducible refine (G7.out wc Q5.out.below).mono ?_)
        rintro e w5 ⟨rfl, b5⟩
        have Q6 := hid (Q5.out.later b5)
        clear b5 Q5
        go_upto_if 105 with fail
        generalize decide (180 < (k7 : Int)) = b105
        go_cut [] from 106 to 112 (fun wx => MQ 601 w wx g)
        case first =>
          cases b105 with
          | false =>
            go_wp2_with fail
            go_meet
            case rel => exact Q6.out
          | true =>
            go_wp2_with fail
            (with_reducible refine (G7.out w5 Q6.out.below).mono ?_)
            rintro e w6 ⟨rfl, b6⟩
            have Q7 := hid (Q6.out.later b6)
            clear b6 Q6
            go_wp2_with fail
            (with_reducible refine (HTx7.out w6).mono ?_)
            rintro e w7 ⟨rfl, b7⟩
            have Q8 := hid (Q7.out.later b7)
            clear b7 Q7
            have x16 := Q8.out.at_ 16 (by decide)
            have y16 := Classical.choose_spec x16
            generalize Classical.choose x16 = o16 at y16
            have c16 := y16.1
            have f16 := y16.2
            clear x16 y16
            have hg8 := Q8.out.lt
            go_wp2_with fail
            go_meet
            case rel =>
              have Qz := (Q8.out.later ((Below.refl _ w7).alloc (Nat.le_refl _) (.cells #[.string ⟨#[97, 46, 98]⟩, .string (wordT k7 k7), .string ⟨#[99, 111, 109, 109, 101, 110, 116]⟩, .string ⟨#[120]⟩] 47))).extra w7.heap.size 47 ⟨#[97, 46, 98]⟩ (wordT k7 k7) ⟨#[99, 111, 109, 109, 101, 110, 116]⟩ ⟨#[120]⟩ (heap_alloc_new w7 _) hg8 (by
                have := wordT_size k7 k7
                exact ⟨⟨by show (3 : Nat) ≤ 1000000; decide, by omega⟩, by show (7 : Nat) ≤ 1000000; decide, by show (1 : Nat) ≤ 1000000; decide⟩)
              rw [World.setCell_alloc_past _ g 16 _ hg8] at Qz
              exact Qz
        case rest =>
          have Q7 := hid hcut
          clear hcut Q6
          go_wp2_with fail
          (with_reducible refine (G2.out wc Q7.out.below).mono ?_)
          rintro e w7 ⟨rfl, b7⟩
          have Q8 := hid (Q7.out.later b7)
          clear b7 Q7
          go_upto_if 115 with fail
          generalize decide (250 < (k2 : Int)) = b115
          go_cut [] from 116 to 120 (fun wx => MQ 601 w wx g)
          case first =>
            cases b115 with
            | false =>
              go_wp2_with fail
              go_meet
              case rel => exact Q8.out
            | true =>
              go_wp2_with fail
              (with_reducible refine (G3.out w7 Q8.out.below).mono ?_)
              rintro e w8 ⟨rfl, b8⟩
              have Q9 := hid (Q8.out.later b8)
              clear b8 Q8
              have x3 := Q9.out.at_ 3 (by decide)
              have y3 := Classical.choose_spec x3
              generalize Classical.choose x3 = o3 at y3
              have c3 := y3.1
              have f3 := y3.2
              clear x3 y3
              have e3b : (k3 : Int).tmod 3 = (k3 : Int) % 3 := Int.tmod_eq_emod_of_nonneg (by omega)
              have xm : ∃ m3 : Int, (k3 : Int) % 3 = m3 ∧ 0 ≤ m3 ∧ m3 < 3 := ⟨_, rfl, by omega, by omega⟩
              have ym := Classical.choose_spec xm
              generalize Classical.choose xm = m3 at ym
              clear xm
              have em := ym.1
              have hm3 := hid ym.2
              clear ym
              rw [em] at e3b
              clear em
              have ew3 : IntKind.i64.wrap (2097150 + m3) = 2097150 + m3 := IntWalk.i64_in _ (by have := hm3.out; omega)
              go_wp2_with fail
              go_meet
              case rel => exact Q9.out.set 3 (.int .i64 (2097150 + m3)) (fun m => { m with mode := 2097150 + m3 }) (fun _ _ _ => rfl) (fun _ _ _ _ h => h.mode_ (by have := hm3.out; omega)) (fun _ h => h)
          case rest =>
            have xs := hcut.ex
            have hB9 := hid hcut.below
            have hR9 := hid hcut.res
            clear hcut Q8
            have ys := Classical.choose_spec xs
            generalize Classical.choose xs = mm at ys
            clear xs
            have zs1 := Classical.choose_spec ys
            generalize Classical.choose ys = pv at zs1
            clear ys
            have zs2 := Classical.choose_spec zs1
            generalize Classical.choose zs1 = ev at zs2
            clear zs1
            have hM := hid zs2.1
            have hI := hid zs2.2.1
            clear zs2
            have hone := hid (oneP (hI.out wc (MBut.refl _ _ _)))
            go_wp2_with (first
              | (refine wpList_load_row rfl 28 (.tmp 3) rfl g (by rfl) 28 (mcells mm pv ev) (0, 0) _ hM.out Tryz.underlying28 rfl met_size ?_)
              | (refine wpList_store_row rfl 28 (.tmp 2) (.tmp 121) rfl w.heap.size (mcells mm pv ev) (by simp [Act.eval, Act.put]) (by simp [Act.eval, Act.put]) 28 (mcells {} (.slice none 0 0) (.slice none 0 0)) hR9.out met_size rfl (mcells_one _ hone.out.1 hone.out.2) ?_))
            have HR := hid (show MB (wc.setRow w.heap.size (mcells mm pv ev)) w.heap.size mm pv ev from setRow_heap wc _ _ _ _ _ hR9.out)
            refine bodyPost_ret (results_law HR.out rfl) rfl ?_
            exact ⟨mm, pv, ev, rfl, hI.out _ (MBut.row _ _ _ _), below_setRow hB9.out (Nat.le_refl _) _⟩
end Go.Proofs.YtgfihdfncddpaaaGreatDoor

/-! What is known is told, and known again, of a header that may be printed: the statement's walk. -/
namespace Go.Proofs.YtgfihdfncddpaaaGreatDoor
open Go.RowKit Go.Lib
open Px (R2 tl)

/-- The document's Print of a header that To tells: no error, one block. -/
abbrev TellsH : Prop := ∀ (m : M.Met) (pv ev : Value) (W : World), MIn W m pv ev → M.toE m = 0 →
  Calls Tryz.prog 9 #[.agg (hcells (M.toH m) (.slice none 0 0))] W fun e w' => (∃ a c, e = .returned (.tuple #[.slice a 512 c, .int .i64 0])) ∧ Below W.heap.size W w'
/-- The document's Print of the records that To tells: no error. -/
abbrev TellsR (B : Nat) : Prop := ∀ (m : M.Met) (pv ev : Value) (A : Option Addr) (c : Nat) (W : World), B ≤ W.heap.size → Sp.EV B W → MIn W m pv ev → M.toE m = 0 → Px.RdR W W.heap.size A ((M.toR m).map M.mk) →
  Calls Tryz.prog 10 #[.slice A (M.toR m).length c] W fun e w' => (∃ a n c2, e = .returned (.tuple #[.slice a n c2, .int .i64 0])) ∧ Below W.heap.size W w'
/-- A load of a row whose guard is wanted. -/
theorem wl_load_row {P : Program} {ops : Array Oper} {rest : List Oper} {o : Oper} {a : Act} {w : World} {Q : Exit → Act → World → Prop} (hw : Region.wanted o (yielded ops a.tmps) = true) (ty : TypeId) (x : Operand) (ho : o.op = .load ty x)
    (g : Nat) (hx : a.eval x = .pointer (some ⟨g, 0, none⟩)) (t : TypeId) (cs : Array Value) (fr : Nat × Nat) (d : TypeDesc) (hg : w.heap[g]? = some (.cells cs t fr))
    (hu : P.underlying ty = some d) (hd : (match d with | .struct _ | .array _ _ => true | _ => false) = true) (hi : (P.info? ty).map (·.size) = some cs.size)
    (h : wpList P ops Q rest (a.put o.dst (.agg cs)) w) : wpList P ops Q (o :: rest) a w := by
  unfold wpList
  rw [if_pos hw]
  left
  exact wp_load_row ty x ho g hx t cs fr d hg hu hd hi h
theorem toR_none {m : M.Met} (h : M.toE m ≠ 0) : (M.toR m).length = 0 := by unfold M.toR; rw [if_neg h]; rfl
theorem sin_of {w : World} {m : M.Met} {pv ev : Value} (h : MIn w m pv ev) : ∃ P p E c, pv = .slice P m.parts.length p ∧ ev = .slice E m.extra.length c ∧ SIn w m (.slice P m.parts.length p) (.slice E m.extra.length c) := by
  obtain ⟨P, p, rfl, h1⟩ := h.parts
  obtain ⟨E, c, rfl, h2⟩ := h.extra
  exact ⟨P, p, E, c, rfl, rfl, ⟨P, p, rfl, h1⟩, ⟨E, c, rfl, h2⟩, Nat.le_trans h.nparts (by decide), Nat.le_trans h.nextra (by decide)⟩
set_option maxRecDepth 100000 in
set_option maxHeartbeats 4000000 in
theorem metaBack_any (A : Option Addr) (n c : Nat) (zs : List Int) (B : Nat) (w : World) (HH : TellsH) (HR : TellsR B) (hr : Sp.Rd w w.heap.size A n zs) (hc : n ≤ c) (hcm : c ≤ maxLen) (hB : B ≤ w.heap.size) (ht : Sp.EV B w) :
    Calls Tryz.prog 3 #[.slice A n c] w fun e w' => e = .returned (.bool true) ∧ Below w.heap.size w w' := by
  have HTH := hid HH
  have HTR := hid HR
  have HT := hid (fun (V : World) (hV : Below w.heap.size w V) => And.intro (Nat.le_trans hB hV.size) (ht.on (hV.mono hB)))
  have HL := hid (lawMeta_any A n c zs w hr hc hcm)
  clear HH HR ht hB hr hc hcm
  go_enter Tryz.func3, Tryz.ntmps3
  go_wp2_with fail
  (with_reducible refine HL.out.mono ?_)
  rintro e w1 ⟨m, pv, ev, rfl, hI, b1⟩
  have HP := hid (oneP hI)
  have HI1 := hid hI
  have HB1 := hid b1
  clear hI b1 HL
  go_upto_region 2 with (refine wpList_store_row rfl 28 (.tmp 3) (.tmp 14) rfl w1.heap.size (mcells m pv ev) (by simp [Act.eval]) (by simp [Act.eval]) 28 (mcells {} (.slice none 0 0) (.slice none 0 0)) (heap_alloc_new w1 _) met_size rfl (mcells_one _ HP.out.1 HP.out.2) ?_; rw [World.setRow_alloc_new])
  have MB2 := hid (MB.new w1 m pv ev)
  have hb2 := (Below.refl w1.heap.size w1).alloc (Nat.le_refl _) (.cells (mcells m pv ev) 28)
  have HI2 := hid (HI1.out.later hb2)
  have HB2 := hid (HB1.out.trans (hb2.mono HB1.out.size))
  have hs2 : w1.heap.size < (World.alloc w1 (.cells (mcells m pv ev) 28)).heap.size := by rw [World.size_alloc]; exact Nat.lt_succ_self _
  clear HI1 HB1 hb2
  generalize World.alloc w1 _ = w2 at *
  generalize w1.heap.size = g1 at *
  go_wp2_with (refine wpList_load_row rfl 28 (.tmp 3) rfl g1 (by rfl) 28 (mcells m pv ev) (0, 0) _ MB2.out Tryz.underlying28 rfl met_size ?_)
  (with_reducible refine (to_any m pv ev B w2 HI2.out (HT.out w2 HB2.out).1 (HT.out w2 HB2.out).2).mono ?_)
  rintro e w3 ⟨A3, c3, rfl, hr3, hc3, hb3⟩
  have MB3 := hid (MB2.out.below hb3 hs2)
  have HI3 := hid (HI2.out.later hb3)
  have HB3 := hid (HB2.out.trans (hb3.mono HB2.out.size))
  have hs3 : g1 < w3.heap.size := Nat.lt_of_lt_of_le hs2 hb3.size
  have HR3 := hid hr3
  clear MB2 HI2 HB2 hs2 hr3 hc3 hb3
  go_upto_region 3 with (refine wpList_store_row rfl 31 (.tmp 4) (.tmp 18) rfl w3.heap.size (hcells (M.toH m) (.slice none 0 0)) (by simp [Act.eval]) (by simp [Act.eval]) 31 (hcells {} (.slice none 0 0)) (heap_alloc_new w3 _) hdr_size rfl (hcells_one _ rfl) ?_; rw [World.setRow_alloc_new])
  have hb4 := (Below.refl w3.heap.size w3).alloc (Nat.le_refl _) (.cells (hcells (M.toH m) (.slice none 0 0)) 31)
  have HH4 := hid (HB.new w3 (M.toH m) (.slice none 0 0))
  have hs4 : w3.heap.size < (World.alloc w3 (.cells (hcells (M.toH m) (.slice none 0 0)) 31)).heap.size := by rw [World.size_alloc]; exact Nat.lt_succ_self _
  have MB4 := hid (MB3.out.below hb4 hs3)
  have HI4 := hid (HI3.out.later hb4)
  have HR4 := hid ((HR3.out.below hb4).more hb4.size)
  have HB4 := hid (HB3.out.trans (hb4.mono HB3.out.size))
  clear MB3 HI3 HR3 HB3 hb4
  generalize World.alloc w3 _ = w4 at *
  generalize w3.heap.size = g3 at *
  by_cases hE : M.toE m = 0
  · rw [hE]
    have HF := hid (from_any (M.toH m) (.slice none 0 0) ((M.toR m).map M.mk) [] [] [] A3 none none none c3 0 0 0 B w4 (fin_to HI4.out.fits HR4.out) (HT.out w4 HB4.out).1 (HT.out w4 HB4.out).2)
    unfold FromIs at HF
    rw [List.length_map, rcs_mk, (M.from_to hE).1, (M.from_to hE).2] at HF
    have HE := hid hE
    clear hE
    go_upto_region 5 with fail
    go_wp2_with (refine wpList_load_row rfl 31 (.tmp 4) rfl g3 (by rfl) 31 (hcells (M.toH m) (.slice none 0 0)) (0, 0) _ HH4.out Tryz.underlying31 rfl hdr_size ?_)
    refine HF.out.mono ?_
    rintro e w5 ⟨pv5, ev5, rfl, hI5, hb5⟩
    have hs4g : g1 < w4.heap.size := Nat.lt_trans hs3 hs4
    have MB5 := hid (MB4.out.below hb5 hs4g)
    have HH5 := hid (HH4.out.below hb5 hs4)
    have HI5 := hid (HI4.out.later hb5)
    have HJ5 := hid hI5
    have HP5 := hid (oneP hI5)
    have HR5 := hid ((HR4.out.below hb5).more hb5.size)
    have HB5 := hid (HB4.out.trans (hb5.mono HB4.out.size))
    have hs5 : g3 < w5.heap.size := Nat.lt_of_lt_of_le hs4 hb5.size
    clear HF MB4 HH4 HI4 hI5 HR4 HB4 hs4g hs4 hb5
    go_upto_region 6 with (refine wpList_store_row rfl 28 (.tmp 7) (.tmp 33) rfl w5.heap.size (mcells m pv5 ev5) (by simp [Act.eval]) (by simp [Act.eval]) 28 (mcells {} (.slice none 0 0) (.slice none 0 0)) (heap_alloc_new w5 _) met_size rfl (mcells_one _ HP5.out.1 HP5.out.2) ?_; rw [World.setRow_alloc_new])
    have hb6 := (Below.refl w5.heap.size w5).alloc (Nat.le_refl _) (.cells (mcells m pv5 ev5) 28)
    have NB6 := hid (MB.new w5 m pv5 ev5)
    have MB6 := hid (MB5.out.below hb6 (Nat.lt_trans hs3 hs5))
    have HH6 := hid (HH5.out.below hb6 hs5)
    have HI6 := hid (HI5.out.later hb6)
    have HJ6 := hid (HJ5.out.later hb6)
    have HR6 := hid ((HR5.out.below hb6).more hb6.size)
    have HB6 := hid (HB5.out.trans (hb6.mono HB5.out.size))
    have hs6 : w5.heap.size < (World.alloc w5 (.cells (mcells m pv5 ev5) 28)).heap.size := by rw [World.size_alloc]; exact Nat.lt_succ_self _
    clear MB5 HH5 HI5 HJ5 HR5 HB5 hb6
    generalize World.alloc w5 _ = w6 at *
    generalize w5.heap.size = g5 at *
    go_wp2_with (refine wpList_load_row rfl 31 (.tmp 4) rfl g3 (by rfl) 31 (hcells (M.toH m) (.slice none 0 0)) (0, 0) _ HH6.out Tryz.underlying31 rfl hdr_size ?_)
    (with_reducible refine (HTH.out m pv ev w6 HI6.out HE.out).mono ?_)
    rintro e w7 ⟨⟨a7, c7, rfl⟩, hb7⟩
    have hs7 : g1 < w6.heap.size := Nat.lt_trans hs3 (Nat.lt_trans hs5 hs6)
    have NB7 := hid (NB6.out.below hb7 hs6)
    have MB7 := hid (MB6.out.below hb7 hs7)
    have HI7 := hid (HI6.out.later hb7)
    have HJ7 := hid (HJ6.out.later hb7)
    have HR7 := hid ((HR6.out.below hb7).more hb7.size)
    have HB7 := hid (HB6.out.trans (hb7.mono HB6.out.size))
    have hz7 := hid (And.intro (Nat.lt_of_lt_of_le hs7 hb7.size) (Nat.lt_of_lt_of_le hs6 hb7.size))
    clear NB6 MB6 HH6 HI6 HJ6 HR6 HB6 hb7 hs7 hs6 hs5 hs3
    go_wp2_with fail
    (with_reducible refine (HTR.out m pv ev A3 c3 w7 (HT.out w7 HB7.out).1 (HT.out w7 HB7.out).2 HI7.out HE.out HR7.out).mono ?_)
    rintro e w8 ⟨⟨a8, n8, c8, rfl⟩, hb8⟩
    have NB8 := hid (NB7.out.below hb8 hz7.out.2)
    have MB8 := hid (MB7.out.below hb8 hz7.out.1)
    have HI8 := hid (HI7.out.later hb8)
    have HJ8 := hid (HJ7.out.later hb8)
    have HB8 := hid (HB7.out.trans (hb8.mono HB7.out.size))
    have hz8 := hid (And.intro (Nat.lt_of_lt_of_le hz7.out.1 hb8.size) (Nat.lt_of_lt_of_le hz7.out.2 hb8.size))
    clear NB7 MB7 HI7 HJ7 HR7 HB7 hb8 hz7
    go_wp2_with fail
    (with_reducible refine (known_any B w8 (HT.out w8 HB8.out).1 (HT.out w8 HB8.out).2).mono ?_)
    rintro e w9 ⟨rfl, hb9⟩
    have NB9 := hid (NB8.out.below hb9 hz8.out.2)
    have MB9 := hid (MB8.out.below hb9 hz8.out.1)
    have HI9 := hid (HI8.out.later hb9)
    have HJ9 := hid (HJ8.out.later hb9)
    have HB9 := hid (HB8.out.trans (hb9.mono HB8.out.size))
    clear NB8 MB8 HI8 HJ8 HB8 hb9 hz8
    go_wp2_with (first
      | (refine wl_load_row (by kernel_rfl) 28 (.tmp 3) rfl g1 (by rfl) 28 (mcells m pv ev) (0, 0) _ MB9.out Tryz.underlying28 rfl met_size ?_)
      | (refine wl_load_row (by kernel_rfl) 28 (.tmp 7) rfl g5 (by rfl) 28 (mcells m pv5 ev5) (0, 0) _ NB9.out Tryz.underlying28 rfl met_size ?_))
    have hS1 := sin_of HI9.out
    have hS2 := sin_of HJ9.out
    clear MB9 NB9 HI9 HJ9 HP HP5
    obtain ⟨P1, p1, E1, q1, rfl, rfl, S1⟩ := hS1
    obtain ⟨P2, p2, E2, q2, rfl, rfl, S2⟩ := hS2
    (with_reducible refine (refSame_any m m P1 P2 E1 E2 p1 p2 q1 q2 w9 S1 S2).mono ?_)
    rintro e wa ⟨rfl, hba⟩
    rw [M.sameM_self]
    have HBa := hid (HB9.out.trans (hba.mono HB9.out.size))
    clear S1 S2 hba HB9
    go_wp2_with fail
    go_ret
    exact ⟨rfl, HBa.out⟩
  · have hl := toR_none hE
    have hEn : (((M.toE m : Nat) : Int) != 0) = true := by rw [bne_iff_ne]; omega
    rw [hl]
    clear hl hE
    generalize ((M.toE m : Nat) : Int) = E at *
    go_wp2_with fail
    (with_reducible refine (known_any B w4 (HT.out w4 HB4.out).1 (HT.out w4 HB4.out).2).mono ?_)
    rintro e w5 ⟨rfl, hb5⟩
    go_wp2_with fail
    go_ret
    exact ⟨rfl, HB4.out.trans (hb5.mono HB4.out.size)⟩
end Go.Proofs.YtgfihdfncddpaaaGreatDoor

/-! The document's Print. -/
namespace Go.Proofs.YtgfihdfncddpaaaGreatDoor.Px
open Go.RowKit Go.Shelf

theorem lineLen_le {r : R2} (h : r.1.size + r.2.size ≤ 10000000) : M.lineLen (rc r) ≤ 10000100 := by
  unfold M.lineLen
  have := M.wid_pos (M.body (rc r)).length
  have e : (M.body (rc r)).length = r.1.size + r.2.size + 3 := by rw [M.body_length]; rfl
  omega
theorem line_len {r : R2} (h : r.1.size + r.2.size ≤ 10000000) : (M.line (rc r)).length = M.lineLen (rc r) :=
  M.line_length (by rw [M.body_length]; show r.1.size + r.2.size + 3 + 8 < _; omega)

set_option maxRecDepth 100000 in
set_option maxHeartbeats 4000000 in
theorem refPrint_any (A : Option Addr) (c : Nat) (l : List R2) (hl : l.length ≤ 1000000) (hsh : Short l) (B : Nat) (w : World) (hB : B ≤ w.heap.size) (ht : TB B w) (h : RdR w w.heap.size A l) :
    Calls Tryz.prog 10 #[.slice A l.length c] w (PrintIs .i64 l w) := by
  have ht' : TB w.heap.size w := fun w' hb => ht w' (hb.mono hB)
  have HT := Lib.hid ht'
  have HSH := Lib.hid hsh
  have HR := Lib.hid h
  clear ht ht' hsh h
  go_enter Tryz.func10, Tryz.ntmps10
  go_wp2
  go_loopw [4, 5] (fun n i wr => ∃ k N : Nat, n = .int .i64 N ∧ i = .int .i64 k ∧ k ≤ l.length ∧ N = (M.lines (rcs (l.take k))).length ∧ N ≤ k * 10000100 ∧ allRight (l.take k) = true ∧ Below w.heap.size w wr) (fun _ i _ => l.length - (intOf i).toNat)
  case atStart => exact ⟨0, 0, rfl, rfl, Nat.zero_le _, by simp [rcs, M.lines], Nat.zero_le _, rfl, Below.refl _ _⟩
  case round =>
    obtain ⟨k, N, rfl, rfl, hk, hN, hNk, hall, hb⟩ := hrel
    have hbs := hb.size
    by_cases hlt : k < l.length
    · obtain ⟨b, off, rfl, hbb, hc1, hc2⟩ := HR.out.at_ hlt
      have hrs := HSH.out _ (List.getElem_mem hlt)
      have hnx := lines_take_succ hlt
      have hs := allRight_succ hlt hall
      have hn := allRight_no hlt
      obtain ⟨r, hr⟩ : ∃ r, l[k] = r := ⟨_, rfl⟩
      rw [hr] at hc1 hc2 hrs hnx hs hn
      have hlx : (M.lines (rcs (l.take (k + 1)))).length = N + M.lineLen (rc r) := by rw [hnx, List.length_append, line_len hrs, hN]
      have hle := lineLen_le hrs
      obtain ⟨LL, hLL⟩ : ∃ LL, M.lineLen (rc r) = LL := ⟨_, rfl⟩
      rw [hLL] at hlx hle
      have C1 := fun W => refRight_any' r.1 r.2 hrs W
      have C2 := fun W h1 h2 => refLine_any r hrs w.heap.size W h1 h2
      have hc1' := fun W (hW : Below w.heap.size w W) => (hW.cell (p := ⟨b, off + k * 2, none⟩) hbb).trans hc1
      have hc2' := fun W (hW : Below w.heap.size w W) => (hW.cell (p := ⟨b, off + k * 2 + 1, none⟩) hbb).trans hc2
      have HC1 := Lib.hid hc1'
      have HC2 := Lib.hid hc2'
      have HLX := Lib.hid hlx
      have HLL := Lib.hid hLL
      clear hr hN hnx hall hc1 hc2 hc1' hc2' hlx hLL
      cases hq : M.right (rc r) with
      | false =>
        have HE := Lib.hid (M.printE_34 (l := rcs l) (hn hq))
        have C1' : ∀ W, Calls Tryz.prog 39 #[.agg #[.string r.1, .string r.2]] W fun e w' => e = .returned (.bool false) ∧ Below W.heap.size W w' := by rw [← hq]; exact C1
        have HR1 := Lib.hid C1'
        have hd1 := HC1.out _ hb
        have hd2 := HC2.out _ hb
        clear hs hn hq C1 C1' C2
        by_cases h0 : k = 0
        case' pos =>
          subst h0
          simp only [Nat.zero_mul, Nat.add_zero] at hd1 hd2
          have g1 : (0 : Int) < (l.length : Int) := by omega
        case' neg =>
          have g1 : 0 < k := by omega
          clear h0
        all_goals
          go_wp2_with (go_at_call 39; refine (HR1.out _).mono ?_; rintro e w2 ⟨rfl, hb3⟩)
          go_ret2
          exact PrintIs.no HE.out (by decide) (hb.trans (hb3.mono hbs))
      | true =>
        have HS := Lib.hid (hs hq)
        have C1' : ∀ W, Calls Tryz.prog 39 #[.agg #[.string r.1, .string r.2]] W fun e w' => e = .returned (.bool true) ∧ Below W.heap.size W w' := by rw [← hq]; exact C1
        have HR1 := Lib.hid C1'
        have HR2 := Lib.hid C2
        have hd1 := HC1.out _ hb
        have hd2 := HC2.out _ hb
        clear hs hn hq C1 C1' C2
        by_cases h0 : k = 0
        case' pos =>
          subst h0
          simp only [Nat.zero_mul, Nat.add_zero] at hd1 hd2 HC1 HC2
          have g1 : (0 : Int) < (l.length : Int) := by omega
        case' neg =>
          have g1 : 0 < k := by omega
          clear h0
        all_goals
          go_wp2_with (go_at_call 39; refine (HR1.out _).mono ?_; rintro e w2 ⟨rfl, hb3⟩; refine Hid.out ?_)
          refine Lib.hid ?_
          have hb4 := hb.trans (hb3.mono hbs)
          have hx1 := HC1.out _ hb4
          have hx2 := HC2.out _ hb4
          clear hd1 hd2
          go_wp2_with (go_at_call 40; refine (HR2.out _ hb4.size (HT.out.on hb4)).mono ?_; rintro e w3 ⟨x, rfl, hx, hxs, hb5⟩; (have hxl1 : x.size ≤ LL := by rw [hxs, HLL.out]; exact Nat.le_refl _); (have HXS := Lib.hid hxs); clear hx hxs)
          go_roundw
          case rel =>
            refine ⟨_, N + x.size, by go_num, (show Value.int .i64 _ = Value.int .i64 ((_ + 1 : Nat) : Int) by go_num), by omega, ?_, by omega, HS.out, hb4.trans (hb5.mono hb4.size)⟩
            rw [HLX.out, HXS.out, HLL.out]
          case measure => simp [intOf]; omega
    · obtain rfl : k = l.length := by omega
      rw [List.take_length] at hN hall
      have HA := Lib.hid hall
      have HN := Lib.hid hN
      clear hall hN hlt
      by_cases hm : 1000 < l.length
      · have HE := Lib.hid (M.printE_3 (l := rcs l) HA.out (.inl (by rw [rcs_len]; exact hm)))
        go_wp2
        go_ret2
        exact PrintIs.no HE.out (by decide) hb
      · by_cases hbig : 1048576 < N
        · have HE := Lib.hid (M.printE_3 (l := rcs l) HA.out (.inr (by rw [← HN.out]; exact hbig)))
          have hm' : l.length ≤ 1000 := by omega
          clear hm
          go_wp2
          go_ret2
          exact PrintIs.no HE.out (by decide) hb
        · have HE := Lib.hid (M.printE_0 (l := rcs l) HA.out (by rw [rcs_len, ← HN.out]; omega))
          have hm' : l.length ≤ 1000 := by omega
          have hbig' : N ≤ 1048576 := by omega
          clear hm hbig
          go_wp2
          go_loopw [6, 7, 8] (fun v i _ wr => ∃ k : Nat, i = .int .i64 k ∧ k ≤ l.length ∧ OwnB wr w.heap.size v (M.lines (rcs (l.take k))) ∧ Below w.heap.size w wr) (fun _ i _ _ => l.length - (intOf i).toNat)
          case atStart => exact ⟨0, rfl, Nat.zero_le _, OwnB.nil _ _, hb⟩
          case round =>
            obtain ⟨k, rfl, hk, hown, hb⟩ := hrel
            have hbs := hb.size
            by_cases hlt : k < l.length
            · obtain ⟨b, off, rfl, hbb, hc1, hc2⟩ := (HR.out.below hb).at_ hlt
              have hrs := HSH.out _ (List.getElem_mem hlt)
              have hnx := lines_take_succ hlt
              have hle := lines_take_le (l := l) (k := k)
              rw [← HN.out] at hle
              obtain ⟨r, hr⟩ : ∃ r, l[k] = r := ⟨_, rfl⟩
              rw [hr] at hc1 hc2 hrs hnx
              obtain ⟨P, hP⟩ : ∃ P, M.lines (rcs (l.take k)) = P := ⟨_, rfl⟩
              rw [hP] at hown hnx hle
              have hLb := lineLen_le hrs
              have HC := Lib.hid (refLine_any r hrs w.heap.size wr hbs (HT.out.on hb))
              have HX := Lib.hid hnx
              have HO := Lib.hid hown
              clear hr hP hnx hown
              by_cases h0 : k = 0
              case' pos =>
                subst h0
                simp only [Nat.zero_mul, Nat.add_zero] at hc1 hc2
                have g1 : (0 : Int) < (l.length : Int) := by omega
              case' neg =>
                have g1 : 0 < k := by omega
                clear h0
              all_goals
                go_wp2_with (go_at_call 40; refine HC.out.mono ?_; rintro e w3 ⟨x, rfl, hx, hxs, hb5⟩; refine Hid.out ?_)
                refine Lib.hid ?_
                have hxs1 : x.size ≤ 10000100 := by rw [hxs]; exact hLb
                have hb6 := hb.trans (hb5.mono hbs)
                have o3 := HO.out.below hb5
                have HXX := Lib.hid hx
                clear hx hxs hc1 hc2
                go_wp2_with (at_builtin; refine wpList_appS rfl (.tmp 47) (.tmp 48) rfl w.heap.size _ P x rfl o3 hb6.size rfl (by omega) (by omega) ?_)
                intro v4 w4 P4 HP4 hn4 o4 hb7 hx4
                clear o3 hx4
                have hb8 := hb6.trans hb7
                clear hb7
                go_wp2
                go_roundw
                case rel => exact ⟨_, (show Value.int .i64 _ = Value.int .i64 ((_ + 1 : Nat) : Int) by go_num), by omega, by rw [HX.out, ← HXX.out, ← HP4.out]; exact o4, hb8⟩
                case measure => simp [intOf]; omega
            · obtain rfl : k = l.length := by omega
              rw [List.take_length] at hown
              have HO := Lib.hid hown
              clear hown hlt
              go_wp2
              go_ret2
              refine ⟨_, by rw [HE.out]; rfl, ?_, hb⟩
              rw [M.printB_0 HE.out]; exact HO.out
end Go.Proofs.YtgfihdfncddpaaaGreatDoor.Px

/-! The document's Print of the records that To tells: no error. -/
namespace Go.Proofs.YtgfihdfncddpaaaGreatDoor
open Go.RowKit Go.Lib
open Px (R2 tl)

theorem tellsR (B : Nat) : TellsR B := fun m pv ev A c W hB ht hI hE hr => by
  have hf := fin_to (w := W) hI.fits hr
  have hp : Px.M.printE (M.toR m) = 0 := by
    have h := hE
    unfold M.toE at h
    split at h
    · rename_i h1; exact absurd h h1
    · unfold M.toR; rw [if_pos hE]; exact h
  have hl : ((M.toR m).map M.mk).length = (M.toR m).length := List.length_map _
  have h := Px.refPrint_any A c ((M.toR m).map M.mk) (Nat.le_trans hf.nrecs (by decide)) (fun r hr => by have := hf.fits r hr; omega) B W hB ht.tens hr
  rw [hl] at h
  refine h.mono ?_
  rintro e w' ⟨v, rfl, ho, hb⟩
  obtain ⟨a, c2, rfl, _⟩ := ho.rd
  rw [rcs_mk, hp]
  exact ⟨⟨_, _, _, rfl⟩, hb⟩
end Go.Proofs.YtgfihdfncddpaaaGreatDoor

/-! A header that To tells may be printed. -/
namespace Go.Proofs.YtgfihdfncddpaaaGreatDoor
open Go.RowKit Go.Lib
open Px (R2 tl)

/-- The same header, in the words of its own chapter. -/
def hd (h : M.Hdr) : Hd.M.Hdr :=
  { name := h.name, mode := h.mode, uid := h.uid, gid := h.gid, size := h.size, mtime := h.mtime, kind := h.kind, link := h.link, way := h.way, user := h.user, group := h.group, major := h.major, minor := h.minor,
    pre := h.pre, parts := h.parts, more := h.more, real := h.real }
theorem nul_extract (s : ByteArray) (a b : Nat) (h : M.noNul (tl s) = true) : ¬ (0 : UInt8) ∈ (s.extract a b).data.toList := by
  intro hm
  have h0 : (0 : UInt8) ∈ s.data.toList := by
    rw [ByteArray.data_extract, Array.toList_extract] at hm
    exact List.mem_of_mem_drop (List.mem_of_mem_take hm)
  have := List.all_eq_true.1 h 0 h0
  simp at this
theorem nul_all (s : ByteArray) (h : M.noNul (tl s) = true) : ¬ (0 : UInt8) ∈ s.data.toList := by
  intro hm
  have := List.all_eq_true.1 h 0 hm
  simp at this
theorem tOk_of {s : ByteArray} {k : Nat} (h : s.size ≤ k) (h0 : ¬ (0 : UInt8) ∈ s.data.toList) : Hd.M.tOk k s = true := by
  unfold Hd.M.tOk Hd.S.M.put
  rw [if_pos ⟨by have : s.data.toList.length = s.size := Array.length_toList; omega, h0⟩]
  rfl
theorem d_zero (a k : Nat) (hk : k = 8 ∨ k = 12) : Hd.M.dOk (0, a, k) = true := by
  have h1 : Hd.M.octFits 0 (k : Int) = true := by
    unfold Hd.M.octFits
    simp only [Bool.and_eq_true, decide_eq_true_eq, Int.zero_ediv]
    refine ⟨⟨⟨⟨by omega, by omega⟩, by decide⟩, by unfold Hd.M.most; decide⟩, trivial⟩
  unfold Hd.M.dOk
  simp only [Hd.M.putFits, h1, Bool.true_or, Bool.true_and]
  rfl
theorem d_if (x : Int) (a k : Nat) (hk : k = 8 ∨ k = 12) : Hd.M.dOk ((if M.fits x k = true then x else 0), a, k) = true := by
  cases h : M.fits x k with
  | true =>
    unfold Hd.M.dOk
    have h1 : Hd.M.octFits x k = true := h
    have h0 : 0 ≤ x := by
      unfold Hd.M.octFits at h1
      simp only [Bool.and_eq_true, decide_eq_true_eq] at h1
      exact h1.1.1.2
    simp only [if_pos, Hd.M.putFits, h1, Bool.true_or, Bool.true_and, decide_eq_true h0]
  | false =>
    exact d_zero a k hk
theorem d_small (x : Int) (a : Nat) (h : 0 ≤ x ∧ x ≤ 2097151) : Hd.M.dOk (x, a, 8) = true := by
  have h1 : Hd.M.octFits x ((8 : Nat) : Int) = true := by
    unfold Hd.M.octFits
    simp only [Bool.and_eq_true, decide_eq_true_eq]
    refine ⟨⟨⟨⟨by decide, by decide⟩, h.1⟩, by unfold Hd.M.most; omega⟩, ?_⟩
    rw [show (8 : Int) ^ ((((8 : Nat) : Int)).toNat - 1) = 2097152 from rfl]
    omega
  unfold Hd.M.dOk
  simp only [Hd.M.putFits, h1, Bool.true_or, Bool.true_and, decide_eq_true h.1]
theorem asked_head {m : M.Met} (he : M.toE m = 0) : Hd.M.Asked (hd (M.head m)) := by
  have R := M.right_of (M.toE_wrong he)
  have hroom := M.split_room m.name
  have hk := R.kind
  have dv : ∀ n : Int, (0 ≤ n ∧ n ≤ if M.isDev m.kind = true then 2097151 else 0) → 0 ≤ n ∧ n ≤ 2097151 := by
    intro n hn
    split at hn <;> omega
  have hns : ∀ a b : Nat, ¬ (0 : UInt8) ∈ (m.name.extract a b).data.toList := fun a b => nul_extract _ _ _ R.nuls.1
  have hsp : (¬ (0 : UInt8) ∈ (M.split m.name).1.data.toList) ∧ ¬ (0 : UInt8) ∈ (M.split m.name).2.1.data.toList := by
    unfold M.split
    split
    · exact ⟨by simp, nul_all _ R.nuls.1⟩
    · split
      · exact ⟨hns _ _, hns _ _⟩
      · exact ⟨by simp, hns _ _⟩
  have hsz : (if M.fits m.size 12 = true then m.size else 0) ≤ 1099511627776 := by
    have := R.size
    split
    · split at this <;> omega
    · omega
  have hex : ∀ (s : ByteArray) (k : Nat), (s.extract 0 k).size ≤ k := fun s k => by rw [ByteArray.size_extract]; omega
  have hkind : ¬ m.kind = 83 := by omega
  refine ⟨⟨?_, ?_⟩, ?_, ?_, ?_⟩
  · show Hd.M.known m.kind = true
    unfold Hd.M.known
    rw [decide_eq_true (show 48 ≤ m.kind by omega), decide_eq_true (show m.kind ≤ 55 by omega)]
    rfl
  · show (m.kind != 83 || _) = true
    rw [bne_iff_ne.2 hkind]
    rfl
  · intro x hx
    unfold Hd.M.tq at hx
    simp only [List.mem_cons, List.not_mem_nil, or_false] at hx
    rcases hx with rfl | rfl | rfl | rfl | rfl
    · exact tOk_of hroom.2 hsp.2
    · exact tOk_of (hex _ _) (nul_extract _ _ _ R.nuls.2.1)
    · exact tOk_of (hex _ _) (nul_extract _ _ _ R.nuls.2.2.1)
    · exact tOk_of (hex _ _) (nul_extract _ _ _ R.nuls.2.2.2)
    · exact tOk_of hroom.1 hsp.1
  · have e1 : Hd.M.f1 (hd (M.head m)) = true := decide_eq_true ⟨show (0 : Int) ≤ 1 by decide, show (1 : Int) ≤ 2 by decide, hsz, show (0 : Int) ≤ 1099511627776 by decide, show (0 : Nat) ≤ 4 by decide⟩
    have e2 : Hd.M.f2 (hd (M.head m)) = true := decide_eq_true ⟨fun h => absurd (show (1 : Int) = 0 from h) (by decide), fun h => absurd rfl h⟩
    have e4 : Hd.M.f4 (hd (M.head m)) = true := decide_eq_true (.inr ⟨rfl, rfl, rfl⟩)
    unfold Hd.M.fits
    rw [e1, e2, e4]
    rfl
  · have en : Hd.M.nq (hd (M.head m)) = [(m.mode, 100, 8), ((if M.fits m.uid 8 = true then m.uid else 0), 108, 8), ((if M.fits m.gid 8 = true then m.gid else 0), 116, 8), ((if M.fits m.size 12 = true then m.size else 0), 124, 12), ((if M.timeFits m = true then m.sec else 0), 136, 12), (m.major, 329, 8), (m.minor, 337, 8)] := by
      unfold Hd.M.nq
      rw [if_neg (by show ¬ (m.kind == 83) = true; rw [beq_iff_eq]; exact hkind)]
      rfl
    rw [en]
    intro x hx
    simp only [List.mem_cons, List.not_mem_nil, or_false] at hx
    rcases hx with rfl | rfl | rfl | rfl | rfl | rfl | rfl
    · exact d_small _ _ R.mode
    · exact d_if _ _ 8 (.inl rfl)
    · exact d_if _ _ 8 (.inl rfl)
    · exact d_if _ _ 12 (.inr rfl)
    · unfold M.timeFits
      cases hn : (m.nan == 0) with
      | true => rw [Bool.and_true]; exact d_if _ _ 12 (.inr rfl)
      | false => rw [Bool.and_false]; exact d_zero _ 12 (.inr rfl)
    · exact d_small _ _ (dv _ R.major)
    · exact d_small _ _ (dv _ R.minor)
end Go.Proofs.YtgfihdfncddpaaaGreatDoor

/-! The document's Print of a header that To tells: no error, one block. -/
namespace Go.Proofs.YtgfihdfncddpaaaGreatDoor
open Go.RowKit Go.Lib
open Px (R2 tl)

theorem tellsH : TellsH := fun m pv ev W hI hE => by
  have hH : M.toH m = M.head m := by unfold M.toH; rw [if_pos hE]
  have R := M.right_of (M.toE_wrong hE)
  have hroom := M.split_room m.name
  have dv : ∀ n : Int, (0 ≤ n ∧ n ≤ if M.isDev m.kind = true then 2097151 else 0) → -9223372036854775808 ≤ n ∧ n ≤ 9223372036854775807 := by
    intro n hn
    split at hn <;> omega
  have fi : ∀ (c : Bool) (n : Int), (-9223372036854775808 ≤ n ∧ n ≤ 9223372036854775807) → -9223372036854775808 ≤ (if c = true then n else 0) ∧ (if c = true then n else 0) ≤ 9223372036854775807 := by
    intro c n hn
    split <;> omega
  have hex : ∀ (s : ByteArray) (k : Nat), (s.extract 0 k).size ≤ k := fun s k => by rw [ByteArray.size_extract]; omega
  have hin : Hd.HIn W (hd (M.head m)) (.slice none 0 0) := {
    parts := ⟨none, 0, rfl, Nat.le_refl _, fun h => absurd h (Nat.lt_irrefl 0)⟩
    nums := fun p hp => nomatch hp
    kind := ⟨by have := R.kind; show (0 : Int) ≤ m.kind; omega, by have := R.kind; show m.kind ≤ 255; omega⟩
    ints := ⟨hI.ints.1, fi _ _ hI.ints.2.1, fi _ _ hI.ints.2.2.1, fi _ _ hI.ints.2.2.2.2.2.2.2.1, fi _ _ hI.ints.2.2.2.1, dv _ R.major, dv _ R.minor, by show _ ≤ (0 : Int) ∧ (0 : Int) ≤ _; decide⟩
    texts := ⟨Nat.le_trans hroom.2 (by decide), Nat.le_trans (hex _ 100) (by decide), Nat.le_trans (hex _ 32) (by decide), Nat.le_trans (hex _ 32) (by decide), Nat.le_trans hroom.1 (by decide)⟩ }
  have h := Hd.refPrintX_any (hd (M.head m)) none 0 W hin (by show (0 : Nat) ≤ 1000; decide) ⟨show (0 : Int) ≤ 1 by decide, show (1 : Int) ≤ 2 by decide⟩
  have he : Hd.M.herr (hd (M.head m)) = 0 := (Hd.M.asked_iff _).2 (asked_head hE)
  have hp : Hd.M.hprint (hd (M.head m)) = (0, (Hd.M.hprint (hd (M.head m))).2) := by rw [← he, ← Hd.M.hprint_err]
  have hd' := Hd.M.dprint_of hp
  rw [hH]
  refine h.mono ?_
  rintro e w' ⟨h1, hb⟩
  rw [hd'] at h1
  obtain ⟨g, rfl, _, _⟩ := h1
  exact ⟨⟨_, _, rfl⟩, hb⟩
theorem metaBackAny (A : Option Addr) (n c : Nat) (zs : List Int) (B : Nat) (w : World) (hr : Sp.Rd w w.heap.size A n zs) (hc : n ≤ c) (hcm : c ≤ maxLen) (hB : B ≤ w.heap.size) (ht : Sp.EV B w) :
    Calls Tryz.prog 3 #[.slice A n c] w fun e w' => e = .returned (.bool true) ∧ Below w.heap.size w w' :=
  metaBack_any A n c zs B w tellsH (tellsR B) hr hc hcm hB ht
end Go.Proofs.YtgfihdfncddpaaaGreatDoor
