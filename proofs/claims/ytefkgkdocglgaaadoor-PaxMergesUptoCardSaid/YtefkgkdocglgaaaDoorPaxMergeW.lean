/-
  The walk of pax.Merge.
-/
import Derived.Test.YtefkgkdocglgaaaDoorPaxMergeM
import Derived.Test.YtefkgkdocglgaaaDoorPaxIter
import Derived.Test.YtefkgkdocglgaaaDoorPaxApp
import Derived.Test.YtefkgkdocglgaaaDoorPaxSame
import Derived.RegionTactic
import Derived.IntWalk
import Derived.Carry
namespace Go.Proofs.YtefkgkdocglgaaaDoor
open Go.RowKit Go.Shelf Go.Maps

def Fits (l : List R2) : Prop := ∀ r ∈ l, r.1.size ≤ maxLen ∧ r.2.size ≤ maxLen
theorem zero_string (w : World) : (zeroValue 9).run Tryd.prog w = .ok (.string ⟨#[]⟩) w := by
  obtain ⟨i0, hi, hz0, hz1, hz2⟩ := info_parts infoS
  simp [zeroValue, typeInfo, hi, hz0]

/-- Block b is a map that holds some records' values. -/
def MapOf (w : World) (b n : Nat) (D : DataW Unit) : Prop := w.ownsMap Tryd.prog 9 (plainElem Tryd.prog 9) b n D

theorem look_string {w : World} {b n : Nat} {D : DataW Unit} {p : List R2} (h : MapOf w b n D) (hD : DF D p) (x : List UInt8) (hx : x.length ≤ maxLen) :
    ∃ s : ByteArray, (Instr.lookup 57 (.map (some b)) (.string ⟨x.toArray⟩) false).run Tryd.prog w = .ok (.string s) w ∧ tl s = ((M.find (rcs p) x).getD []) ∧ s.size ≤ maxLen := by
  obtain ⟨v, ps, hrun, hv⟩ := World.ownsMap.lookup h (string_keyed Tryd.underlying9) Tryd.underlying57 (zero_string w) (plainElem_string Tryd.underlying9 (s := ⟨#[]⟩) (Nat.zero_le _)) (WideMaps.keyOf_string_mk Tryd.underlying9 (s := ⟨x.toArray⟩) hx)
  obtain ⟨s, rfl, hs, hl⟩ := plainString_inv Tryd.underlying9 hv
  refine ⟨s, hrun, ?_, hl⟩
  have h2 := hD.2.1 x
  dsimp only at hs
  have e : (DataW.atKey D (.string x) (.lit (.string []))) = .lit (.string (tl s)) := hs
  rw [h2] at e
  exact (Lit.string.inj (DataW.lit.inj e)).symm

set_option maxRecDepth 100000 in
set_option maxHeartbeats 8000000 in
theorem merge_any (A1 : Option Addr) (c1 : Nat) (l : List R2) (A2 : Option Addr) (c2 : Nat) (m : List R2) (hl : l.length ≤ 1000000) (hm : m.length ≤ 1000000) (fl : Fits l) (fm : Fits m) (w : World) (h1 : RdR w w.heap.size A1 l) (h2 : RdR w w.heap.size A2 m) :
    Calls Tryd.prog 16 #[.slice A1 l.length c1, .slice A2 m.length c2] w (fun e w' => ∃ A c rs, e = .returned (.slice A rs.length c) ∧ RdR w' w'.heap.size A rs ∧ rs.length ≤ c ∧ c ≤ maxLen ∧ rcs rs = M.merge ltB (rcs l) (rcs m) ∧ rs.length ≤ l.length + m.length ∧ Below w.heap.size w w') := by
  have HR1 := Lib.hid h1
  have HR2 := Lib.hid h2
  have HF1 := Lib.hid fl
  have HF2 := Lib.hid fm
  have hmm := @run_makeMap Tryd.prog
  clear h1 h2 fl fm
  go_enter Tryd.func16, Tryd.ntmps16
  go_wp2
  clear hmm
  go_loopw [17, 7] (fun i _ wr => ∃ (k : Nat) (D : DataW Unit), i = .int .i64 k ∧ k ≤ l.length ∧ MapOf wr w.heap.size k D ∧ Hid (DF D (l.take k)) ∧ Below w.heap.size w wr) (fun i _ _ => l.length - (intOf i).toNat)
  case atStart => exact ⟨0, .map [], rfl, Nat.zero_le _, World.ownsMap_made _ _ _ _, Lib.hid DF.nil, (Below.refl _ w).alloc (Nat.le_refl _) _⟩
  case round =>
    obtain ⟨k, D, rfl, hk, hown, hdf, hb⟩ := hrel
    have hbs := hb.size
    by_cases hlt : k < l.length
    · obtain ⟨b, off, rfl, hbb, hc1, hc2⟩ := (HR1.out.below hb).at_ hlt
      have hrs := HF1.out _ (List.getElem_mem hlt)
      have HD2 := Lib.hid (show DF _ (l.take (k + 1)) by rw [List.take_succ_eq_append_getElem hlt]; exact hdf.out.put _)
      obtain ⟨r, hr⟩ : ∃ r, l[k] = r := ⟨_, rfl⟩
      rw [hr] at hc1 hc2 hrs HD2
      obtain ⟨s, t⟩ := r
      dsimp only at hc1 hc2 hrs HD2
      have hb2 := hb.alloc (by omega) (.cells #[.string s, .string t] 45)
      have hbx := BoxR.new wr s t
      have HO := Lib.hid hown
      have HS := Lib.hid hrs
      clear hr hown hrs
      by_cases hk0 : k = 0
      case' pos =>
        subst hk0
        simp only [Nat.zero_mul, Nat.add_zero] at hc1 hc2
      case' neg =>
        have hk1 : 0 < k := by omega
        clear hk0
      all_goals
        go_wp2_with (at_mapUpdate; refine wpList_mapUpdate_own _ rfl _ _ _ 57 rfl 9 9 (string_keyed Tryd.underlying9) Tryd.underlying57 (plainElem Tryd.prog 9) w.heap.size _ D rfl (HO.out.alloc _) (by unfold maxLen; omega) (.string s) (.string t) (.string (tl s)) rfl rfl (WideMaps.keyOf_string_mk Tryd.underlying9 HS.out.1) (.lit (.string (tl t))) [] (plainElem_string Tryd.underlying9 HS.out.2) ?_; intro w1 hown1 hgrow1)
        have hb3 := hb2.grown hgrow1 hb2.size (fun g hg => by injection hg with hg; omega)
        go_wp2
        go_roundw
        case rel => exact ⟨_, _, (show Value.int .i64 _ = Value.int .i64 ((_ + 1 : Nat) : Int) by go_num), by omega, hown1, HD2, hb3⟩
        case measure => simp [intOf]; omega
    · have hke : k = l.length := by omega
      subst hke
      have HD1 := Lib.hid (show DF D l by have := hdf.out; rwa [List.take_length] at this)
      have HO1 := Lib.hid hown
      have hb1 := hb
      have W1 := hbs
      clear hdf hown hb hbs hlt hk
      go_wp2
      go_loopw [29, 9] (fun i _ wr => ∃ (k : Nat) (D : DataW Unit), i = .int .i64 k ∧ k ≤ m.length ∧ MapOf wr w.heap.size (l.length + k) D ∧ Hid (DF D (l ++ m.take k)) ∧ Below w.heap.size w wr) (fun i _ _ => m.length - (intOf i).toNat)
      case atStart => exact ⟨0, D, rfl, Nat.zero_le _, HO1.out, Lib.hid (by rw [List.take_zero, List.append_nil]; exact HD1.out), hb1⟩
      case round =>
        obtain ⟨k, D, rfl, hk, hown, hdf, hb⟩ := hrel
        have hbs := hb.size
        by_cases hlt : k < m.length
        · obtain ⟨b, off, rfl, hbb, hc1, hc2⟩ := (HR2.out.below hb).at_ hlt
          have hrs := HF2.out _ (List.getElem_mem hlt)
          have HD2 := Lib.hid (show DF _ (l ++ m.take (k + 1)) by rw [List.take_succ_eq_append_getElem hlt, ← List.append_assoc]; exact hdf.out.put _)
          obtain ⟨r, hr⟩ : ∃ r, m[k] = r := ⟨_, rfl⟩
          rw [hr] at hc1 hc2 hrs HD2
          obtain ⟨s, t⟩ := r
          dsimp only at hc1 hc2 hrs HD2
          have hb2 := hb.alloc (by omega) (.cells #[.string s, .string t] 45)
          have hbx := BoxR.new wr s t
          have HO := Lib.hid hown
          have HS := Lib.hid hrs
          clear hr hown hrs
          by_cases hk0 : k = 0
          case' pos =>
            subst hk0
            simp only [Nat.zero_mul, Nat.add_zero] at hc1 hc2
          case' neg =>
            have hk1 : 0 < k := by omega
            clear hk0
          all_goals
            go_wp2_with (at_mapUpdate; refine wpList_mapUpdate_own _ rfl _ _ _ 57 rfl 9 9 (string_keyed Tryd.underlying9) Tryd.underlying57 (plainElem Tryd.prog 9) w.heap.size _ D rfl (HO.out.alloc _) (by unfold maxLen; omega) (.string s) (.string t) (.string (tl s)) rfl rfl (WideMaps.keyOf_string_mk Tryd.underlying9 HS.out.1) (.lit (.string (tl t))) [] (plainElem_string Tryd.underlying9 HS.out.2) ?_; intro w1 hown1 hgrow1)
            have hb3 := hb2.grown hgrow1 hb2.size (fun g hg => by injection hg with hg; omega)
            go_wp2
            go_roundw
            case rel => exact ⟨_, _, (show Value.int .i64 _ = Value.int .i64 ((_ + 1 : Nat) : Int) by go_num), by omega, hown1, HD2, hb3⟩
            case measure => simp [intOf]; omega
        · have hke : k = m.length := by omega
          subst hke
          have HD3 := Lib.hid (show DF D (l ++ m) by have := hdf.out; rwa [List.take_length] at this)
          have HO3 := Lib.hid hown
          clear hdf hown hlt hk HD1 HO1 hb1 W1
          have hkeys := fun W => (callsIn_wide (n := 5)).1 (Tryd.maps_keys (some w.heap.size) W)
          have hsorted := (callsIn_wide (n := 5)).1 (Tryd.sorted_keys w.heap.size _ D _ _ HO3.out (Nat.le_trans (size_le HO3.out) (by unfold maxLen; omega)) (by have := size_le HO3.out; omega))
          have HSO := Lib.hid hsorted
          clear hsorted
          go_wp2_with (first
            | (go_at_call 30; refine (hkeys _).mono ?_; rintro e w4 ⟨rfl, rfl⟩)
            | (go_at_call 29; refine HSO.out.mono ?_; rintro e w5 ⟨v, ss, rfl, hperm, hrow, _, hb5⟩; obtain ⟨A5, c5, rfl, hrs5, hkl5, hlc5, hcm5⟩ := row_rd hrow))
          have hmap5 : MapOf w5 w.heap.size (l.length + m.length) D := ownsMap_below (World.ownsMap.alloc HO3.out _) hb5 (by have := World.ownsMap.lt HO3.out; rw [World.size_alloc]; omega)
          have hmb : w.heap.size < w5.heap.size := World.ownsMap.lt hmap5
          have hnd := (hperm.nodup_iff).2 (nodup_strKeys HO3.out Tryd.underlying9)
          have hpw := sorted_lt hnd
          have hmem : ∀ k, k ∈ ss.mergeSort leB ↔ (M.find (rcs (l ++ m)) k).isSome = true := fun k => by
            rw [(List.mergeSort_perm ss leB).mem_iff, hperm.mem_iff, mem_strKeys HO3.out Tryd.underlying9, HD3.out.2.2 k]
          have hmerge := merge_keys hpw hmem
          have hlen5 : ∀ x ∈ ss.mergeSort leB, x.length ≤ maxLen := fun x hx => strKeys_le HO3.out Tryd.underlying9 x (hperm.mem_iff.1 ((List.mergeSort_perm ss leB).mem_iff.1 hx))
          have hcount : ss.length ≤ l.length + m.length := by
            rw [hperm.length_eq]
            refine Nat.le_trans ?_ (size_le HO3.out)
            obtain ⟨es, rfl⟩ := HD3.out.1
            show (es.map _).length ≤ es.length
            rw [List.length_map]; exact Nat.le_refl _
          have hb6 : Below w.heap.size w w5 := (hb.alloc hbs _).trans (hb5.mono (by rw [World.size_alloc]; omega))
          have hLm : M.merge ltB (rcs (l ++ m)) [] = M.merge ltB (rcs l) (rcs m) := by rw [rcs_app, M.merge_app]
          rw [hLm] at hmerge
          obtain ⟨ks, hks⟩ : ∃ ks, ss.mergeSort leB = ks := ⟨_, rfl⟩
          have hrsK : RdS w5 w5.heap.size A5 ks := by rw [← hks]; exact hrs5
          have hkl : ss.length = ks.length := by rw [← hks]; exact hkl5.symm
          rw [hks] at hlen5 hmerge
          rw [hkl] at hlc5 hcount ⊢
          have HK := Lib.hid hrsK
          have HM5 := Lib.hid hmap5
          have HL5 := Lib.hid hlen5
          have HME := Lib.hid hmerge
          clear hrsK hmap5 hlen5 hmerge hrs5 hrow hkl5 hperm hnd hpw hmem hks hkl hLm HSO hkeys HO3
          go_wp2
          go_loopw [43, 10, 12, 13] (fun i v _ _ wy => ∃ (k : Nat) (rs : List R2), i = .int .i64 k ∧ k ≤ ks.length ∧ OwnR wy w5.heap.size v rs ∧ Hid (rcs rs = ((ks.take k).map (pick (rcs (l ++ m)))).filter M.hasValue) ∧ rs.length ≤ k ∧ Below w5.heap.size w5 wy) (fun i _ _ _ _ => ks.length - (intOf i).toNat)
          case atStart => exact ⟨0, [], rfl, Nat.zero_le _, OwnR.nil _ _, Lib.hid rfl, Nat.zero_le _, Below.refl _ _⟩
          case round =>
            obtain ⟨k, rs, rfl, hk, hown, hrs, hrk, hby⟩ := hrel
            have hbys := hby.size
            by_cases hlt : k < ks.length
            · obtain ⟨b, off, rfl, hbb, hc1⟩ := (HK.out.below hby).at_ hlt
              have hx := HL5.out _ (List.getElem_mem hlt)
              obtain ⟨s, hrun, hs, hsl⟩ := look_string (ownsMap_below HM5.out hby hmb) HD3.out ks[k] hx
              have htk : (ks.take (k + 1)).map (pick (rcs (l ++ m))) = (ks.take k).map (pick (rcs (l ++ m))) ++ [(ks[k], tl s)] := by
                rw [List.take_succ_eq_append_getElem hlt, List.map_append, hs]; rfl
              have HT := Lib.hid htk
              have HO := Lib.hid hown
              have HRS := Lib.hid hrs
              obtain ⟨x, hxe⟩ : ∃ x, ks[k] = x := ⟨_, rfl⟩
              rw [hxe] at hc1 hrun HT
              clear htk hown hrs hs hxe hx
              have hfl : (((ks.take k).map (pick (rcs (l ++ m))) ++ [(x, tl s)]).filter M.hasValue) = rcs rs ++ (if s.toList.isEmpty = true then [] else [(x, tl s)]) := by
                rw [List.filter_append, ← HRS.out]
                congr 1
                rw [tl_eq]
                unfold M.hasValue
                cases he : (tl s).isEmpty <;> simp [he]
              rw [← HT.out] at hfl
              have HFL := Lib.hid hfl
              have hk9 : rs.length ≤ 100000000 := by omega
              clear hfl
              cases hE : s.toList.isEmpty with
              | true =>
                have hE2 : (!s.toList.isEmpty) = false := by rw [hE]; rfl
                rw [hE] at HFL
                have HN := Lib.hid (show rcs rs = _ from (by rw [HFL.out, if_pos rfl, List.append_nil] : ((ks.take (k + 1)).map (pick (rcs (l ++ m)))).filter M.hasValue = rcs rs).symm)
                clear HFL HT hE
                by_cases hk0 : k = 0
                case' pos =>
                  subst hk0
                  simp only [Nat.add_zero] at hc1
                case' neg =>
                  have hk1 : 0 < k := by omega
                  clear hk0
                all_goals
                  go_wp2
                  go_roundw
                  case rel => exact ⟨_, rs, (show Value.int .i64 _ = Value.int .i64 ((_ + 1 : Nat) : Int) by go_num), by omega, HO.out, HN, by omega, hby⟩
                  case measure => simp [intOf]; omega
              | false =>
                have hE2 : (!s.toList.isEmpty) = true := by rw [hE]; rfl
                rw [hE] at HFL
                have HN := Lib.hid (show ((ks.take (k + 1)).map (pick (rcs (l ++ m)))).filter M.hasValue = rcs (rs ++ [(⟨x.toArray⟩, s)]) by rw [HFL.out, rcs_app]; rfl)
                clear HFL HT hE
                by_cases hk0 : k = 0
                case' pos =>
                  subst hk0
                  simp only [Nat.add_zero] at hc1
                case' neg =>
                  have hk1 : 0 < k := by omega
                  clear hk0
                all_goals
                  go_wp2_with (at_builtin; refine wpList_appR rfl (.tmp 52) (.tmp 56) rfl w5.heap.size u10 rs (⟨x.toArray⟩, s) rfl rfl rfl HO.out hbys rfl hk9 ?_)
                  intro v6 w6 rs' HRS' hn6 o6 hb7 hg7
                  have b6 := hby.trans hb7
                  have HN2 := Lib.hid ((congrArg rcs HRS'.out).trans HN.out.symm)
                  clear hb7 hg7 HRS'
                  go_wp2
                  go_roundw
                  case rel => exact ⟨_, rs', (show Value.int .i64 _ = Value.int .i64 ((_ + 1 : Nat) : Int) by go_num), by omega, o6, HN2, by omega, b6⟩
                  case measure => simp [intOf]; omega
            · have hke : k = ks.length := by omega
              subst hke
              have HRS := Lib.hid (show rcs rs = M.merge ltB (rcs l) (rcs m) by have := hrs.out; rwa [List.take_length, HME.out] at this)
              obtain ⟨A7, c7, rfl, hr7, hc7, hm7⟩ := hown.rd
              have HR7 := Lib.hid hr7
              clear hown hr7 hrs hlt hk
              go_wp2
              go_ret
              exact ⟨A7, c7, rs, rfl, HR7.out, hc7, hm7, HRS.out, by omega, hb6.trans (hby.mono hb6.size)⟩
end Go.Proofs.YtefkgkdocglgaaaDoor
