/-
  The contracts of New and Spoilt.
-/
import Derived.Test.YteneknmbddnkaaaMedRead
namespace Go.Proofs.Yteneknmbddnkaaa
open Go.RowKit Go.Lib

namespace M
/-- How many of n bytes there are, where they end. -/
def cutN (n : Nat) (en : Int) : Nat := if 0 ≤ en ∧ en ≤ n then en.toNat else n
theorem cutN_le (n : Nat) (en : Int) : cutN n en ≤ n := by unfold cutN; split <;> omega
end M

/-- A new medium. -/
def NewMed (zs bad ss : List Int) (w : World) (e : Ending) (w' : World) : Prop :=
  ∃ g, e = .returned (.pointer (some ⟨g, 0, none⟩)) ∧ w.heap.size ≤ g ∧ Med w' g zs bad ss 0 0 ∧ Below w.heap.size w w'

theorem results_tmp1 {f : Func} {k : Nat} (hf : f.results = #[ResultVar.tmp k]) {tmps : Array Value} {v : Value} {w : World} (hk : tmps.getD k undef = v) : (results f tmps).run Try.prog w = .ok v w := by
  simp only [results, hf]
  rw [Array.getD_eq_getD_getElem?] at hk
  simp [hk]

set_option maxRecDepth 100000 in
set_option maxHeartbeats 1000000 in
/-- New's last part: the image is made, the sizes are copied, the medium lies in a block. -/
theorem med_of {w w1 w2 w3 : World} {u v s : Value} {zs bad ss : List Int} (hu : OwnY w2 w1.heap.size u zs) (hv : OwnI w2 w1.heap.size v bad) (hs : OwnI w3 w2.heap.size s ss) (b1 : Below w.heap.size w w1) (b2 : Below w1.heap.size w1 w2) (b3 : Below w2.heap.size w2 w3)
    (hz : u8s zs) (hb : i64s bad) (hss : i64s ss) (hzl : zs.length ≤ 1000000) (hbl : bad.length ≤ 1000000) (hsl : ss.length ≤ 1000000) (hs0 : 0 < ss.length) :
    Med (w3.alloc (.cells #[u, v, s, .int .i64 0, .int .i64 0] 57)) w3.heap.size zs bad ss 0 0 ∧ w.heap.size ≤ w3.heap.size ∧ Below w.heap.size w (w3.alloc (.cells #[u, v, s, .int .i64 0, .int .i64 0] 57)) := by
  obtain ⟨A, c, rfl, hr, hc, hm⟩ := hu.rd hz
  obtain ⟨A1, c1, rfl, hr1, hc1, hm1⟩ := hv.rd hb
  obtain ⟨A2, c2, rfl, hr2, hc2, hm2⟩ := hs.rd hss
  have hle : w.heap.size ≤ w3.heap.size := Nat.le_trans b1.size (Nat.le_trans b2.size b3.size)
  have hbb : Below w.heap.size w w3 := (b1.trans (b2.mono b1.size)).trans (b3.mono (Nat.le_trans b1.size b2.size))
  refine ⟨⟨⟨A, c, A1, c1, A2, c2, Blk.new w3 _ _, ?_, hc, hm, ?_, ?_⟩, Nat.zero_le _, hs0, hzl, hbl, hsl⟩, hle, hbb.alloc hle _⟩
  · exact ((hr.keep (w' := w3) fun p hp => b3.cell hp).more b3.size).alloc (Nat.le_refl _) _
  · exact ((hr1.keep (w' := w3) fun p hp => b3.cell hp).more b3.size).alloc (Nat.le_refl _) _
  · exact hr2.alloc (Nat.le_refl _) _

set_option maxRecDepth 100000 in
set_option maxHeartbeats 1000000 in
theorem new_any (A : Option Addr) (n c : Nat) (zs : List Int) (A1 : Option Addr) (n1 c1 : Nat) (bad : List Int) (en : Int) (A2 : Option Addr) (n2 c2 : Nat) (ss : List Int) (w : World) (B : Nat)
    (hr : Rd w B A n zs) (h1 : RdI w B A1 n1 bad) (h2 : RdI w B A2 n2 ss) (hB : B ≤ w.heap.size) (hnc : n ≤ c) (hc : c ≤ maxLen) (hn : n ≤ 1000000) (hn1 : n1 ≤ 1000000) (hn2 : n2 ≤ 100000) (he : -9223372036854775808 ≤ en ∧ en ≤ 9223372036854775807) :
    Calls Try.prog 13 #[.slice A n c, .slice A1 n1 c1, .int .i64 en, .slice A2 n2 c2] w (NewMed (M.wipe (M.bads (M.cutN n en) bad) (zs.take (M.cutN n en))) (M.bads (M.cutN n en) bad) (M.szs ss) w) := by
  obtain ⟨he0, he1⟩ := he
  have hcm := M.cutN_le n en
  have HM := hid (fun (m : Nat) (hm : m ≤ n) (V : World) (hb : Below w.heap.size w V) => make_any A m c (zs.take m) A1 n1 c1 bad V B ((hr.front hm).keep (w' := V) fun p hp => hb.cell (Nat.lt_of_lt_of_le hp hB)) (h1.keep (w' := V) fun p hp => hb.cell (Nat.lt_of_lt_of_le hp hB)) (Nat.le_trans hB hb.size) (by omega) hn1)
  have HS : Hid (∀ (V : World) (hb : Below w.heap.size w V), Calls Try.prog 30 #[.slice A2 n2 c2] V fun e w' => ∃ v, e = .returned v ∧ OwnI w' V.heap.size v ss ∧ Below V.heap.size V w') := hid (fun V hb => cloneI_any A2 n2 c2 ss V B (h2.keep (w' := V) fun p hp => hb.cell (Nat.lt_of_lt_of_le hp hB)) (by omega))
  have HZ : Hid (u8s zs) := hid hr.bd
  have HI : Hid (i64s ss) := hid h2.bd
  have HL := hid hr.len
  have HL2 := hid h2.len
  clear hr h1 h2
  by_cases hc1 : 0 ≤ en ∧ en ≤ n
  · obtain ⟨m, rfl⟩ : ∃ m : Nat, en = m := ⟨en.toNat, by omega⟩
    have hmn : m ≤ n := by omega
    have hq : M.cutN n m = m := by unfold M.cutN; rw [if_pos hc1]; simp
    rw [hq]
    have d1 : decide ((m : Int) < 0) = false := by simp
    have d2 : decide ((n : Int) < m) = false := by simp; omega
    clear hq
    by_cases h0 : n2 = 0
    · subst h0
      have hss : ss = [] := List.eq_nil_of_length_eq_zero HL2.out
      have hsz : M.szs ss = [512] := by rw [hss]; rfl
      rw [hsz]
      have HV : Hid (Below w.heap.size w (w.alloc (.cells #[.int .i64 512] 3))) := hid ((Below.refl _ _).alloc (Nat.le_refl _) _)
      have HR1 := hid (RdI.one w 3 512 (by decide))
      have HIS : Hid (i64s [512]) := hid HR1.out.bd
      have HL4 : Hid (([512] : List Int).length ≤ 1000000) := hid (by decide)
      have HL5 : Hid (0 < ([512] : List Int).length) := hid (by decide)
      have hws : (w.alloc (.cells #[.int .i64 512] 3)).heap.size = w.heap.size + 1 := by simp
      have HSS : Hid (∀ V, Below (w.alloc (.cells #[.int .i64 512] 3)).heap.size (w.alloc (.cells #[.int .i64 512] 3)) V → Below w.heap.size w V → Calls Try.prog 30 #[.slice (some ⟨w.heap.size, 0, none⟩) 1 1] V fun e w' => ∃ v, e = .returned v ∧ OwnI w' V.heap.size v [512] ∧ Below V.heap.size V w') :=
        hid (fun V hb _ => cloneI_any _ 1 1 [512] V _ (HR1.out.keep (w' := V) fun p hp => hb.cell (by rw [hws]; exact hp)) (by decide))
      clear hss hsz hws HR1
      have HZM := hid (M.wipe_bd (l := M.bads m bad) (fun z hz => HZ.out z (List.mem_of_mem_take hz) : u8s (zs.take m)))
      have HBM : Hid (i64s (M.bads m bad)) := hid (M.bads_bd (by omega))
      have HL1 : Hid ((M.wipe (M.bads m bad) (zs.take m)).length ≤ 1000000) := hid (by rw [M.wipe_len, List.length_take]; omega)
      have HL3 : Hid ((M.bads m bad).length ≤ 1000000) := hid (by have := M.bads_le m bad; omega)
      have HMM := hid (fun V hb => HM.out m hmn V hb)
      clear HM
      generalize M.wipe (M.bads m bad) (zs.take m) = ZS at *
      generalize M.bads m bad = BS at *
      go_enter Try.func13, Try.ntmps13
      go_wp2_with fail
      (with_reducible refine (HMM.out _ HV.out).mono ?_)
      rintro e w2 ⟨u, v, rfl, hu, hv, b2⟩
      have hb2 : Below w.heap.size w w2 := HV.out.trans (b2.mono HV.out.size)
      have HU := hid hu
      have HV2 := hid hv
      clear hu hv
      go_wp2_with fail
      (with_reducible refine (HSS.out w2 b2 hb2).mono ?_)
      rintro e w3 ⟨s, rfl, hs, b3⟩
      obtain ⟨As, cs, rfl, _, _⟩ := own_room hs
      have hmed := med_of HU.out HV2.out hs HV.out b2 b3 HZM.out HBM.out HIS.out HL1.out HL3.out HL4.out HL5.out
      have HMED := hid hmed
      clear hs hmed b2 b3
      obtain ⟨Au, cu, rfl, _, _⟩ := own_room HU.out
      obtain ⟨Av, cv, rfl, _, _⟩ := own_room HV2.out
      go_wp2
      go_ret
      refine ⟨w3.heap.size, rfl, HMED.out.2.1, ?_, ?_⟩
      · exact HMED.out.1
      · exact HMED.out.2.2
    · have hsz : M.szs ss = ss := by unfold M.szs; rw [if_neg (fun e => h0 (by rw [← HL2.out, e]; rfl))]
      rw [hsz]
      have HV : Hid (Below w.heap.size w w) := hid (Below.refl _ _)
      have HIS := HI
      have HL4 : Hid (ss.length ≤ 1000000) := hid (by rw [HL2.out]; omega)
      have HL5 : Hid (0 < ss.length) := hid (by rw [HL2.out]; omega)
      have HSS := hid (fun V (_ : Below w.heap.size w V) (hb : Below w.heap.size w V) => HS.out V hb)
      have d0 : ((n2 : Int) == 0) = false := by simp; omega
      clear hsz
      have HZM := hid (M.wipe_bd (l := M.bads m bad) (fun z hz => HZ.out z (List.mem_of_mem_take hz) : u8s (zs.take m)))
      have HBM : Hid (i64s (M.bads m bad)) := hid (M.bads_bd (by omega))
      have HL1 : Hid ((M.wipe (M.bads m bad) (zs.take m)).length ≤ 1000000) := hid (by rw [M.wipe_len, List.length_take]; omega)
      have HL3 : Hid ((M.bads m bad).length ≤ 1000000) := hid (by have := M.bads_le m bad; omega)
      have HMM := hid (fun V hb => HM.out m hmn V hb)
      clear HM
      generalize M.wipe (M.bads m bad) (zs.take m) = ZS at *
      generalize M.bads m bad = BS at *
      go_enter Try.func13, Try.ntmps13
      go_wp2_with fail
      (with_reducible refine (HMM.out _ HV.out).mono ?_)
      rintro e w2 ⟨u, v, rfl, hu, hv, b2⟩
      have hb2 : Below w.heap.size w w2 := HV.out.trans (b2.mono HV.out.size)
      have HU := hid hu
      have HV2 := hid hv
      clear hu hv
      go_wp2_with fail
      (with_reducible refine (HSS.out w2 b2 hb2).mono ?_)
      rintro e w3 ⟨s, rfl, hs, b3⟩
      obtain ⟨As, cs, rfl, _, _⟩ := own_room hs
      have hmed := med_of HU.out HV2.out hs HV.out b2 b3 HZM.out HBM.out HIS.out HL1.out HL3.out HL4.out HL5.out
      have HMED := hid hmed
      clear hs hmed b2 b3
      obtain ⟨Au, cu, rfl, _, _⟩ := own_room HU.out
      obtain ⟨Av, cv, rfl, _, _⟩ := own_room HV2.out
      go_wp2
      go_ret
      refine ⟨w3.heap.size, rfl, HMED.out.2.1, ?_, ?_⟩
      · exact HMED.out.1
      · exact HMED.out.2.2
  · have hq : M.cutN n en = n := by unfold M.cutN; rw [if_neg hc1]
    rw [hq]
    clear hq
    obtain ⟨m, hm⟩ : ∃ m, m = n := ⟨n, rfl⟩
    have hmn : m ≤ n := by omega
    subst hm
    rcases (by omega : en < 0 ∨ (¬ en < 0 ∧ (m : Int) < en)) with d1 | ⟨d1, d2⟩
    · have e1 : decide (en < 0) = true := by simpa using d1
      by_cases h0 : n2 = 0
      · subst h0
        have hss : ss = [] := List.eq_nil_of_length_eq_zero HL2.out
        have hsz : M.szs ss = [512] := by rw [hss]; rfl
        rw [hsz]
        have HV : Hid (Below w.heap.size w (w.alloc (.cells #[.int .i64 512] 3))) := hid ((Below.refl _ _).alloc (Nat.le_refl _) _)
        have HR1 := hid (RdI.one w 3 512 (by decide))
        have HIS : Hid (i64s [512]) := hid HR1.out.bd
        have HL4 : Hid (([512] : List Int).length ≤ 1000000) := hid (by decide)
        have HL5 : Hid (0 < ([512] : List Int).length) := hid (by decide)
        have hws : (w.alloc (.cells #[.int .i64 512] 3)).heap.size = w.heap.size + 1 := by simp
        have HSS : Hid (∀ V, Below (w.alloc (.cells #[.int .i64 512] 3)).heap.size (w.alloc (.cells #[.int .i64 512] 3)) V → Below w.heap.size w V → Calls Try.prog 30 #[.slice (some ⟨w.heap.size, 0, none⟩) 1 1] V fun e w' => ∃ v, e = .returned v ∧ OwnI w' V.heap.size v [512] ∧ Below V.heap.size V w') :=
          hid (fun V hb _ => cloneI_any _ 1 1 [512] V _ (HR1.out.keep (w' := V) fun p hp => hb.cell (by rw [hws]; exact hp)) (by decide))
        clear hss hsz hws HR1
        have HZM := hid (M.wipe_bd (l := M.bads m bad) (fun z hz => HZ.out z (List.mem_of_mem_take hz) : u8s (zs.take m)))
        have HBM : Hid (i64s (M.bads m bad)) := hid (M.bads_bd (by omega))
        have HL1 : Hid ((M.wipe (M.bads m bad) (zs.take m)).length ≤ 1000000) := hid (by rw [M.wipe_len, List.length_take]; omega)
        have HL3 : Hid ((M.bads m bad).length ≤ 1000000) := hid (by have := M.bads_le m bad; omega)
        have HMM := hid (fun V hb => HM.out m hmn V hb)
        clear HM
        generalize M.wipe (M.bads m bad) (zs.take m) = ZS at *
        generalize M.bads m bad = BS at *
        go_enter Try.func13, Try.ntmps13
        go_wp2_with fail
        (with_reducible refine (HMM.out _ HV.out).mono ?_)
        rintro e w2 ⟨u, v, rfl, hu, hv, b2⟩
        have hb2 : Below w.heap.size w w2 := HV.out.trans (b2.mono HV.out.size)
        have HU := hid hu
        have HV2 := hid hv
        clear hu hv
        go_wp2_with fail
        (with_reducible refine (HSS.out w2 b2 hb2).mono ?_)
        rintro e w3 ⟨s, rfl, hs, b3⟩
        obtain ⟨As, cs, rfl, _, _⟩ := own_room hs
        have hmed := med_of HU.out HV2.out hs HV.out b2 b3 HZM.out HBM.out HIS.out HL1.out HL3.out HL4.out HL5.out
        have HMED := hid hmed
        clear hs hmed b2 b3
        obtain ⟨Au, cu, rfl, _, _⟩ := own_room HU.out
        obtain ⟨Av, cv, rfl, _, _⟩ := own_room HV2.out
        go_wp2
        go_ret
        refine ⟨w3.heap.size, rfl, HMED.out.2.1, ?_, ?_⟩
        · exact HMED.out.1
        · exact HMED.out.2.2
      · have hsz : M.szs ss = ss := by unfold M.szs; rw [if_neg (fun e => h0 (by rw [← HL2.out, e]; rfl))]
        rw [hsz]
        have HV : Hid (Below w.heap.size w w) := hid (Below.refl _ _)
        have HIS := HI
        have HL4 : Hid (ss.length ≤ 1000000) := hid (by rw [HL2.out]; omega)
        have HL5 : Hid (0 < ss.length) := hid (by rw [HL2.out]; omega)
        have HSS := hid (fun V (_ : Below w.heap.size w V) (hb : Below w.heap.size w V) => HS.out V hb)
        have d0 : ((n2 : Int) == 0) = false := by simp; omega
        clear hsz
        have HZM := hid (M.wipe_bd (l := M.bads m bad) (fun z hz => HZ.out z (List.mem_of_mem_take hz) : u8s (zs.take m)))
        have HBM : Hid (i64s (M.bads m bad)) := hid (M.bads_bd (by omega))
        have HL1 : Hid ((M.wipe (M.bads m bad) (zs.take m)).length ≤ 1000000) := hid (by rw [M.wipe_len, List.length_take]; omega)
        have HL3 : Hid ((M.bads m bad).length ≤ 1000000) := hid (by have := M.bads_le m bad; omega)
        have HMM := hid (fun V hb => HM.out m hmn V hb)
        clear HM
        generalize M.wipe (M.bads m bad) (zs.take m) = ZS at *
        generalize M.bads m bad = BS at *
        go_enter Try.func13, Try.ntmps13
        go_wp2_with fail
        (with_reducible refine (HMM.out _ HV.out).mono ?_)
        rintro e w2 ⟨u, v, rfl, hu, hv, b2⟩
        have hb2 : Below w.heap.size w w2 := HV.out.trans (b2.mono HV.out.size)
        have HU := hid hu
        have HV2 := hid hv
        clear hu hv
        go_wp2_with fail
        (with_reducible refine (HSS.out w2 b2 hb2).mono ?_)
        rintro e w3 ⟨s, rfl, hs, b3⟩
        obtain ⟨As, cs, rfl, _, _⟩ := own_room hs
        have hmed := med_of HU.out HV2.out hs HV.out b2 b3 HZM.out HBM.out HIS.out HL1.out HL3.out HL4.out HL5.out
        have HMED := hid hmed
        clear hs hmed b2 b3
        obtain ⟨Au, cu, rfl, _, _⟩ := own_room HU.out
        obtain ⟨Av, cv, rfl, _, _⟩ := own_room HV2.out
        go_wp2
        go_ret
        refine ⟨w3.heap.size, rfl, HMED.out.2.1, ?_, ?_⟩
        · exact HMED.out.1
        · exact HMED.out.2.2
    · have e1 : decide (en < 0) = false := by simpa using d1
      have e2 : decide ((m : Int) < en) = true := by simpa using d2
      by_cases h0 : n2 = 0
      · subst h0
        have hss : ss = [] := List.eq_nil_of_length_eq_zero HL2.out
        have hsz : M.szs ss = [512] := by rw [hss]; rfl
        rw [hsz]
        have HV : Hid (Below w.heap.size w (w.alloc (.cells #[.int .i64 512] 3))) := hid ((Below.refl _ _).alloc (Nat.le_refl _) _)
        have HR1 := hid (RdI.one w 3 512 (by decide))
        have HIS : Hid (i64s [512]) := hid HR1.out.bd
        have HL4 : Hid (([512] : List Int).length ≤ 1000000) := hid (by decide)
        have HL5 : Hid (0 < ([512] : List Int).length) := hid (by decide)
        have hws : (w.alloc (.cells #[.int .i64 512] 3)).heap.size = w.heap.size + 1 := by simp
        have HSS : Hid (∀ V, Below (w.alloc (.cells #[.int .i64 512] 3)).heap.size (w.alloc (.cells #[.int .i64 512] 3)) V → Below w.heap.size w V → Calls Try.prog 30 #[.slice (some ⟨w.heap.size, 0, none⟩) 1 1] V fun e w' => ∃ v, e = .returned v ∧ OwnI w' V.heap.size v [512] ∧ Below V.heap.size V w') :=
          hid (fun V hb _ => cloneI_any _ 1 1 [512] V _ (HR1.out.keep (w' := V) fun p hp => hb.cell (by rw [hws]; exact hp)) (by decide))
        clear hss hsz hws HR1
        have HZM := hid (M.wipe_bd (l := M.bads m bad) (fun z hz => HZ.out z (List.mem_of_mem_take hz) : u8s (zs.take m)))
        have HBM : Hid (i64s (M.bads m bad)) := hid (M.bads_bd (by omega))
        have HL1 : Hid ((M.wipe (M.bads m bad) (zs.take m)).length ≤ 1000000) := hid (by rw [M.wipe_len, List.length_take]; omega)
        have HL3 : Hid ((M.bads m bad).length ≤ 1000000) := hid (by have := M.bads_le m bad; omega)
        have HMM := hid (fun V hb => HM.out m hmn V hb)
        clear HM
        generalize M.wipe (M.bads m bad) (zs.take m) = ZS at *
        generalize M.bads m bad = BS at *
        go_enter Try.func13, Try.ntmps13
        go_wp2_with fail
        (with_reducible refine (HMM.out _ HV.out).mono ?_)
        rintro e w2 ⟨u, v, rfl, hu, hv, b2⟩
        have hb2 : Below w.heap.size w w2 := HV.out.trans (b2.mono HV.out.size)
        have HU := hid hu
        have HV2 := hid hv
        clear hu hv
        go_wp2_with fail
        (with_reducible refine (HSS.out w2 b2 hb2).mono ?_)
        rintro e w3 ⟨s, rfl, hs, b3⟩
        obtain ⟨As, cs, rfl, _, _⟩ := own_room hs
        have hmed := med_of HU.out HV2.out hs HV.out b2 b3 HZM.out HBM.out HIS.out HL1.out HL3.out HL4.out HL5.out
        have HMED := hid hmed
        clear hs hmed b2 b3
        obtain ⟨Au, cu, rfl, _, _⟩ := own_room HU.out
        obtain ⟨Av, cv, rfl, _, _⟩ := own_room HV2.out
        go_wp2
        go_ret
        refine ⟨w3.heap.size, rfl, HMED.out.2.1, ?_, ?_⟩
        · exact HMED.out.1
        · exact HMED.out.2.2
      · have hsz : M.szs ss = ss := by unfold M.szs; rw [if_neg (fun e => h0 (by rw [← HL2.out, e]; rfl))]
        rw [hsz]
        have HV : Hid (Below w.heap.size w w) := hid (Below.refl _ _)
        have HIS := HI
        have HL4 : Hid (ss.length ≤ 1000000) := hid (by rw [HL2.out]; omega)
        have HL5 : Hid (0 < ss.length) := hid (by rw [HL2.out]; omega)
        have HSS := hid (fun V (_ : Below w.heap.size w V) (hb : Below w.heap.size w V) => HS.out V hb)
        have d0 : ((n2 : Int) == 0) = false := by simp; omega
        clear hsz
        have HZM := hid (M.wipe_bd (l := M.bads m bad) (fun z hz => HZ.out z (List.mem_of_mem_take hz) : u8s (zs.take m)))
        have HBM : Hid (i64s (M.bads m bad)) := hid (M.bads_bd (by omega))
        have HL1 : Hid ((M.wipe (M.bads m bad) (zs.take m)).length ≤ 1000000) := hid (by rw [M.wipe_len, List.length_take]; omega)
        have HL3 : Hid ((M.bads m bad).length ≤ 1000000) := hid (by have := M.bads_le m bad; omega)
        have HMM := hid (fun V hb => HM.out m hmn V hb)
        clear HM
        generalize M.wipe (M.bads m bad) (zs.take m) = ZS at *
        generalize M.bads m bad = BS at *
        go_enter Try.func13, Try.ntmps13
        go_wp2_with fail
        (with_reducible refine (HMM.out _ HV.out).mono ?_)
        rintro e w2 ⟨u, v, rfl, hu, hv, b2⟩
        have hb2 : Below w.heap.size w w2 := HV.out.trans (b2.mono HV.out.size)
        have HU := hid hu
        have HV2 := hid hv
        clear hu hv
        go_wp2_with fail
        (with_reducible refine (HSS.out w2 b2 hb2).mono ?_)
        rintro e w3 ⟨s, rfl, hs, b3⟩
        obtain ⟨As, cs, rfl, _, _⟩ := own_room hs
        have hmed := med_of HU.out HV2.out hs HV.out b2 b3 HZM.out HBM.out HIS.out HL1.out HL3.out HL4.out HL5.out
        have HMED := hid hmed
        clear hs hmed b2 b3
        obtain ⟨Au, cu, rfl, _, _⟩ := own_room HU.out
        obtain ⟨Av, cv, rfl, _, _⟩ := own_room HV2.out
        go_wp2
        go_ret
        refine ⟨w3.heap.size, rfl, HMED.out.2.1, ?_, ?_⟩
        · exact HMED.out.1
        · exact HMED.out.2.2
end Go.Proofs.Yteneknmbddnkaaa
