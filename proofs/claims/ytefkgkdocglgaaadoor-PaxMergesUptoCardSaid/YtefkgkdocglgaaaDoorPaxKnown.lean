/-
  Print and Parse with what they answer under names; the chapter's example.
-/
import Derived.Test.YtefkgkdocglgaaaDoorPaxParse
import Derived.Test.YtefkgkdocglgaaaDoorPaxPrint
namespace Go.Proofs.YtefkgkdocglgaaaDoor
open Go.RowKit Go.Shelf

/-- Bytes that are answered, with an error. -/
def BytesOut (k : IntKind) (z : Int) (L : List UInt8) (w : World) (e : Ending) (w' : World) : Prop :=
  ∃ A c P, e = .returned (.tuple #[.slice A P.length c, .int k z]) ∧ Hid (P = L) ∧ Rd w' w'.heap.size A P.length (ints P) ∧ P.length ≤ c ∧ c ≤ maxLen ∧ OwnB w' w.heap.size (.slice A P.length c) P ∧ Below w.heap.size w w'
theorem PrintIs.out {k : IntKind} {l : List R2} {w w' : World} {e : Ending} (h : PrintIs k l w e w') {z : Int} (hz : (M.printE (rcs l) : Int) = z) : BytesOut k z (M.printB (rcs l)) w e w' := by
  obtain ⟨v, rfl, ho, hb⟩ := h
  obtain ⟨A, c, rfl, hrd, hc, hm⟩ := ho.rd
  exact ⟨A, c, _, by rw [hz], Lib.hid rfl, hrd, hc, hm, ho, hb⟩
/-- Records that are answered, with an error. -/
def RecsOut (k : IntKind) (z : Int) (L : List M.Rc) (w : World) (e : Ending) (w' : World) : Prop :=
  ∃ A c rs, e = .returned (.tuple #[.slice A rs.length c, .int k z]) ∧ Hid (rcs rs = L) ∧ RdR w' w'.heap.size A rs ∧ rs.length ≤ c ∧ c ≤ maxLen ∧ OwnR w' w.heap.size (.slice A rs.length c) rs ∧ Below w.heap.size w w'
theorem ParseIs.out {k : IntKind} {l : List UInt8} {w w' : World} {e : Ending} (h : ParseIs k l w e w') {z : Int} (hz : (M.parseE l : Int) = z) : RecsOut k z (M.parseL l) w e w' := by
  obtain ⟨v, rs, rfl, ho, hrs, hb⟩ := h
  obtain ⟨A, c, rfl, hrd, hc, hm⟩ := ho.rd
  exact ⟨A, c, rs, by rw [hz], Lib.hid hrs, hrd, hc, hm, ho, hb⟩

theorem RdR.lit (w : World) (s t : ByteArray) : RdR (w.alloc (.cells #[.string s, .string t] 45)) (w.heap.size + 1) (some ⟨w.heap.size, 0, none⟩) [(s, t)] := fun _ => by
  have hb := BoxR.new w s t
  refine ⟨_, 0, rfl, Nat.lt_succ_self _, fun k r hr => ?_⟩
  match k, hr with
  | 0, hr =>
    simp at hr
    subst hr
    exact ⟨hb.cell0, hb.cell1⟩

theorem Rd.mark (w : World) (t : TypeId) (fr : Nat × Nat) (l : List UInt8) : Rd (w.alloc (.cells (Lib.byteCells l).toArray t fr)) (w.heap.size + 1) (some ⟨w.heap.size, 0, none⟩) l.length (ints l) := by
  refine ⟨ints_length l, ints_bd l, fun _ => ⟨_, 0, rfl, Nat.lt_succ_self _, fun j z hj => ?_⟩⟩
  rw [Nat.zero_add, World.cell?_alloc_mark]
  unfold ints at hj
  rw [List.getElem?_map] at hj
  cases hx : l[j]? with
  | none => rw [hx] at hj; cases hj
  | some x =>
    rw [hx] at hj
    injection hj with hj
    subst hj
    simp [Lib.byteCells, hx]
namespace M
theorem dec6 : Lib.decDigits 6 = [54] := by rw [Lib.decDigits, dif_pos (by decide)]; rfl
theorem line_ab : line ([97], [98]) = [54, 32, 97, 61, 98, 10] := by
  rw [line_eq, show lineLen ([97], [98]) = 6 from rfl, dec6]; rfl
theorem print_ab : printE [([97], [98])] = 0 ∧ printB [([97], [98])] = [54, 32, 97, 61, 98, 10] := by
  have e : lines [([97], [98])] = [54, 32, 97, 61, 98, 10] := by rw [lines_one, line_ab]
  have h : printE [([97], [98])] = 0 := printE_0 (by decide) (by rw [e]; decide)
  exact ⟨h, by rw [printB_0 h, e]⟩
theorem parse_ab : parseE [54, 32, 97, 61, 98, 10] = 0 ∧ parseL [54, 32, 97, 61, 98, 10] = [([97], [98])] := by
  have h := recs_lines [([97], [98])] (by intro r hr; simp at hr; subst hr; decide)
  rw [lines_one, line_ab] at h
  exact parseE_some (by decide) h (by decide)
theorem one_5 : one [53, 32, 97, 61, 98, 10] = none := by
  rw [one_recAt (b := [53, 32, 97, 61, 98, 10]) (i := 1) (by decide) (by decide) (by unfold digs; decide) rfl]
  rw [show num (List.take 1 [53, 32, 97, 61, 98, 10]) 0 = 5 from rfl, show recAt [53, 32, 97, 61, 98, 10] 1 5 = none from by decide]
  rfl
theorem parse_5 : parseE [53, 32, 97, 61, 98, 10] = 34 := parseE_none (by decide) (by rw [recs_step (by simp), one_5])
end M

theorem print_ab (B : Nat) (w : World) (hB : B ≤ w.heap.size) (ht : TB B w) (c : Nat) :
    Calls Tryd.prog 12 #[.slice (some ⟨w.heap.size, 0, none⟩) 1 c] (w.alloc (.cells #[.string ⟨#[97]⟩, .string ⟨#[98]⟩] 45))
      (BytesOut .u16 0 [54, 32, 97, 61, 98, 10] (w.alloc (.cells #[.string ⟨#[97]⟩, .string ⟨#[98]⟩] 45))) := by
  have hal := (Below.refl B w).alloc hB (.cells #[.string ⟨#[97]⟩, .string ⟨#[98]⟩] 45)
  have h := print_any (some ⟨w.heap.size, 0, none⟩) c [((⟨#[97]⟩ : ByteArray), (⟨#[98]⟩ : ByteArray))] (by simp) (by intro r hr; simp at hr; subst hr; decide) B _ (by simp; omega) (ht.on hal) ((RdR.lit w _ _).more (by simp))
  refine h.mono fun e w' h => ?_
  have h2 := h.out (z := 0) (by rw [show M.printE (rcs [((⟨#[97]⟩ : ByteArray), (⟨#[98]⟩ : ByteArray))]) = 0 from M.print_ab.1]; rfl)
  rwa [show M.printB (rcs [((⟨#[97]⟩ : ByteArray), (⟨#[98]⟩ : ByteArray))]) = [54, 32, 97, 61, 98, 10] from M.print_ab.2] at h2

set_option maxRecDepth 100000 in
set_option maxHeartbeats 4000000 in
theorem known_any (B : Nat) (w : World) (hB : B ≤ w.heap.size) (ht : TB B w) :
    Calls Tryd.prog 15 #[] w fun e w' => e = .returned (.bool true) ∧ Below w.heap.size w w' := by
  have ht' : TB w.heap.size w := fun w' hb => ht w' (hb.mono hB)
  have HT := Lib.hid ht'
  have C1 := Lib.hid (print_ab B w hB ht 1)
  clear ht ht'
  have b0 := (Below.refl w.heap.size w).alloc (Nat.le_refl _) (.cells #[.string ⟨#[97]⟩, .string ⟨#[98]⟩] 45)
  go_enter Tryd.func15, Tryd.ntmps15
  go_wp2_with fail
  refine C1.out.mono ?_
  rintro e w1 ⟨A1, c1, P, rfl, hP, hrd, hc, hm, ho, hb1⟩
  obtain rfl : P = [54, 32, 97, 61, 98, 10] := hP.out
  have b1 := b0.trans (hb1.mono (by simp))
  have C2 := parse_any A1 c1 [54, 32, 97, 61, 98, 10] (by decide) hc w.heap.size w1 b1.size (HT.out.on b1) hrd
  have HRD := Lib.hid hrd
  have HC2 := Lib.hid C2
  clear C2 hrd ho hb1 hP
  simp only [List.length_cons, List.length_nil, Nat.zero_add, Nat.reduceAdd] at *
  go_wp2_with fail
  refine HC2.out.mono ?_
  rintro e w2 h2
  obtain ⟨A2, c2, rs, rfl, hrs, hrr, hc2, hm2, ho2, hb2⟩ := h2.out (z := 0) (by rw [M.parse_ab.1]; rfl)
  rw [M.parse_ab.2] at hrs
  obtain rfl : rs = [((⟨#[97]⟩ : ByteArray), (⟨#[98]⟩ : ByteArray))] := rcs_inj hrs.out
  have b2 := b1.trans (hb2.mono b1.size)
  obtain ⟨bb, off, rfl, hbb, hcc⟩ := hrr (by simp)
  have hcc0 := hcc 0 _ rfl
  simp only [Nat.zero_mul, Nat.add_zero] at hcc0
  obtain ⟨c20, c21⟩ := hcc0
  have b1' := hb2.size
  have HRD2 := Lib.hid (HRD.out.below hb2)
  clear hcc hrr ho2 hb2 h2 hrs b1
  simp only [List.length_cons, List.length_nil, Nat.zero_add, Nat.reduceAdd] at *
  have hsame := fun (w : World) (C : Array Value) (n c : Nat) => Lib.run_convert_bytes_const (P := Tryd.prog) w 22 5 C n c Tryd.underlying22 Tryd.underlying5
  have b3 := b2.alloc b2.size (.cells #[.int .u8 53, .int .u8 32, .int .u8 97, .int .u8 61, .int .u8 98, .int .u8 10] 5 (6, 7))
  have hr5 := (Rd.mark w2 5 (6, 7) [53, 32, 97, 61, 98, 10]).more (show w2.heap.size + 1 ≤ (w2.alloc (.cells #[.int .u8 53, .int .u8 32, .int .u8 97, .int .u8 61, .int .u8 98, .int .u8 10] 5 (6, 7))).heap.size by simp)
  have C3 := parse_any (some ⟨w2.heap.size, 0, none⟩) 6 [53, 32, 97, 61, 98, 10] (by decide) (by decide) w.heap.size (w2.alloc (.cells #[.int .u8 53, .int .u8 32, .int .u8 97, .int .u8 61, .int .u8 98, .int .u8 10] 5 (6, 7))) b3.size (HT.out.on b3) hr5
  have HC3 := Lib.hid C3
  clear C3 hr5
  simp only [List.length_cons, List.length_nil, Nat.zero_add, Nat.reduceAdd] at HC3
  go_wp2_with fail
  refine HC3.out.mono ?_
  rintro e w3 h3
  obtain ⟨A3, c3, rs3, rfl, _, _, _, _, _, hb3⟩ := h3.out (z := 34) (by rw [M.parse_5]; rfl)
  have b4 := b3.trans (hb3.mono b3.size)
  have htx := run_text ((HRD2.out.alloc b1' (.cells #[.int .u8 53, .int .u8 32, .int .u8 97, .int .u8 61, .int .u8 98, .int .u8 10] 5 (6, 7))).keep (fun p hp => hb3.cell (Nat.lt_of_lt_of_le hp (by simp; omega)))) c1
  have d20 := hb3.cell (p := ⟨bb, off, none⟩) (by simp; omega)
  have d21 := hb3.cell (p := ⟨bb, off + 1, none⟩) (by simp; omega)
  clear h3 hb3 hsame
  go_wp2
  go_ret
  exact ⟨rfl, b4⟩
end Go.Proofs.YtefkgkdocglgaaaDoor
