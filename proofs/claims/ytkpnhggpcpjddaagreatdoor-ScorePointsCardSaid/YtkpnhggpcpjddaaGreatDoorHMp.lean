/-
  Texts of one chapter, merged.
-/
import Derived.Test.YtkpnhggpcpjddaaGreatDoorHMj
import Derived.Test.YtkpnhggpcpjddaaGreatDoorHdParseW
import Derived.Test.YtkpnhggpcpjddaaGreatDoorHMt
import Derived.Test.YtkpnhggpcpjddaaGreatDoorHMg
import Derived.Test.YtkpnhggpcpjddaaGreatDoorTrim
import Derived.Test.YtkpnhggpcpjddaaGreatDoorHdArr
import Derived.Deep.CutRange
import Derived.Deep.WholeRow
import Derived.Test.YtkpnhggpcpjddaaGreatDoorHMe
set_option linter.unusedVariables false
set_option linter.unusedSimpArgs false
/-! The signs of a header, one by one. -/
namespace Go.Proofs.YtkpnhggpcpjddaaGreatDoor
open Go.RowKit Go.Lib

/-- bytes.Trim of what is neither a nought nor a blank: its length says whether something is left. -/
theorem trim_any (A : Option Addr) (n c : Nat) (zs : List Int) (w : World) (hr : Rd w w.heap.size A n zs) (hc : n ≤ c) (hcm : c ≤ maxLen) :
    Calls Tryz.prog 74 #[.slice A n c, .string ⟨#[0, 32]⟩] w fun e w' => (∃ A' k c', e = .returned (.slice A' k c') ∧ decide (0 < k) = decide (0 < (trimS (bytesOf zs) [0, 32]).length)) ∧ Below w.heap.size w w' := by
  have hin : Lib.BytesIn w A n zs := fun hn => by
    obtain ⟨b, off, e, hB, hcell⟩ := hr.2.2 hn
    exact ⟨b, off, e, fun i hi => by
      have hl : i < zs.length := by rw [hr.1]; exact hi
      rw [List.getD_eq_getElem?_getD, List.getElem?_eq_getElem hl]
      exact hcell i _ (List.getElem?_eq_getElem hl)⟩
  refine (Any.bytes_Trim_laid Tryz.trimL (by kernel_rfl) A n c zs ⟨#[0, 32]⟩ w hr.1 hc (by unfold maxLen at hcm; omega) hin (fun x hx => by have := hr.2.1 x hx; omega) (by decide) (fun j b hb => by
    have hb' : ([0, 32] : List UInt8)[j]? = some b := hb
    have h2 : j < 2 := (List.getElem?_eq_some_iff.1 hb').1
    have : j = 0 ∨ j = 1 := by omega
    rcases this with rfl | rfl <;> (injection hb' with hb'; subst hb'; decide))).mono ?_
  rintro e w' ⟨rfl, hb⟩
  refine ⟨?_, hb⟩
  have hd : (⟨#[0, 32]⟩ : ByteArray).data.toList = [0, 32] := rfl
  rw [hd]
  have hle : (trimS (bytesOf zs) [0, 32]).length ≤ (trimRightS (bytesOf zs) [0, 32]).length := by
    unfold trimS trimLeftS
    exact (List.dropWhile_suffix _).length_le
  generalize (trimRightS (bytesOf zs) [0, 32]).length = r at *
  generalize (trimS (bytesOf zs) [0, 32]).length = t at *
  unfold leftV
  split
  · rename_i h
    refine ⟨none, 0, 0, rfl, ?_⟩
    rw [decide_eq_false (by omega), decide_eq_false (by omega)]
  · rename_i h
    unfold fromV
    refine ⟨_, _, _, rfl, ?_⟩
    rw [show r - (r - t) = t by omega]

set_option maxRecDepth 100000 in
theorem another_any (A : Option Addr) (n c : Nat) (zs : List Int) (w : World) (B : Nat) (hr : Rd w B A n zs) (hB : B ≤ w.heap.size) (hs : n ≤ 65536) :
    Calls Tryz.prog 42 #[.slice A n c] w fun e w' => e = .returned (.bool (M.toldOk zs && !M.right zs)) ∧ Below w.heap.size w w' := by
  have HT := hid (told_any A n c zs w B hr hB)
  have HR := hid (fun W (hW : Below w.heap.size w W) => right_any A n c zs W B (hr.keep fun p hp => hW.cell (Nat.lt_of_lt_of_le hp hB)) (Nat.le_trans hB hW.size) hs)
  clear hr hB
  generalize M.toldOk zs = b1 at *
  generalize M.right zs = b2 at *
  go_enter Tryz.func42, Tryz.ntmps42
  go_wp2_with fail
  (with_reducible refine HT.out.mono ?_)
  rintro e w1 ⟨rfl, h1⟩
  have H1 := hid h1
  clear h1
  cases b1
  · go_wp2_with fail
    go_ret
    exact ⟨rfl, H1.out⟩
  · go_wp2_with fail
    (with_reducible refine (HR.out _ H1.out).mono ?_)
    rintro e w2 ⟨rfl, h2⟩
    have H2 := hid (H1.out.trans (h2.mono H1.out.size))
    clear h2
    go_wp2_with fail
    go_ret
    exact ⟨rfl, H2.out⟩

set_option maxRecDepth 100000 in
theorem tellsWay_any (A : Option Addr) (n c : Nat) (zs : List Int) (w : World) (B : Nat) (hr : Rd w B A n zs) (hc : n ≤ c) (hcm : c ≤ maxLen) (hmg : MG w) :
    Calls Tryz.prog 43 #[.slice A n c] w fun e w' => e = .returned (.bool (M.wayIs zs)) ∧ w = w' := by
  have HT := hid (way_any A n c zs w B hr hc hcm hmg)
  have HE := hid (show M.wayIs zs = ((M.way zs).isSome && (wayN zs != 0)) from rfl)
  clear hr hc hcm hmg
  generalize (M.way zs).isSome = b1 at *
  generalize wayN zs = v at *
  go_enter Tryz.func43, Tryz.ntmps43
  go_wp2_with fail
  (with_reducible refine HT.out.mono ?_)
  rintro e w1 ⟨rfl, rfl⟩
  cases b1
  · go_wp2_with fail
    go_ret
    exact ⟨by rw [HE.out]; rfl, rfl⟩
  · go_wp2_with fail
    go_ret
    exact ⟨by rw [HE.out]; rfl, rfl⟩

set_option maxRecDepth 100000 in
theorem tellsKind_any (b off c : Nat) (zs : List Int) (w : World) (B : Nat) (hr : Rd w B (some ⟨b, off, none⟩) 512 zs) :
    Calls Tryz.prog 44 #[.slice (some ⟨b, off, none⟩) 512 c] w fun e w' => e = .returned (.bool (M.known (M.byt zs 156))) ∧ w = w' := by
  obtain ⟨b', off', z, e, _, _, _, hz, hcell⟩ := hr.at_ (k := 156) (by decide)
  injection e with e
  injection e with e1 e2
  subst e1 e2
  have HE := hid (show M.byt zs 156 = z by unfold M.byt; rw [List.getD_eq_getElem?_getD, hz]; rfl)
  clear hr hz
  go_enter Tryz.func44, Tryz.ntmps44
  go_wp2_with fail
  (with_reducible refine (known_any z _).mono ?_)
  rintro e w9 ⟨rfl, rfl⟩
  go_wp2_with fail
  go_ret
  exact ⟨by rw [HE.out]; rfl, rfl⟩

set_option maxRecDepth 100000 in
theorem tellsName_any (b off c : Nat) (zs : List Int) (w : World) (hr : Rd w w.heap.size (some ⟨b, off, none⟩) 512 zs) (hc : 512 ≤ c) (hcm : c ≤ maxLen) :
    Calls Tryz.prog 45 #[.slice (some ⟨b, off, none⟩) 512 c] w fun e w' => e = .returned (.bool (M.nameIs zs)) ∧ Below w.heap.size w w' := by
  have hsub := hr.sub (a := 0) (m := 100) (by decide)
  have hcut := S.cut_any (some ⟨b, off, none⟩) 100 c (M.toB (M.sub zs 0 100)) w (by rw [M.ints_toB (M.sub_bd hr.bd)]; exact hsub) (by omega) (by decide) (fun h => nomatch h)
  have HC := hid hcut
  have HE := hid (show M.nameIs zs = (!((⟨(S.M.cut (M.toB (M.sub zs 0 100))).toArray⟩ : ByteArray).toList == []) && S.M.plain (S.M.cut (M.toB (M.sub zs 0 100)))) by
    show (!((M.txt zs 0 100).toList == []) && S.M.plain (M.txt zs 0 100).data.toList) = _
    unfold M.txt
    rfl)
  clear hr hsub hcut
  unfold maxLen at hcm
  generalize S.M.cut (M.toB (M.sub zs 0 100)) = l at *
  have hpl := S.plain_any (⟨l.toArray⟩ : ByteArray)
  rw [show (⟨l.toArray⟩ : ByteArray).data.toList = l from rfl] at hpl
  have HP := hid hpl
  clear hpl
  generalize (⟨l.toArray⟩ : ByteArray) = s at *
  go_enter Tryz.func45, Tryz.ntmps45
  go_wp2_with fail
  (with_reducible refine HC.out.mono ?_)
  rintro e w1 ⟨rfl, h1⟩
  have H1 := hid h1
  clear h1
  cases hb : (s.toList == [])
  · go_wp2_with fail
    (with_reducible refine (HP.out _).mono ?_)
    rintro e w2 ⟨rfl, h2⟩
    have H2 := hid (H1.out.trans (h2.mono H1.out.size))
    clear h2
    go_wp2_with fail
    go_ret
    exact ⟨by rw [HE.out, hb]; rfl, H2.out⟩
  · go_wp2_with fail
    go_ret
    exact ⟨by rw [HE.out, hb]; rfl, H1.out⟩

set_option maxRecDepth 100000 in
/-- A field of numbers. -/
theorem tellsNum_any (a m p q : Nat) (b off c : Nat) (zs : List Int) (w : World) (hr : Rd w w.heap.size (some ⟨b, off, none⟩) 512 zs) (hc : 512 ≤ c) (hcm : c ≤ maxLen) (h0 : 0 < a) (hm : 0 < m) (ham : a + m ≤ 512)
    (hp : w.cell? ⟨p, 0, none⟩ = some (.int .i64 (a : Int))) (hq : w.cell? ⟨q, 0, none⟩ = some (.int .i64 (m : Int))) :
    Calls Tryz.prog 72 #[.slice (some ⟨b, off, none⟩) 512 c, .pointer (some ⟨p, 0, none⟩), .pointer (some ⟨q, 0, none⟩)] w fun e w' => e = .returned (.bool (M.numIs zs a m)) ∧ Below w.heap.size w w' := by
  have hsub := hr.sub (a := a) (m := m) ham
  have HP := hid (parse_any (some ⟨b, off + a, none⟩) m (c - a) (M.sub zs a m) w w.heap.size hsub (by omega) (by unfold maxLen at *; omega))
  have HT := hid (trim_any (some ⟨b, off + a, none⟩) m (c - a) (M.sub zs a m) w hsub (by omega) (by unfold maxLen at *; omega))
  have HE := hid (show M.numIs zs a m = (parOk (M.sub zs a m) && decide (0 < (trimS (bytesOf (M.sub zs a m)) [0, 32]).length)) by rw [M.has_eq hr.bd]; rfl)
  have hw1 : IntKind.i64.wrap ((a : Int) + (m : Int)) = ((a + m : Nat) : Int) := by rw [IntWalk.i64_in _ (by omega)]; omega
  clear hr hsub
  unfold maxLen at hcm
  generalize parOk (M.sub zs a m) = b1 at *
  generalize parN (M.sub zs a m) = v at *
  generalize decide (0 < (trimS (bytesOf (M.sub zs a m)) [0, 32]).length) = b2 at *
  go_enter Tryz.func72, Tryz.ntmps72
  have hca : ¬ c - a = 0 := by omega
  have hca2 : ¬ c = a := by omega
  go_wp2_with fail
  (with_reducible refine HP.out.mono ?_)
  rintro e w1 ⟨rfl, rfl⟩
  cases b1
  · go_wp2_with fail
    go_ret
    exact ⟨by rw [HE.out]; rfl, Below.refl _ _⟩
  · go_wp2_with fail
    (with_reducible refine HT.out.mono ?_)
    rintro e w2 ⟨⟨A', k, c', rfl, hk⟩, h2⟩
    have H2 := hid h2
    have HK := hid hk
    clear hk h2
    go_wp2_with fail
    go_ret
    exact ⟨by rw [HE.out, ← HK.out]; simp, H2.out⟩
end Go.Proofs.YtkpnhggpcpjddaaGreatDoor

/-! The table of signs. -/
namespace Go.Proofs.YtkpnhggpcpjddaaGreatDoor
open Go.RowKit Go.Lib

def fnV (f : Nat) : Value := .func (.func f) #[] #[]
/-- What says of a field, so wide, whether a block has a number there: its two numbers lie in blocks p and q. -/
def numV (p q : Nat) : Value := .func (.func 72) #[] #[.pointer (some ⟨p, 0, none⟩), .pointer (some ⟨q, 0, none⟩)]
def signsV (p1 q1 p2 q2 p3 q3 p4 q4 p5 q5 : Nat) : Array Value :=
  #[.int .i64 4, fnV 41, .int .i64 1, fnV 42, .int .i64 3, fnV 43, .int .i64 1, fnV 44, .int .i64 2, fnV 45,
    .int .i64 1, numV p1 q1, .int .i64 1, numV p2 q2, .int .i64 1, numV p3 q3, .int .i64 1, numV p4 q4, .int .i64 1, numV p5 q5]
theorem signsV_one (p1 q1 p2 q2 p3 q3 p4 q4 p5 q5 : Nat) : (signsV p1 q1 p2 q2 p3 q3 p4 q4 p5 q5).all (·.oneCell') = true := by simp [signsV, fnV, numV, Value.oneCell']
theorem signs_size : (Tryz.prog.info? 39).map (·.size) = some 20 := by kernel_rfl
/-- The numbers of a field lie there. -/
def NumC (w : World) (p q a m : Nat) : Prop := w.cell? ⟨p, 0, none⟩ = some (.int .i64 (a : Int)) ∧ w.cell? ⟨q, 0, none⟩ = some (.int .i64 (m : Int))
theorem NumC.below {w w' : World} {p q a m : Nat} (h : NumC w p q a m) (hb : Below w.heap.size w w') : NumC w' p q a m :=
  ⟨(hb.cell (p := ⟨p, 0, none⟩) (World.block_lt_of_cell? _ _ h.1)).trans h.1, (hb.cell (p := ⟨q, 0, none⟩) (World.block_lt_of_cell? _ _ h.2)).trans h.2⟩

theorem NumC.row {w : World} {g p q a m : Nat} (h : NumC w p q a m) (hp : p ≠ g) (hq : q ≠ g) (cs : Array Value) : NumC (w.setRow g cs) p q a m :=
  ⟨(World.cell?_of_block (setRow_other w g p cs hp)).trans h.1, (World.cell?_of_block (setRow_other w g q cs hq)).trans h.2⟩

set_option maxRecDepth 100000 in
theorem tellsNumber_any (a m : Nat) (x y : Int) (hx : x = a) (hy : y = m) (w : World) :
    Calls Tryz.prog 46 #[.int .i64 x, .int .i64 y] w fun e w' => ∃ p q, e = .returned (.func (.func 72) #[] #[.pointer (some ⟨p, 0, none⟩), .pointer (some ⟨q, 0, none⟩)]) ∧ NumC w' p q a m ∧ (w.heap.size ≤ p ∧ w.heap.size ≤ q) ∧ Below w.heap.size w w' := by
  subst hx hy
  have hmf : ∀ (fn : Fn) (first cap : Array Value) (w : World), (Instr.makeFunc fn first cap).run Tryz.prog w = .ok (.func fn first cap) w := fun _ _ _ _ => rfl
  go_enter Tryz.func46, Tryz.ntmps46
  go_wp2
  go_ret
  refine ⟨w.heap.size, w.heap.size + 1, rfl, ⟨?_, ?_⟩, ⟨Nat.le_refl _, Nat.le_succ _⟩, ((Below.refl _ _).alloc (Nat.le_refl _) _).alloc (by simp) _⟩
  · rw [cell_of_row _ _ 0 _ _ (0, 0) ((Below.heap_alloc _ _ _ (by simp only [World.size_alloc]; omega)).trans (heap_alloc_new w _))]
    rfl
  · have h := heap_alloc_new (w.alloc (.cells #[.int .i64 (a : Int)] 3)) (.cells #[.int .i64 (m : Int)] 3)
    rw [World.size_alloc] at h
    rw [cell_of_row _ _ 0 _ _ (0, 0) h]
    rfl

set_option maxRecDepth 100000 in
set_option maxHeartbeats 2000000 in
theorem signs_any (w : World) :
    Calls Tryz.prog 18 #[] w fun e w' => ∃ p1 q1 p2 q2 p3 q3 p4 q4 p5 q5, e = .returned (.agg (signsV p1 q1 p2 q2 p3 q3 p4 q4 p5 q5)) ∧
      (NumC w' p1 q1 100 8 ∧ NumC w' p2 q2 108 8 ∧ NumC w' p3 q3 116 8 ∧ NumC w' p4 q4 124 12 ∧ NumC w' p5 q5 136 12) ∧ Below w.heap.size w w' := by
  have HT := hid tellsNumber_any
  go_enter Tryz.func18, Tryz.ntmps18
  go_wp2_with fail
  have HA := hid (heap_alloc_new w (.cells #[.int .i64 0, .nilFunc, .int .i64 0, .nilFunc, .int .i64 0, .nilFunc, .int .i64 0, .nilFunc, .int .i64 0, .nilFunc, .int .i64 0, .nilFunc, .int .i64 0, .nilFunc, .int .i64 0, .nilFunc, .int .i64 0, .nilFunc, .int .i64 0, .nilFunc] 39))
  have B0 := hid ((Below.refl _ w).alloc (Nat.le_refl _) (.cells #[.int .i64 0, .nilFunc, .int .i64 0, .nilFunc, .int .i64 0, .nilFunc, .int .i64 0, .nilFunc, .int .i64 0, .nilFunc, .int .i64 0, .nilFunc, .int .i64 0, .nilFunc, .int .i64 0, .nilFunc, .int .i64 0, .nilFunc, .int .i64 0, .nilFunc] 39))
  have HS := hid (show w.heap.size < (w.alloc (.cells #[.int .i64 0, .nilFunc, .int .i64 0, .nilFunc, .int .i64 0, .nilFunc, .int .i64 0, .nilFunc, .int .i64 0, .nilFunc, .int .i64 0, .nilFunc, .int .i64 0, .nilFunc, .int .i64 0, .nilFunc, .int .i64 0, .nilFunc, .int .i64 0, .nilFunc] 39)).heap.size by simp)
  generalize w.alloc _ = w0 at *
  (with_reducible refine (show Calls Tryz.prog 46 #[.int .i64 100, .int .i64 8] w0 (fun e w' => ∃ p q, e = .returned (.func (.func 72) #[] #[.pointer (some ⟨p, 0, none⟩), .pointer (some ⟨q, 0, none⟩)]) ∧ NumC w' p q 100 8 ∧ (w0.heap.size ≤ p ∧ w0.heap.size ≤ q) ∧ Below w0.heap.size w0 w') from HT.out 100 8 100 8 rfl rfl w0).mono ?_)
  rintro e w1 ⟨p1, q1, rfl, n1, m1, b1⟩
  have M1 := hid m1
  have N1 := hid n1
  have C1 := hid b1
  clear n1 m1 b1
  go_wp2_with fail
  (with_reducible refine (show Calls Tryz.prog 46 #[.int .i64 108, .int .i64 8] w1 (fun e w' => ∃ p q, e = .returned (.func (.func 72) #[] #[.pointer (some ⟨p, 0, none⟩), .pointer (some ⟨q, 0, none⟩)]) ∧ NumC w' p q 108 8 ∧ (w1.heap.size ≤ p ∧ w1.heap.size ≤ q) ∧ Below w1.heap.size w1 w') from HT.out 108 8 108 8 rfl rfl w1).mono ?_)
  rintro e w2 ⟨p2, q2, rfl, n2, m2, b2⟩
  have M2 := hid m2
  have N2 := hid n2
  have C2 := hid b2
  clear n2 m2 b2
  go_wp2_with fail
  (with_reducible refine (show Calls Tryz.prog 46 #[.int .i64 116, .int .i64 8] w2 (fun e w' => ∃ p q, e = .returned (.func (.func 72) #[] #[.pointer (some ⟨p, 0, none⟩), .pointer (some ⟨q, 0, none⟩)]) ∧ NumC w' p q 116 8 ∧ (w2.heap.size ≤ p ∧ w2.heap.size ≤ q) ∧ Below w2.heap.size w2 w') from HT.out 116 8 116 8 rfl rfl w2).mono ?_)
  rintro e w3 ⟨p3, q3, rfl, n3, m3, b3⟩
  have M3 := hid m3
  have N3 := hid n3
  have C3 := hid b3
  clear n3 m3 b3
  go_wp2_with fail
  (with_reducible refine (show Calls Tryz.prog 46 #[.int .i64 124, .int .i64 12] w3 (fun e w' => ∃ p q, e = .returned (.func (.func 72) #[] #[.pointer (some ⟨p, 0, none⟩), .pointer (some ⟨q, 0, none⟩)]) ∧ NumC w' p q 124 12 ∧ (w3.heap.size ≤ p ∧ w3.heap.size ≤ q) ∧ Below w3.heap.size w3 w') from HT.out 124 12 124 12 rfl rfl w3).mono ?_)
  rintro e w4 ⟨p4, q4, rfl, n4, m4, b4⟩
  have M4 := hid m4
  have N4 := hid n4
  have C4 := hid b4
  clear n4 m4 b4
  go_wp2_with fail
  (with_reducible refine (show Calls Tryz.prog 46 #[.int .i64 136, .int .i64 12] w4 (fun e w' => ∃ p q, e = .returned (.func (.func 72) #[] #[.pointer (some ⟨p, 0, none⟩), .pointer (some ⟨q, 0, none⟩)]) ∧ NumC w' p q 136 12 ∧ (w4.heap.size ≤ p ∧ w4.heap.size ≤ q) ∧ Below w4.heap.size w4 w') from HT.out 136 12 136 12 rfl rfl w4).mono ?_)
  rintro e w5 ⟨p5, q5, rfl, n5, m5, b5⟩
  have M5 := hid m5
  have N5 := hid n5
  have C5 := hid b5
  clear n5 m5 b5
  have D4 := hid (C4.out.trans (C5.out.mono C4.out.size))
  have D3 := hid (C3.out.trans (D4.out.mono C3.out.size))
  have D2 := hid (C2.out.trans (D3.out.mono C2.out.size))
  have D1 := hid (C1.out.trans (D2.out.mono C1.out.size))
  have HR := hid ((D1.out.block w.heap.size HS.out).trans HA.out)
  have BB := hid (B0.out.trans (D1.out.mono B0.out.size))
  have X1 := hid (N1.out.below D2.out)
  have X2 := hid (N2.out.below D3.out)
  have X3 := hid (N3.out.below D4.out)
  have X4 := hid (N4.out.below C5.out)
  go_wp2_with (refine wpList_store_row rfl 39 (.tmp 0) (.tmp 16) rfl w.heap.size (signsV p1 q1 p2 q2 p3 q3 p4 q4 p5 q5) (by simp [Act.eval]) (by simp [Act.eval, signsV, fnV, numV]) 39 _ HR.out signs_size rfl (signsV_one _ _ _ _ _ _ _ _ _ _) ?_)
  refine bodyPost_ret (results_row rfl rfl Tryz.underlying39 (by rfl) (setRow_heap _ _ _ _ _ _ HR.out) signs_size) rfl ⟨p1, q1, p2, q2, p3, q3, p4, q4, p5, q5, rfl, ?_, below_setRow BB.out (Nat.le_refl _) _⟩
  have hs := HS.out
  have s1 := C1.out.size
  have s2 := C2.out.size
  have s3 := C3.out.size
  have s4 := C4.out.size
  obtain ⟨m1, k1⟩ := M1.out
  obtain ⟨m2, k2⟩ := M2.out
  obtain ⟨m3, k3⟩ := M3.out
  obtain ⟨m4, k4⟩ := M4.out
  obtain ⟨m5, k5⟩ := M5.out
  exact ⟨X1.out.row (by omega) (by omega) _, X2.out.row (by omega) (by omega) _, X3.out.row (by omega) (by omega) _, X4.out.row (by omega) (by omega) _, N5.out.row (by omega) (by omega) _⟩
end Go.Proofs.YtkpnhggpcpjddaaGreatDoor

/-! How many points a block has. -/
namespace Go.Proofs.YtkpnhggpcpjddaaGreatDoor
open Go.RowKit Go.Lib

/-- A sign. -/
def sgnC (x : Int) (f : Value) : Array Value := #[.int .i64 x, f]
theorem sgn_cell (w : World) (x : Int) (f : Value) : (w.alloc (.cells (sgnC x f) 38)).cell? ⟨w.heap.size, 0, none⟩ = some (.int .i64 x) ∧ (w.alloc (.cells (sgnC x f) 38)).cell? ⟨w.heap.size, 1, none⟩ = some f := by
  have h := heap_alloc_new w (.cells (sgnC x f) 38)
  exact ⟨by rw [cell_of_row _ _ 0 _ _ (0, 0) h]; rfl, by rw [cell_of_row _ _ 1 _ _ (0, 0) h]; rfl⟩
theorem sign_size : (Tryz.prog.info? 38).map (·.size) = some 2 := by kernel_rfl
theorem sgn_new (w : World) (x : Int) (f : Value) (h : f.oneCell' = true) : (storeCells ⟨w.heap.size, 0, none⟩ (sgnC x f).toList 0).run Tryz.prog (w.alloc (.cells #[.int .i64 0, .nilFunc] 38)) = .ok () (w.alloc (.cells (sgnC x f) 38)) :=
  run_storeCells_new (P := Tryz.prog) w 38 #[.int .i64 0, .nilFunc] (sgnC x f) sign_size rfl (by cases f <;> first | (simp [sgnC, Value.oneCell'] <;> done) | cases h)
theorem signs_at0 (p1 q1 p2 q2 p3 q3 p4 q4 p5 q5 : Nat) (w : World) : (Instr.index 39 (.agg (signsV p1 q1 p2 q2 p3 q3 p4 q4 p5 q5)) (.int .i64 0)).run Tryz.prog w = .ok (.agg (sgnC 4 (.func (.func 41) #[] #[]))) w := by kernel_rfl
theorem signs_at1 (p1 q1 p2 q2 p3 q3 p4 q4 p5 q5 : Nat) (w : World) : (Instr.index 39 (.agg (signsV p1 q1 p2 q2 p3 q3 p4 q4 p5 q5)) (.int .i64 1)).run Tryz.prog w = .ok (.agg (sgnC 1 (.func (.func 42) #[] #[]))) w := by kernel_rfl
theorem signs_at2 (p1 q1 p2 q2 p3 q3 p4 q4 p5 q5 : Nat) (w : World) : (Instr.index 39 (.agg (signsV p1 q1 p2 q2 p3 q3 p4 q4 p5 q5)) (.int .i64 2)).run Tryz.prog w = .ok (.agg (sgnC 3 (.func (.func 43) #[] #[]))) w := by kernel_rfl
theorem signs_at3 (p1 q1 p2 q2 p3 q3 p4 q4 p5 q5 : Nat) (w : World) : (Instr.index 39 (.agg (signsV p1 q1 p2 q2 p3 q3 p4 q4 p5 q5)) (.int .i64 3)).run Tryz.prog w = .ok (.agg (sgnC 1 (.func (.func 44) #[] #[]))) w := by kernel_rfl
theorem signs_at4 (p1 q1 p2 q2 p3 q3 p4 q4 p5 q5 : Nat) (w : World) : (Instr.index 39 (.agg (signsV p1 q1 p2 q2 p3 q3 p4 q4 p5 q5)) (.int .i64 4)).run Tryz.prog w = .ok (.agg (sgnC 2 (.func (.func 45) #[] #[]))) w := by kernel_rfl
theorem signs_at5 (p1 q1 p2 q2 p3 q3 p4 q4 p5 q5 : Nat) (w : World) : (Instr.index 39 (.agg (signsV p1 q1 p2 q2 p3 q3 p4 q4 p5 q5)) (.int .i64 5)).run Tryz.prog w = .ok (.agg (sgnC 1 (.func (.func 72) #[] #[.pointer (some ⟨p1, 0, none⟩), .pointer (some ⟨q1, 0, none⟩)]))) w := by kernel_rfl
theorem signs_at6 (p1 q1 p2 q2 p3 q3 p4 q4 p5 q5 : Nat) (w : World) : (Instr.index 39 (.agg (signsV p1 q1 p2 q2 p3 q3 p4 q4 p5 q5)) (.int .i64 6)).run Tryz.prog w = .ok (.agg (sgnC 1 (.func (.func 72) #[] #[.pointer (some ⟨p2, 0, none⟩), .pointer (some ⟨q2, 0, none⟩)]))) w := by kernel_rfl
theorem signs_at7 (p1 q1 p2 q2 p3 q3 p4 q4 p5 q5 : Nat) (w : World) : (Instr.index 39 (.agg (signsV p1 q1 p2 q2 p3 q3 p4 q4 p5 q5)) (.int .i64 7)).run Tryz.prog w = .ok (.agg (sgnC 1 (.func (.func 72) #[] #[.pointer (some ⟨p3, 0, none⟩), .pointer (some ⟨q3, 0, none⟩)]))) w := by kernel_rfl
theorem signs_at8 (p1 q1 p2 q2 p3 q3 p4 q4 p5 q5 : Nat) (w : World) : (Instr.index 39 (.agg (signsV p1 q1 p2 q2 p3 q3 p4 q4 p5 q5)) (.int .i64 8)).run Tryz.prog w = .ok (.agg (sgnC 1 (.func (.func 72) #[] #[.pointer (some ⟨p4, 0, none⟩), .pointer (some ⟨q4, 0, none⟩)]))) w := by kernel_rfl
theorem signs_at9 (p1 q1 p2 q2 p3 q3 p4 q4 p5 q5 : Nat) (w : World) : (Instr.index 39 (.agg (signsV p1 q1 p2 q2 p3 q3 p4 q4 p5 q5)) (.int .i64 9)).run Tryz.prog w = .ok (.agg (sgnC 1 (.func (.func 72) #[] #[.pointer (some ⟨p5, 0, none⟩), .pointer (some ⟨q5, 0, none⟩)]))) w := by kernel_rfl

set_option maxRecDepth 100000 in
set_option maxHeartbeats 4000000 in
theorem points_go (b off c : Nat) (zs : List Int) (w : World) (hr : Rd w w.heap.size (some ⟨b, off, none⟩) 512 zs) (hc : 512 ≤ c) (hcm : c ≤ maxLen) (hmg : MG w) (hz : M.zero zs = false) :
    Calls Tryz.prog 8 #[.slice (some ⟨b, off, none⟩) 512 c] w fun e w' => e = .returned (.int .i64 (M.points zs)) ∧ Below w.heap.size w w' := by
  have HP := hid (M.points_yes hr.len hz)
  have HZ := hid (zero_any (some ⟨b, off, none⟩) 512 c zs w w.heap.size hr (Nat.le_refl _))
  rw [hz] at HZ
  have HRd := hid (fun (W : World) (hW : Below w.heap.size w W) => hr.below hW)
  have HMG := hid (fun (W : World) (hW : Below w.heap.size w W) => hmg.later hW)
  have HCC := hid (⟨hc, hcm⟩ : _ ∧ _)
  have HUB := hid (M.upto_bd zs)
  clear hr hmg hz hc hcm
  go_enter Tryz.func8, Tryz.ntmps8
  go_wp2_with fail
  (with_reducible refine HZ.out.mono ?_)
  rintro e w1 ⟨rfl, h1⟩
  have H1 := hid h1
  clear h1 HZ
  go_wp2_with fail
  (with_reducible refine (signs_any w1).mono ?_)
  rintro e w2 ⟨p1, q1, p2, q2, p3, q3, p4, q4, p5, q5, rfl, ⟨n1, n2, n3, n4, n5⟩, h2⟩
  have H2 := hid (H1.out.trans (h2.mono H1.out.size))
  have N1 := hid n1
  have N2 := hid n2
  have N3 := hid n3
  have N4 := hid n4
  have N5 := hid n5
  clear n1 n2 n3 n4 n5 h2 H1
  have C0 := hid (fun (W : World) (hW : Below w2.heap.size w2 W) => show Calls Tryz.prog 41 #[.slice (some ⟨b, off, none⟩) 512 c] W (fun e w' => e = .returned (.bool (M.sig zs 0)) ∧ Below W.heap.size W w') from by
    have hB := H2.out.trans (hW.mono H2.out.size)
    have hR := (HRd.out W hB).more hB.size
    exact (right_any _ 512 c zs W W.heap.size hR (Nat.le_refl _) (by decide)).mono (fun e w' h => h))
  have C1 := hid (fun (W : World) (hW : Below w2.heap.size w2 W) => show Calls Tryz.prog 42 #[.slice (some ⟨b, off, none⟩) 512 c] W (fun e w' => e = .returned (.bool (M.sig zs 1)) ∧ Below W.heap.size W w') from by
    have hB := H2.out.trans (hW.mono H2.out.size)
    have hR := (HRd.out W hB).more hB.size
    exact (another_any _ 512 c zs W W.heap.size hR (Nat.le_refl _) (by decide)).mono (fun e w' h => h))
  have C2 := hid (fun (W : World) (hW : Below w2.heap.size w2 W) => show Calls Tryz.prog 43 #[.slice (some ⟨b, off, none⟩) 512 c] W (fun e w' => e = .returned (.bool (M.sig zs 2)) ∧ Below W.heap.size W w') from by
    have hB := H2.out.trans (hW.mono H2.out.size)
    have hR := (HRd.out W hB).more hB.size
    exact (tellsWay_any _ 512 c zs W W.heap.size hR HCC.out.1 HCC.out.2 (HMG.out W hB)).mono (fun e w' h => ⟨h.1, h.2 ▸ Below.refl _ _⟩))
  have C3 := hid (fun (W : World) (hW : Below w2.heap.size w2 W) => show Calls Tryz.prog 44 #[.slice (some ⟨b, off, none⟩) 512 c] W (fun e w' => e = .returned (.bool (M.sig zs 3)) ∧ Below W.heap.size W w') from by
    have hB := H2.out.trans (hW.mono H2.out.size)
    have hR := (HRd.out W hB).more hB.size
    exact (tellsKind_any b off c zs W W.heap.size hR).mono (fun e w' h => ⟨h.1, h.2 ▸ Below.refl _ _⟩))
  have C4 := hid (fun (W : World) (hW : Below w2.heap.size w2 W) => show Calls Tryz.prog 45 #[.slice (some ⟨b, off, none⟩) 512 c] W (fun e w' => e = .returned (.bool (M.sig zs 4)) ∧ Below W.heap.size W w') from by
    have hB := H2.out.trans (hW.mono H2.out.size)
    have hR := (HRd.out W hB).more hB.size
    exact (tellsName_any b off c zs W hR HCC.out.1 HCC.out.2).mono (fun e w' h => h))
  have C5 := hid (fun (W : World) (hW : Below w2.heap.size w2 W) => show Calls Tryz.prog 72 #[.slice (some ⟨b, off, none⟩) 512 c, .pointer (some ⟨p1, 0, none⟩), .pointer (some ⟨q1, 0, none⟩)] W (fun e w' => e = .returned (.bool (M.sig zs 5)) ∧ Below W.heap.size W w') from by
    have hB := H2.out.trans (hW.mono H2.out.size)
    have hR := (HRd.out W hB).more hB.size
    exact (tellsNum_any 100 8 p1 q1 b off c zs W hR HCC.out.1 HCC.out.2 (by decide) (by decide) (by decide) (N1.out.below hW).1 (N1.out.below hW).2).mono (fun e w' h => h))
  have C6 := hid (fun (W : World) (hW : Below w2.heap.size w2 W) => show Calls Tryz.prog 72 #[.slice (some ⟨b, off, none⟩) 512 c, .pointer (some ⟨p2, 0, none⟩), .pointer (some ⟨q2, 0, none⟩)] W (fun e w' => e = .returned (.bool (M.sig zs 6)) ∧ Below W.heap.size W w') from by
    have hB := H2.out.trans (hW.mono H2.out.size)
    have hR := (HRd.out W hB).more hB.size
    exact (tellsNum_any 108 8 p2 q2 b off c zs W hR HCC.out.1 HCC.out.2 (by decide) (by decide) (by decide) (N2.out.below hW).1 (N2.out.below hW).2).mono (fun e w' h => h))
  have C7 := hid (fun (W : World) (hW : Below w2.heap.size w2 W) => show Calls Tryz.prog 72 #[.slice (some ⟨b, off, none⟩) 512 c, .pointer (some ⟨p3, 0, none⟩), .pointer (some ⟨q3, 0, none⟩)] W (fun e w' => e = .returned (.bool (M.sig zs 7)) ∧ Below W.heap.size W w') from by
    have hB := H2.out.trans (hW.mono H2.out.size)
    have hR := (HRd.out W hB).more hB.size
    exact (tellsNum_any 116 8 p3 q3 b off c zs W hR HCC.out.1 HCC.out.2 (by decide) (by decide) (by decide) (N3.out.below hW).1 (N3.out.below hW).2).mono (fun e w' h => h))
  have C8 := hid (fun (W : World) (hW : Below w2.heap.size w2 W) => show Calls Tryz.prog 72 #[.slice (some ⟨b, off, none⟩) 512 c, .pointer (some ⟨p4, 0, none⟩), .pointer (some ⟨q4, 0, none⟩)] W (fun e w' => e = .returned (.bool (M.sig zs 8)) ∧ Below W.heap.size W w') from by
    have hB := H2.out.trans (hW.mono H2.out.size)
    have hR := (HRd.out W hB).more hB.size
    exact (tellsNum_any 124 12 p4 q4 b off c zs W hR HCC.out.1 HCC.out.2 (by decide) (by decide) (by decide) (N4.out.below hW).1 (N4.out.below hW).2).mono (fun e w' h => h))
  have C9 := hid (fun (W : World) (hW : Below w2.heap.size w2 W) => show Calls Tryz.prog 72 #[.slice (some ⟨b, off, none⟩) 512 c, .pointer (some ⟨p5, 0, none⟩), .pointer (some ⟨q5, 0, none⟩)] W (fun e w' => e = .returned (.bool (M.sig zs 9)) ∧ Below W.heap.size W w') from by
    have hB := H2.out.trans (hW.mono H2.out.size)
    have hR := (HRd.out W hB).more hB.size
    exact (tellsNum_any 136 12 p5 q5 b off c zs W hR HCC.out.1 HCC.out.2 (by decide) (by decide) (by decide) (N5.out.below hW).1 (N5.out.below hW).2).mono (fun e w' h => h))
  clear HRd HMG HCC N1 N2 N3 N4 N5
  go_wp2_with fail
  go_loopw [3, 14] (fun v i wr => ∃ k : Nat, i = .int .i64 k ∧ k ≤ 10 ∧ v = .int .i64 (M.upto zs k) ∧ Hid (Below w2.heap.size w2 wr)) (fun _ i _ => 10 - (RowKit.intOf i).toNat)
  case atStart => exact ⟨0, rfl, by decide, rfl, hid (Below.refl _ _)⟩
  case round =>
    obtain ⟨k, rfl, hk, rfl, HB⟩ := hrel
    have hk' : k = 0 ∨ k = 1 ∨ k = 2 ∨ k = 3 ∨ k = 4 ∨ k = 5 ∨ k = 6 ∨ k = 7 ∨ k = 8 ∨ k = 9 ∨ k = 10 := by omega
    have hub := HUB.out k
    clear hk
    rcases hk' with rfl | rfl | rfl | rfl | rfl | rfl | rfl | rfl | rfl | rfl | rfl
    · have HQ := hid (show M.upto zs 1 = M.upto zs 0 + M.one (M.sig zs 0) 4 from rfl)
      have HX := C0
      have hub0 := hub.1
      have hub1 := hub.2
      clear hub C0 C1 C2 C3 C4 C5 C6 C7 C8 C9
      generalize M.upto zs 0 = v at *
      generalize M.sig zs 0 = bb at *
      have hix := signs_at0 p1 q1 p2 q2 p3 q3 p4 q4 p5 q5
      rw [show ((0 : Nat) : Int) = 0 from rfl]
      have hsn := sgn_new wr 4 (.func (.func 41) #[] #[]) rfl
      go_upto_region 7 with fail
      obtain ⟨c0, c1⟩ := sgn_cell wr 4 (.func (.func 41) #[] #[])
      have B1 := hid (HB.out.alloc HB.out.size (.cells (sgnC 4 (.func (.func 41) #[] #[])) 38))
      have hlt := hid (show wr.heap.size < (wr.alloc (.cells (sgnC 4 (.func (.func 41) #[] #[])) 38)).heap.size by simp)
      clear HB hix hsn
      generalize wr.alloc _ = w3 at *
      go_wp2_with fail
      (with_reducible refine (HX.out w3 B1.out).mono ?_)
      rintro e w4 ⟨rfl, h4⟩
      have c2 := (h4.cell (p := ⟨wr.heap.size, 0, none⟩) hlt.out).trans c0
      have B2 := hid (B1.out.trans (h4.mono B1.out.size))
      clear h4 c0 c1 HX
      cases bb
      · go_wp2_with fail
        go_roundw
        case rel => exact ⟨1, rfl, by decide, by rw [HQ.out]; simp [M.one], B2⟩
        case measure => simp [RowKit.intOf]
      · go_wp2_with fail
        go_roundw
        case rel => exact ⟨1, rfl, by decide, by rw [HQ.out]; rfl, B2⟩
        case measure => simp [RowKit.intOf]
    · have HQ := hid (show M.upto zs 2 = M.upto zs 1 + M.one (M.sig zs 1) 1 from rfl)
      have HX := C1
      have hub0 := hub.1
      have hub1 := hub.2
      clear hub C0 C1 C2 C3 C4 C5 C6 C7 C8 C9
      generalize M.upto zs 1 = v at *
      generalize M.sig zs 1 = bb at *
      have hix := signs_at1 p1 q1 p2 q2 p3 q3 p4 q4 p5 q5
      rw [show ((1 : Nat) : Int) = 1 from rfl]
      have hsn := sgn_new wr 1 (.func (.func 42) #[] #[]) rfl
      go_upto_region 7 with fail
      obtain ⟨c0, c1⟩ := sgn_cell wr 1 (.func (.func 42) #[] #[])
      have B1 := hid (HB.out.alloc HB.out.size (.cells (sgnC 1 (.func (.func 42) #[] #[])) 38))
      have hlt := hid (show wr.heap.size < (wr.alloc (.cells (sgnC 1 (.func (.func 42) #[] #[])) 38)).heap.size by simp)
      clear HB hix hsn
      generalize wr.alloc _ = w3 at *
      go_wp2_with fail
      (with_reducible refine (HX.out w3 B1.out).mono ?_)
      rintro e w4 ⟨rfl, h4⟩
      have c2 := (h4.cell (p := ⟨wr.heap.size, 0, none⟩) hlt.out).trans c0
      have B2 := hid (B1.out.trans (h4.mono B1.out.size))
      clear h4 c0 c1 HX
      cases bb
      · go_wp2_with fail
        go_roundw
        case rel => exact ⟨2, rfl, by decide, by rw [HQ.out]; simp [M.one], B2⟩
        case measure => simp [RowKit.intOf]
      · go_wp2_with fail
        go_roundw
        case rel => exact ⟨2, rfl, by decide, by rw [HQ.out]; rfl, B2⟩
        case measure => simp [RowKit.intOf]
    · have HQ := hid (show M.upto zs 3 = M.upto zs 2 + M.one (M.sig zs 2) 3 from rfl)
      have HX := C2
      have hub0 := hub.1
      have hub1 := hub.2
      clear hub C0 C1 C2 C3 C4 C5 C6 C7 C8 C9
      generalize M.upto zs 2 = v at *
      generalize M.sig zs 2 = bb at *
      have hix := signs_at2 p1 q1 p2 q2 p3 q3 p4 q4 p5 q5
      rw [show ((2 : Nat) : Int) = 2 from rfl]
      have hsn := sgn_new wr 3 (.func (.func 43) #[] #[]) rfl
      go_upto_region 7 with fail
      obtain ⟨c0, c1⟩ := sgn_cell wr 3 (.func (.func 43) #[] #[])
      have B1 := hid (HB.out.alloc HB.out.size (.cells (sgnC 3 (.func (.func 43) #[] #[])) 38))
      have hlt := hid (show wr.heap.size < (wr.alloc (.cells (sgnC 3 (.func (.func 43) #[] #[])) 38)).heap.size by simp)
      clear HB hix hsn
      generalize wr.alloc _ = w3 at *
      go_wp2_with fail
      (with_reducible refine (HX.out w3 B1.out).mono ?_)
      rintro e w4 ⟨rfl, h4⟩
      have c2 := (h4.cell (p := ⟨wr.heap.size, 0, none⟩) hlt.out).trans c0
      have B2 := hid (B1.out.trans (h4.mono B1.out.size))
      clear h4 c0 c1 HX
      cases bb
      · go_wp2_with fail
        go_roundw
        case rel => exact ⟨3, rfl, by decide, by rw [HQ.out]; simp [M.one], B2⟩
        case measure => simp [RowKit.intOf]
      · go_wp2_with fail
        go_roundw
        case rel => exact ⟨3, rfl, by decide, by rw [HQ.out]; rfl, B2⟩
        case measure => simp [RowKit.intOf]
    · have HQ := hid (show M.upto zs 4 = M.upto zs 3 + M.one (M.sig zs 3) 1 from rfl)
      have HX := C3
      have hub0 := hub.1
      have hub1 := hub.2
      clear hub C0 C1 C2 C3 C4 C5 C6 C7 C8 C9
      generalize M.upto zs 3 = v at *
      generalize M.sig zs 3 = bb at *
      have hix := signs_at3 p1 q1 p2 q2 p3 q3 p4 q4 p5 q5
      rw [show ((3 : Nat) : Int) = 3 from rfl]
      have hsn := sgn_new wr 1 (.func (.func 44) #[] #[]) rfl
      go_upto_region 7 with fail
      obtain ⟨c0, c1⟩ := sgn_cell wr 1 (.func (.func 44) #[] #[])
      have B1 := hid (HB.out.alloc HB.out.size (.cells (sgnC 1 (.func (.func 44) #[] #[])) 38))
      have hlt := hid (show wr.heap.size < (wr.alloc (.cells (sgnC 1 (.func (.func 44) #[] #[])) 38)).heap.size by simp)
      clear HB hix hsn
      generalize wr.alloc _ = w3 at *
      go_wp2_with fail
      (with_reducible refine (HX.out w3 B1.out).mono ?_)
      rintro e w4 ⟨rfl, h4⟩
      have c2 := (h4.cell (p := ⟨wr.heap.size, 0, none⟩) hlt.out).trans c0
      have B2 := hid (B1.out.trans (h4.mono B1.out.size))
      clear h4 c0 c1 HX
      cases bb
      · go_wp2_with fail
        go_roundw
        case rel => exact ⟨4, rfl, by decide, by rw [HQ.out]; simp [M.one], B2⟩
        case measure => simp [RowKit.intOf]
      · go_wp2_with fail
        go_roundw
        case rel => exact ⟨4, rfl, by decide, by rw [HQ.out]; rfl, B2⟩
        case measure => simp [RowKit.intOf]
    · have HQ := hid (show M.upto zs 5 = M.upto zs 4 + M.one (M.sig zs 4) 2 from rfl)
      have HX := C4
      have hub0 := hub.1
      have hub1 := hub.2
      clear hub C0 C1 C2 C3 C4 C5 C6 C7 C8 C9
      generalize M.upto zs 4 = v at *
      generalize M.sig zs 4 = bb at *
      have hix := signs_at4 p1 q1 p2 q2 p3 q3 p4 q4 p5 q5
      rw [show ((4 : Nat) : Int) = 4 from rfl]
      have hsn := sgn_new wr 2 (.func (.func 45) #[] #[]) rfl
      go_upto_region 7 with fail
      obtain ⟨c0, c1⟩ := sgn_cell wr 2 (.func (.func 45) #[] #[])
      have B1 := hid (HB.out.alloc HB.out.size (.cells (sgnC 2 (.func (.func 45) #[] #[])) 38))
      have hlt := hid (show wr.heap.size < (wr.alloc (.cells (sgnC 2 (.func (.func 45) #[] #[])) 38)).heap.size by simp)
      clear HB hix hsn
      generalize wr.alloc _ = w3 at *
      go_wp2_with fail
      (with_reducible refine (HX.out w3 B1.out).mono ?_)
      rintro e w4 ⟨rfl, h4⟩
      have c2 := (h4.cell (p := ⟨wr.heap.size, 0, none⟩) hlt.out).trans c0
      have B2 := hid (B1.out.trans (h4.mono B1.out.size))
      clear h4 c0 c1 HX
      cases bb
      · go_wp2_with fail
        go_roundw
        case rel => exact ⟨5, rfl, by decide, by rw [HQ.out]; simp [M.one], B2⟩
        case measure => simp [RowKit.intOf]
      · go_wp2_with fail
        go_roundw
        case rel => exact ⟨5, rfl, by decide, by rw [HQ.out]; rfl, B2⟩
        case measure => simp [RowKit.intOf]
    · have HQ := hid (show M.upto zs 6 = M.upto zs 5 + M.one (M.sig zs 5) 1 from rfl)
      have HX := C5
      have hub0 := hub.1
      have hub1 := hub.2
      clear hub C0 C1 C2 C3 C4 C5 C6 C7 C8 C9
      generalize M.upto zs 5 = v at *
      generalize M.sig zs 5 = bb at *
      have hix := signs_at5 p1 q1 p2 q2 p3 q3 p4 q4 p5 q5
      rw [show ((5 : Nat) : Int) = 5 from rfl]
      have hsn := sgn_new wr 1 (.func (.func 72) #[] #[.pointer (some ⟨p1, 0, none⟩), .pointer (some ⟨q1, 0, none⟩)]) rfl
      go_upto_region 7 with fail
      obtain ⟨c0, c1⟩ := sgn_cell wr 1 (.func (.func 72) #[] #[.pointer (some ⟨p1, 0, none⟩), .pointer (some ⟨q1, 0, none⟩)])
      have B1 := hid (HB.out.alloc HB.out.size (.cells (sgnC 1 (.func (.func 72) #[] #[.pointer (some ⟨p1, 0, none⟩), .pointer (some ⟨q1, 0, none⟩)])) 38))
      have hlt := hid (show wr.heap.size < (wr.alloc (.cells (sgnC 1 (.func (.func 72) #[] #[.pointer (some ⟨p1, 0, none⟩), .pointer (some ⟨q1, 0, none⟩)])) 38)).heap.size by simp)
      clear HB hix hsn
      generalize wr.alloc _ = w3 at *
      go_wp2_with fail
      (with_reducible refine (HX.out w3 B1.out).mono ?_)
      rintro e w4 ⟨rfl, h4⟩
      have c2 := (h4.cell (p := ⟨wr.heap.size, 0, none⟩) hlt.out).trans c0
      have B2 := hid (B1.out.trans (h4.mono B1.out.size))
      clear h4 c0 c1 HX
      cases bb
      · go_wp2_with fail
        go_roundw
        case rel => exact ⟨6, rfl, by decide, by rw [HQ.out]; simp [M.one], B2⟩
        case measure => simp [RowKit.intOf]
      · go_wp2_with fail
        go_roundw
        case rel => exact ⟨6, rfl, by decide, by rw [HQ.out]; rfl, B2⟩
        case measure => simp [RowKit.intOf]
    · have HQ := hid (show M.upto zs 7 = M.upto zs 6 + M.one (M.sig zs 6) 1 from rfl)
      have HX := C6
      have hub0 := hub.1
      have hub1 := hub.2
      clear hub C0 C1 C2 C3 C4 C5 C6 C7 C8 C9
      generalize M.upto zs 6 = v at *
      generalize M.sig zs 6 = bb at *
      have hix := signs_at6 p1 q1 p2 q2 p3 q3 p4 q4 p5 q5
      rw [show ((6 : Nat) : Int) = 6 from rfl]
      have hsn := sgn_new wr 1 (.func (.func 72) #[] #[.pointer (some ⟨p2, 0, none⟩), .pointer (some ⟨q2, 0, none⟩)]) rfl
      go_upto_region 7 with fail
      obtain ⟨c0, c1⟩ := sgn_cell wr 1 (.func (.func 72) #[] #[.pointer (some ⟨p2, 0, none⟩), .pointer (some ⟨q2, 0, none⟩)])
      have B1 := hid (HB.out.alloc HB.out.size (.cells (sgnC 1 (.func (.func 72) #[] #[.pointer (some ⟨p2, 0, none⟩), .pointer (some ⟨q2, 0, none⟩)])) 38))
      have hlt := hid (show wr.heap.size < (wr.alloc (.cells (sgnC 1 (.func (.func 72) #[] #[.pointer (some ⟨p2, 0, none⟩), .pointer (some ⟨q2, 0, none⟩)])) 38)).heap.size by simp)
      clear HB hix hsn
      generalize wr.alloc _ = w3 at *
      go_wp2_with fail
      (with_reducible refine (HX.out w3 B1.out).mono ?_)
      rintro e w4 ⟨rfl, h4⟩
      have c2 := (h4.cell (p := ⟨wr.heap.size, 0, none⟩) hlt.out).trans c0
      have B2 := hid (B1.out.trans (h4.mono B1.out.size))
      clear h4 c0 c1 HX
      cases bb
      · go_wp2_with fail
        go_roundw
        case rel => exact ⟨7, rfl, by decide, by rw [HQ.out]; simp [M.one], B2⟩
        case measure => simp [RowKit.intOf]
      · go_wp2_with fail
        go_roundw
        case rel => exact ⟨7, rfl, by decide, by rw [HQ.out]; rfl, B2⟩
        case measure => simp [RowKit.intOf]
    · have HQ := hid (show M.upto zs 8 = M.upto zs 7 + M.one (M.sig zs 7) 1 from rfl)
      have HX := C7
      have hub0 := hub.1
      have hub1 := hub.2
      clear hub C0 C1 C2 C3 C4 C5 C6 C7 C8 C9
      generalize M.upto zs 7 = v at *
      generalize M.sig zs 7 = bb at *
      have hix := signs_at7 p1 q1 p2 q2 p3 q3 p4 q4 p5 q5
      rw [show ((7 : Nat) : Int) = 7 from rfl]
      have hsn := sgn_new wr 1 (.func (.func 72) #[] #[.pointer (some ⟨p3, 0, none⟩), .pointer (some ⟨q3, 0, none⟩)]) rfl
      go_upto_region 7 with fail
      obtain ⟨c0, c1⟩ := sgn_cell wr 1 (.func (.func 72) #[] #[.pointer (some ⟨p3, 0, none⟩), .pointer (some ⟨q3, 0, none⟩)])
      have B1 := hid (HB.out.alloc HB.out.size (.cells (sgnC 1 (.func (.func 72) #[] #[.pointer (some ⟨p3, 0, none⟩), .pointer (some ⟨q3, 0, none⟩)])) 38))
      have hlt := hid (show wr.heap.size < (wr.alloc (.cells (sgnC 1 (.func (.func 72) #[] #[.pointer (some ⟨p3, 0, none⟩), .pointer (some ⟨q3, 0, none⟩)])) 38)).heap.size by simp)
      clear HB hix hsn
      generalize wr.alloc _ = w3 at *
      go_wp2_with fail
      (with_reducible refine (HX.out w3 B1.out).mono ?_)
      rintro e w4 ⟨rfl, h4⟩
      have c2 := (h4.cell (p := ⟨wr.heap.size, 0, none⟩) hlt.out).trans c0
      have B2 := hid (B1.out.trans (h4.mono B1.out.size))
      clear h4 c0 c1 HX
      cases bb
      · go_wp2_with fail
        go_roundw
        case rel => exact ⟨8, rfl, by decide, by rw [HQ.out]; simp [M.one], B2⟩
        case measure => simp [RowKit.intOf]
      · go_wp2_with fail
        go_roundw
        case rel => exact ⟨8, rfl, by decide, by rw [HQ.out]; rfl, B2⟩
        case measure => simp [RowKit.intOf]
    · have HQ := hid (show M.upto zs 9 = M.upto zs 8 + M.one (M.sig zs 8) 1 from rfl)
      have HX := C8
      have hub0 := hub.1
      have hub1 := hub.2
      clear hub C0 C1 C2 C3 C4 C5 C6 C7 C8 C9
      generalize M.upto zs 8 = v at *
      generalize M.sig zs 8 = bb at *
      have hix := signs_at8 p1 q1 p2 q2 p3 q3 p4 q4 p5 q5
      rw [show ((8 : Nat) : Int) = 8 from rfl]
      have hsn := sgn_new wr 1 (.func (.func 72) #[] #[.pointer (some ⟨p4, 0, none⟩), .pointer (some ⟨q4, 0, none⟩)]) rfl
      go_upto_region 7 with fail
      obtain ⟨c0, c1⟩ := sgn_cell wr 1 (.func (.func 72) #[] #[.pointer (some ⟨p4, 0, none⟩), .pointer (some ⟨q4, 0, none⟩)])
      have B1 := hid (HB.out.alloc HB.out.size (.cells (sgnC 1 (.func (.func 72) #[] #[.pointer (some ⟨p4, 0, none⟩), .pointer (some ⟨q4, 0, none⟩)])) 38))
      have hlt := hid (show wr.heap.size < (wr.alloc (.cells (sgnC 1 (.func (.func 72) #[] #[.pointer (some ⟨p4, 0, none⟩), .pointer (some ⟨q4, 0, none⟩)])) 38)).heap.size by simp)
      clear HB hix hsn
      generalize wr.alloc _ = w3 at *
      go_wp2_with fail
      (with_reducible refine (HX.out w3 B1.out).mono ?_)
      rintro e w4 ⟨rfl, h4⟩
      have c2 := (h4.cell (p := ⟨wr.heap.size, 0, none⟩) hlt.out).trans c0
      have B2 := hid (B1.out.trans (h4.mono B1.out.size))
      clear h4 c0 c1 HX
      cases bb
      · go_wp2_with fail
        go_roundw
        case rel => exact ⟨9, rfl, by decide, by rw [HQ.out]; simp [M.one], B2⟩
        case measure => simp [RowKit.intOf]
      · go_wp2_with fail
        go_roundw
        case rel => exact ⟨9, rfl, by decide, by rw [HQ.out]; rfl, B2⟩
        case measure => simp [RowKit.intOf]
    · have HQ := hid (show M.upto zs 10 = M.upto zs 9 + M.one (M.sig zs 9) 1 from rfl)
      have HX := C9
      have hub0 := hub.1
      have hub1 := hub.2
      clear hub C0 C1 C2 C3 C4 C5 C6 C7 C8 C9
      generalize M.upto zs 9 = v at *
      generalize M.sig zs 9 = bb at *
      have hix := signs_at9 p1 q1 p2 q2 p3 q3 p4 q4 p5 q5
      rw [show ((9 : Nat) : Int) = 9 from rfl]
      have hsn := sgn_new wr 1 (.func (.func 72) #[] #[.pointer (some ⟨p5, 0, none⟩), .pointer (some ⟨q5, 0, none⟩)]) rfl
      go_upto_region 7 with fail
      obtain ⟨c0, c1⟩ := sgn_cell wr 1 (.func (.func 72) #[] #[.pointer (some ⟨p5, 0, none⟩), .pointer (some ⟨q5, 0, none⟩)])
      have B1 := hid (HB.out.alloc HB.out.size (.cells (sgnC 1 (.func (.func 72) #[] #[.pointer (some ⟨p5, 0, none⟩), .pointer (some ⟨q5, 0, none⟩)])) 38))
      have hlt := hid (show wr.heap.size < (wr.alloc (.cells (sgnC 1 (.func (.func 72) #[] #[.pointer (some ⟨p5, 0, none⟩), .pointer (some ⟨q5, 0, none⟩)])) 38)).heap.size by simp)
      clear HB hix hsn
      generalize wr.alloc _ = w3 at *
      go_wp2_with fail
      (with_reducible refine (HX.out w3 B1.out).mono ?_)
      rintro e w4 ⟨rfl, h4⟩
      have c2 := (h4.cell (p := ⟨wr.heap.size, 0, none⟩) hlt.out).trans c0
      have B2 := hid (B1.out.trans (h4.mono B1.out.size))
      clear h4 c0 c1 HX
      cases bb
      · go_wp2_with fail
        go_roundw
        case rel => exact ⟨10, rfl, by decide, by rw [HQ.out]; simp [M.one], B2⟩
        case measure => simp [RowKit.intOf]
      · go_wp2_with fail
        go_roundw
        case rel => exact ⟨10, rfl, by decide, by rw [HQ.out]; rfl, B2⟩
        case measure => simp [RowKit.intOf]
    · have HE := hid (show M.points zs = M.upto zs 10 from HP.out)
      clear hub C0 C1 C2 C3 C4 C5 C6 C7 C8 C9
      generalize M.upto zs 10 = v at *
      rw [show ((10 : Nat) : Int) = 10 from rfl]
      go_wp2_with fail
      go_ret
      exact ⟨by rw [HE.out]; rfl, H2.out.trans (HB.out.mono H2.out.size)⟩
end Go.Proofs.YtkpnhggpcpjddaaGreatDoor

/-! Points, Header and Suspect of any bytes. -/
namespace Go.Proofs.YtkpnhggpcpjddaaGreatDoor
open Go.RowKit Go.Lib

set_option maxRecDepth 100000 in
set_option maxHeartbeats 1000000 in
theorem points_any (A : Option Addr) (n c : Nat) (zs : List Int) (w : World) (hr : Rd w w.heap.size A n zs) (hc : n ≤ c) (hcm : c ≤ maxLen) (hmg : MG w) :
    Calls Tryz.prog 8 #[.slice A n c] w fun e w' => e = .returned (.int .i64 (M.points zs)) ∧ Below w.heap.size w w' := by
  by_cases hn : n = 512
  · subst hn
    obtain ⟨b, off, rfl, _, _⟩ := hr.2.2 (by decide)
    cases hz : M.zero zs with
    | false => exact points_go b off c zs w hr hc hcm hmg hz
    | true =>
      have HP := hid (M.points_zero hz)
      have HZ := hid (zero_any (some ⟨b, off, none⟩) 512 c zs w w.heap.size hr (Nat.le_refl _))
      rw [hz] at HZ
      clear hr hc hcm hmg hz
      go_enter Tryz.func8, Tryz.ntmps8
      go_wp2_with fail
      (with_reducible refine HZ.out.mono ?_)
      rintro e w1 ⟨rfl, h1⟩
      have H1 := hid h1
      clear h1 HZ
      go_wp2_with fail
      go_ret
      exact ⟨by rw [HP.out]; rfl, H1.out⟩
  · have HP := hid (M.points_no (zs := zs) (by rw [hr.len]; exact hn))
    have hn1 : ((n : Int) == 512) = false := by rw [beq_eq_false_iff_ne]; omega
    have hn2 : ((n : Int) != 512) = true := by rw [bne_iff_ne]; omega
    clear hr hc hcm hmg hn
    go_enter Tryz.func8, Tryz.ntmps8
    go_wp2_with fail
    go_ret
    exact ⟨by rw [HP.out]; rfl, Below.refl _ _⟩

set_option maxRecDepth 100000 in
set_option maxHeartbeats 1000000 in
theorem isHead_any (A : Option Addr) (n c : Nat) (zs : List Int) (w : World) (hr : Rd w w.heap.size A n zs) (hc : n ≤ c) (hcm : c ≤ maxLen) (hs : n ≤ 65536) (hmg : MG w) :
    Calls Tryz.prog 9 #[.slice A n c] w fun e w' => e = .returned (.bool (M.isHead zs)) ∧ Below w.heap.size w w' := by
  have HP := hid (hparse_any A n c zs w hr hc hcm hs hmg)
  have HE := hid (show M.isHead zs = ((M.hparse zs).1 == 0) from rfl)
  clear hr hc hcm hs hmg
  generalize (M.hparse zs).1 = k at *
  generalize (M.hparse zs).2 = h at *
  go_enter Tryz.func9, Tryz.ntmps9
  go_wp2_with fail
  (with_reducible refine HP.out.mono ?_)
  rintro e w1 ⟨pv, rfl, hp, h1⟩
  obtain ⟨A1, c1, rfl, _, _⟩ := hp
  have H1 := hid h1
  clear h1 HP
  have hst := store_new w1 h A1 h.parts.length c1
  go_wp2_with fail
  go_ret
  exact ⟨by rw [HE.out]; rfl, H1.out.alloc H1.out.size _⟩

set_option maxRecDepth 100000 in
set_option maxHeartbeats 1000000 in
theorem isSus_any (A : Option Addr) (n c : Nat) (zs : List Int) (w : World) (hr : Rd w w.heap.size A n zs) (hc : n ≤ c) (hcm : c ≤ maxLen) (hs : n ≤ 65536) (hmg : MG w) :
    Calls Tryz.prog 10 #[.slice A n c] w fun e w' => e = .returned (.bool (M.isSus zs)) ∧ Below w.heap.size w w' := by
  have HH := hid (isHead_any A n c zs w hr hc hcm hs hmg)
  have HP := hid (fun (W : World) (hW : Below w.heap.size w W) => points_any A n c zs W ((hr.below hW).more hW.size) hc hcm (hmg.later hW))
  have HE := hid (show M.isSus zs = (!M.isHead zs && decide (6 ≤ M.points zs)) from rfl)
  clear hr hc hcm hs hmg
  generalize M.isHead zs = b at *
  generalize M.points zs = p at *
  go_enter Tryz.func10, Tryz.ntmps10
  go_wp2_with fail
  (with_reducible refine HH.out.mono ?_)
  rintro e w1 ⟨rfl, h1⟩
  have H1 := hid h1
  clear h1 HH
  cases b
  · go_wp2_with fail
    (with_reducible refine (HP.out _ H1.out).mono ?_)
    rintro e w2 ⟨rfl, h2⟩
    have H2 := hid (H1.out.trans (h2.mono H1.out.size))
    clear h2
    go_wp2_with fail
    go_ret
    exact ⟨by rw [HE.out]; rfl, H2.out⟩
  · go_wp2_with fail
    go_ret
    exact ⟨by rw [HE.out]; rfl, H1.out⟩
end Go.Proofs.YtkpnhggpcpjddaaGreatDoor
