/-
  The chapter's example of what agrees, and TieNames.
-/
import Derived.Test.YtcedcfagfklohaaTieA
import Derived.Test.YtcedcfagfklohaaKhHdBox
import Derived.IntWalk
set_option linter.unusedVariables false
set_option linter.unusedSimpArgs false
namespace Go.Proofs.Ytcedcfagfklohaa
open Go.RowKit Go.Lib
open Px (R2 tl)

namespace M
theorem merge_one {k v : List UInt8} (hv : v ≠ []) : Px.M.merge Px.ltB [(k, v)] [] = [(k, v)] := by
  cases v with
  | nil => exact absurd rfl hv
  | cons c t => rfl
theorem find_one (k v : List UInt8) (x : List UInt8) : Px.M.find [(k, v)] x = if k = x then some v else none := by
  rw [Px.M.find_cons, Px.M.find_nil, Option.none_or]
theorem agr_path {pre name link v : List UInt8} (hv : v ≠ []) : agr pre name link [(kPath, v)] = (pre == [] && name == v.take 100) := by
  unfold agr
  rw [merge_one hv, find_one, find_one, if_pos rfl, if_neg (show ¬ kPath = kLink by decide)]
  simp [fit1]
theorem agr_link {pre name link v : List UInt8} (hv : v ≠ []) : agr pre name link [(kLink, v)] = (link == v.take 100) := by
  unfold agr
  rw [merge_one hv, find_one, find_one, if_pos rfl, if_neg (show ¬ kLink = kPath by decide)]
  simp [fit1]
theorem agr_nil (pre name link : List UInt8) : agr pre name link [] = false := rfl
end M
theorem wl_load_row' {P : Program} {ops : Array Oper} {rest : List Oper} {o : Oper} {a : Act} {w : World} {Q : Exit → Act → World → Prop} (hw : Region.wanted o (yielded ops a.tmps) = true) (ty : TypeId) (x : Operand) (ho : o.op = .load ty x)
    (g : Nat) (hx : a.eval x = .pointer (some ⟨g, 0, none⟩)) (t : TypeId) (cs : Array Value) (fr : Nat × Nat) (d : TypeDesc) (hg : w.heap[g]? = some (.cells cs t fr))
    (hu : P.underlying ty = some d) (hd : (match d with | .struct _ | .array _ _ => true | _ => false) = true) (hi : (P.info? ty).map (·.size) = some cs.size)
    (h : wpList P ops Q rest (a.put o.dst (.agg cs)) w) : wpList P ops Q (o :: rest) a w := by
  unfold wpList
  rw [if_pos hw]
  left
  exact wp_load_row ty x ho g hx t cs fr d hg hu hd hi h
theorem rd_lit (w : World) (s t : ByteArray) : Px.RdR (w.alloc (.cells #[.string s, .string t] 24)) (w.alloc (.cells #[.string s, .string t] 24)).heap.size (some ⟨w.heap.size, 0, none⟩) [(s, t)] := fun _ => by
  have hn := World.alloc_heap_new w (.cells #[.string s, .string t] 24)
  refine ⟨w.heap.size, 0, rfl, by rw [World.size_alloc]; omega, fun k r hr => ?_⟩
  match k, hr with
  | 0, hr =>
    simp at hr
    subst hr
    constructor <;> (unfold World.cell?; rw [hn]; rfl)
theorem agrees_b (h : Hd.M.Hdr) (s t : ByteArray) (b : Bool) (W : World) (g c : Nat) (hs : s.size ≤ maxLen) (ht : t.size ≤ maxLen) (hr : Px.RdR W W.heap.size (some ⟨g, 0, none⟩) [(s, t)])
    (hb : M.agr (tl h.pre) (tl h.name) (tl h.link) [(tl s, tl t)] = b) :
    Calls Try.prog 6 #[.agg (Hd.hcells h (.slice none 0 0)), .slice (some ⟨g, 0, none⟩) 1 c] W fun e w' => e = .returned (.bool b) ∧ Below W.heap.size W w' := by
  have H := agrees_any h none 0 0 (some ⟨g, 0, none⟩) c [(s, t)] W hr (by simp) (fun r hr => by simp at hr; subst hr; exact ⟨hs, ht⟩)
  refine H.mono fun e w' h' => ?_
  rw [← hb]
  exact h'

def hA : Hd.M.Hdr := { name := ⟨#[97]⟩ }
set_option maxRecDepth 100000 in
set_option maxHeartbeats 4000000 in
theorem known_any (w : World) : Calls Try.prog 5 #[] w fun e w' => e = .returned (.bool true) ∧ Below w.heap.size w w' := by
  go_enter Try.func5, Try.ntmps5
  go_upto_region 2 with (refine wpList_store_row rfl 28 (.tmp 1) (.tmp 2) rfl w.heap.size (Hd.hcells hA (.slice none 0 0)) (by simp [Act.eval]) (by simp [Act.eval, Hd.hcells, hA]) 28 (Hd.hcells {} (.slice none 0 0)) (heap_alloc_new w _) Hd.hdr_size rfl (Hd.hcells_one _ rfl) ?_; rw [World.setRow_alloc_new])
  have HH := hid (Hd.HB.new w hA (.slice none 0 0))
  have HB := hid ((Below.refl w.heap.size w).alloc (Nat.le_refl _) (.cells (Hd.hcells hA (.slice none 0 0)) 28))
  have HS := hid (World.size_alloc w (.cells (Hd.hcells hA (.slice none 0 0)) 28))
  generalize World.alloc w _ = w1 at *
  go_wp2_with (refine wpList_load_row rfl 28 (.tmp 1) rfl w.heap.size (by rfl) 28 (Hd.hcells hA (.slice none 0 0)) (0, 0) _ HH.out Try.underlying28 rfl Hd.hdr_size ?_)
  have HA1 := hid ((Below.refl w1.heap.size w1).alloc (Nat.le_refl _) (.cells #[.string ⟨#[112, 97, 116, 104]⟩, .string ⟨#[97]⟩] 24))
  refine (agrees_b hA ⟨#[112, 97, 116, 104]⟩ ⟨#[97]⟩ true _ w1.heap.size 1 (by decide) (by decide) (rd_lit w1 _ _) ((M.agr_path (by decide)).trans (by decide))).mono ?_
  rintro e w2 ⟨rfl, hb2⟩
  have hb2' := HA1.out.trans (hb2.mono HA1.out.size)
  have HB2 := hid (HB.out.trans (hb2'.mono HB.out.size))
  have HH2 := hid (HH.out.below hb2' (by rw [HS.out]; omega))
  have HS2 := hid (show w.heap.size < w2.heap.size from Nat.lt_of_lt_of_le (by rw [HS.out]; omega) hb2'.size)
  clear hb2 hb2' HA1 HB HH HS
  go_wp2_with (refine wl_load_row' (by rfl) 28 (.tmp 1) rfl w.heap.size (by rfl) 28 (Hd.hcells hA (.slice none 0 0)) (0, 0) _ HH2.out Try.underlying28 rfl Hd.hdr_size ?_)
  have HA1 := hid ((Below.refl w2.heap.size w2).alloc (Nat.le_refl _) (.cells #[.string ⟨#[112, 97, 116, 104]⟩, .string ⟨#[98]⟩] 24))
  refine (agrees_b hA ⟨#[112, 97, 116, 104]⟩ ⟨#[98]⟩ false _ w2.heap.size 1 (by decide) (by decide) (rd_lit w2 _ _) ((M.agr_path (by decide)).trans (by decide))).mono ?_
  rintro e w3 ⟨rfl, hb3⟩
  have hb3' := HA1.out.trans (hb3.mono HA1.out.size)
  have HB3 := hid (HB2.out.trans (hb3'.mono HB2.out.size))
  have HH3 := hid (HH2.out.below hb3' HS2.out)
  clear hb3 hb3' HA1 HB2 HH2 HS2
  go_wp2_with (refine wl_load_row' (by rfl) 28 (.tmp 1) rfl w.heap.size (by rfl) 28 (Hd.hcells hA (.slice none 0 0)) (0, 0) _ HH3.out Try.underlying28 rfl Hd.hdr_size ?_)
  refine (agrees_any hA none 0 0 none 0 [] w3 Px.RdR.none_ (by simp) (fun r hr => by cases hr)).mono ?_
  rintro e w4 ⟨rfl, hb4⟩
  have HB4 := hid (HB3.out.trans (hb4.mono HB3.out.size))
  rw [show M.agr (tl hA.pre) (tl hA.name) (tl hA.link) (Px.rcs []) = false from rfl]
  clear hb4 HB3 HH3
  go_wp2_with fail
  go_ret
  exact ⟨rfl, HB4.out⟩

theorem px_one (w : World) (z : Int) (h0 : 0 ≤ z) (h1 : z ≤ 255) : Px.Rd (w.alloc (.cells #[.int .u8 z] 5)) (w.heap.size + 1) (some ⟨w.heap.size, 0, none⟩) 1 [z] := by
  refine ⟨rfl, fun x hx => by rw [List.mem_singleton] at hx; subst hx; exact ⟨h0, h1⟩, fun _ => ⟨_, 0, rfl, Nat.lt_succ_self _, fun j x hj => ?_⟩⟩
  match j, hj with
  | 0, hj =>
    simp at hj
    subst hj
    unfold World.cell?
    rw [World.alloc_heap_new]
    rfl
theorem str_one' (w : World) (z : Int) (h0 : 0 ≤ z) (h1 : z ≤ 255) : Sem.run Try.prog (convert 22 9 (.slice (some ⟨w.heap.size, 0, none⟩) 1 1)) (w.alloc (.cells #[.int .u8 z] 5)) = .ok (.string (Px.strOf [z])) (w.alloc (.cells #[.int .u8 z] 5)) :=
  Px.run_str (px_one w z h0 h1) 1
def hNm (x : ByteArray) : Hd.M.Hdr := { name := x }
def hPr (x : ByteArray) : Hd.M.Hdr := { name := x, pre := ⟨#[112]⟩ }
def hLk (x : ByteArray) : Hd.M.Hdr := { link := x }
section
variable {s x : ByteArray} (hv : tl s ≠ [])
include hv
theorem ag1 (hx : tl x = (tl s).take 100) : M.agr [] (tl x) [] [(M.kPath, tl s)] = true := by rw [M.agr_path hv, hx]; simp
theorem ag2 : M.agr [112] (tl x) [] [(M.kPath, tl s)] = false := by rw [M.agr_path hv]; rfl
theorem ag3 (hn : (tl s).take 100 ≠ []) : M.agr [] (tl x) [] [(M.kLink, tl s)] = false := by
  rw [M.agr_link hv]
  cases h : (tl s).take 100 with
  | nil => exact absurd h hn
  | cons a b => rfl
theorem ag4 (hx : tl x = (tl s).take 100) : M.agr [] [] (tl x) [(M.kLink, tl s)] = true := by rw [M.agr_link hv, hx]; simp
theorem ag5 (hx : tl x = (tl s).take 100) : M.agr [] (tl (x ++ (⟨#[33]⟩ : ByteArray))) [] [(M.kPath, tl s)] = false := by
  rw [M.agr_path hv, Px.tl_append, hx]
  have h2 : ¬ ((tl s).take 100 ++ tl ⟨#[33]⟩ = (tl s).take 100) := fun e => by
    have := congrArg List.length e
    rw [List.length_append] at this
    have h1 : (tl ⟨#[33]⟩).length = 1 := rfl
    omega
  have h3 : ((tl s).take 100 ++ tl ⟨#[33]⟩ == (tl s).take 100) = false := by rw [beq_eq_false_iff_ne]; exact h2
  rw [h3]; rfl
end
set_option maxRecDepth 100000 in
set_option maxHeartbeats 4000000 in
theorem tieNames_any (a0 a1 : Int) (w : World) (h0 : 0 ≤ a0 ∧ a0 ≤ 255) : Calls Try.prog 3 #[.int .u8 a0, .int .u8 a1] w fun e w' => e = .returned (.bool true) ∧ Below w.heap.size w w' := by
  obtain ⟨h00, h01⟩ := h0
  go_enter Try.func3, Try.ntmps3
  go_wp2_with fail
  go_loopw [5, 6] (fun v i wr => ∃ (k : Nat) (s : ByteArray), v = .string s ∧ i = .int .i64 k ∧ (k : Int) ≤ a0 ∧ s.size = k + 1 ∧ Hid (Below w.heap.size w wr)) (fun _ i _ => 256 - (intOf i).toNat)
  case atStart => exact ⟨0, ⟨#[113]⟩, rfl, rfl, h00, rfl, hid (Below.refl _ _)⟩
  case round =>
    obtain ⟨k, s, rfl, rfl, hk, hs, hb⟩ := hrel
    by_cases hlt : (k : Int) < a0
    · have hk2 : k < 255 := by omega
      have hc := str_one' wr (97 + ((k : Int) % 26)) (by omega) (by omega)
      have e26 : ((k : Int)).tmod 26 = (k : Int) % 26 := Int.tmod_eq_emod_of_nonneg (by omega)
      have HB := hid (hb.out.alloc hb.out.size (.cells #[.int .u8 (97 + ((k : Int) % 26))] 5))
      have hso : (Px.strOf [97 + ((k : Int) % 26)]).size = 1 := rfl
      go_wp2_with fail
      go_roundw
      case rel => exact ⟨k + 1, s ++ Px.strOf [97 + ((k : Int) % 26)], rfl, by go_num, by omega, by rw [ByteArray.size_append, hs]; rfl, HB⟩
      case measure => simp [intOf]; omega
    · have hke : (k : Int) = a0 := by omega
      have hv : tl s ≠ [] := fun e => by have : (tl s).length = s.size := rfl; rw [e, hs] at this; simp at this
      have hsz : s.size ≤ 256 := by omega
      have HV := hid hv
      have HB := hb
      clear hb hke hk hs hv
      have hx0 : ∃ x : ByteArray, x = s.extract 0 100 := ⟨_, rfl⟩
      obtain ⟨x, hx⟩ := hx0
      have HX := hid hx
      have hxs : x.size ≤ 256 := by rw [hx, ByteArray.size_extract]; omega
      clear hx
      have hxe : s.extract 0 (min (s.size : Int) 100).toNat = x := by
        have e2 : ((min (s.size : Int) 100).toNat) = min s.size 100 := by omega
        rw [e2, HX.out]
        exact Px.tl_inj (by rw [tl_take, tl_take]; exact take_min_len (tl s) 100)
      go_upto_region 7 with fail
      have B1 := hid (HB.out.alloc HB.out.size (.cells #[.string ⟨#[112, 97, 116, 104]⟩, .string s] 24))
      have R7 := hid (rd_lit wr ⟨#[112, 97, 116, 104]⟩ s)
      clear HB
      generalize World.alloc wr _ = w1 at *
      go_upto_region 8 with (refine wpList_store_row rfl 28 (.tmp 8) (.tmp 33) rfl w1.heap.size (Hd.hcells (hNm x) (.slice none 0 0)) (by simp [Act.eval]) (by simp [Act.eval, Hd.hcells, hNm]) 28 (Hd.hcells {} (.slice none 0 0)) (heap_alloc_new w1 _) Hd.hdr_size rfl (Hd.hcells_one _ rfl) ?_; rw [World.setRow_alloc_new])
      have B2 := hid (B1.out.alloc B1.out.size (.cells (Hd.hcells (hNm x) (.slice none 0 0)) 28))
      have H8 := hid (Hd.HB.new w1 (hNm x) (.slice none 0 0))
      have G1 := hid ((Below.refl w1.heap.size w1).alloc (Nat.le_refl _) (.cells (Hd.hcells (hNm x) (.slice none 0 0)) 28))
      have k0 := H8.out.cell (i := 0) (v := .string x) rfl
      clear B1 hxe
      have S2 := hid (World.size_alloc w1 (.cells (Hd.hcells (hNm x) (.slice none 0 0)) 28))
      generalize World.alloc w1 _ = w2 at *
      go_upto_region 9 with (first | (refine wpList_store_row rfl 28 (.tmp 9) (.tmp 36) rfl w2.heap.size (Hd.hcells (hPr x) (.slice none 0 0)) (by simp [Act.eval]) (by simp [Act.eval, Hd.hcells, hPr]) 28 (Hd.hcells {} (.slice none 0 0)) (heap_alloc_new w2 _) Hd.hdr_size rfl (Hd.hcells_one _ rfl) ?_; rw [World.setRow_alloc_new]))
      have B3 := hid (B2.out.alloc B2.out.size (.cells (Hd.hcells (hPr x) (.slice none 0 0)) 28))
      have H9 := hid (Hd.HB.new w2 (hPr x) (.slice none 0 0))
      have G2 := hid ((Below.refl w2.heap.size w2).alloc (Nat.le_refl _) (.cells (Hd.hcells (hPr x) (.slice none 0 0)) 28))
      clear B2 k0
      have S3 := hid (World.size_alloc w2 (.cells (Hd.hcells (hPr x) (.slice none 0 0)) 28))
      generalize World.alloc w2 _ = w3 at *
      go_upto_region 10 with fail
      have B4 := hid (B3.out.alloc B3.out.size (.cells #[.string ⟨#[108, 105, 110, 107, 112, 97, 116, 104]⟩, .string s] 24))
      have R10 := hid (rd_lit w3 ⟨#[108, 105, 110, 107, 112, 97, 116, 104]⟩ s)
      have G3 := hid ((Below.refl w3.heap.size w3).alloc (Nat.le_refl _) (.cells #[.string ⟨#[108, 105, 110, 107, 112, 97, 116, 104]⟩, .string s] 24))
      clear B3
      generalize World.alloc w3 _ = w4 at *
      have F8 := hid (fun (V : World) (hV : Below w4.heap.size w4 V) => (((H8.out.below G2.out (by rw [S2.out]; omega)).below G3.out (by rw [S3.out, S2.out]; omega)).below hV (by have := G3.out.size; rw [S3.out, S2.out] at this; omega) : Hd.HB V w1.heap.size (hNm x) (.slice none 0 0)))
      have F9 := hid (fun (V : World) (hV : Below w4.heap.size w4 V) => ((H9.out.below G3.out (by rw [S3.out]; omega)).below hV (by have := G3.out.size; rw [S3.out] at this; omega) : Hd.HB V w2.heap.size (hPr x) (.slice none 0 0)))
      have F7 := hid (fun (V : World) (hV : Below w4.heap.size w4 V) => ((((R7.out.below G1.out).more G1.out.size).below G2.out).more G2.out.size |>.below G3.out |>.more G3.out.size |>.below hV |>.more hV.size : Px.RdR V V.heap.size (some ⟨wr.heap.size, 0, none⟩) [(⟨#[112, 97, 116, 104]⟩, s)]))
      have F10 := hid (fun (V : World) (hV : Below w4.heap.size w4 V) => ((R10.out.below hV).more hV.size : Px.RdR V V.heap.size (some ⟨w3.heap.size, 0, none⟩) [(⟨#[108, 105, 110, 107, 112, 97, 116, 104]⟩, s)]))
      have FN := hid (fun (V : World) (hV : Below w4.heap.size w4 V) => B4.out.trans (hV.mono B4.out.size))
      clear H8 H9 R7 R10 G1 G2 G3 S2 S3 B4
      have hsm : s.size ≤ maxLen := by unfold maxLen; omega
      have et : ∀ b : List UInt8, tl x = (tl s).take 100 := fun _ => by rw [HX.out, tl_take]
      have EX := hid (et [])
      have EN := hid (show (tl s).take 100 ≠ [] from fun e => HV.out (by cases h : tl s with | nil => rfl | cons a b => rw [h] at e; simp at e))
      clear et HX
      go_wp2_with fail
      refine (known_any w4).mono ?_
      rintro e w5 ⟨rfl, hb5⟩
      have V5 := hid hb5
      clear hb5
      go_wp2_with (refine wl_load_row' (by rfl) 28 (.tmp 8) rfl w1.heap.size (by rfl) 28 (Hd.hcells (hNm x) (.slice none 0 0)) (0, 0) _ (F8.out w5 V5.out) Try.underlying28 rfl Hd.hdr_size ?_)
      refine (agrees_b (hNm x) ⟨#[112, 97, 116, 104]⟩ s true w5 wr.heap.size 1 (by decide) hsm (F7.out w5 V5.out) (ag1 HV.out EX.out)).mono ?_
      rintro e w6 ⟨rfl, hb6⟩
      have V6 := hid (V5.out.trans (hb6.mono V5.out.size))
      clear hb6 V5
      go_wp2_with (refine wl_load_row' (by rfl) 28 (.tmp 9) rfl w2.heap.size (by rfl) 28 (Hd.hcells (hPr x) (.slice none 0 0)) (0, 0) _ (F9.out w6 V6.out) Try.underlying28 rfl Hd.hdr_size ?_)
      refine (agrees_b (hPr x) ⟨#[112, 97, 116, 104]⟩ s false w6 wr.heap.size 1 (by decide) hsm (F7.out w6 V6.out) (ag2 HV.out)).mono ?_
      rintro e w7 ⟨rfl, hb7⟩
      have V7 := hid (V6.out.trans (hb7.mono V6.out.size))
      clear hb7 V6
      go_wp2_with (refine wl_load_row' (by rfl) 28 (.tmp 8) rfl w1.heap.size (by rfl) 28 (Hd.hcells (hNm x) (.slice none 0 0)) (0, 0) _ (F8.out w7 V7.out) Try.underlying28 rfl Hd.hdr_size ?_)
      refine (agrees_b (hNm x) ⟨#[108, 105, 110, 107, 112, 97, 116, 104]⟩ s false w7 w3.heap.size 1 (by decide) hsm (F10.out w7 V7.out) (ag3 HV.out EN.out)).mono ?_
      rintro e w8 ⟨rfl, hb8⟩
      have V8 := hid (V7.out.trans (hb8.mono V7.out.size))
      have k0 := (F8.out w8 V8.out).cell (i := 0) (v := .string x) rfl
      clear hb8 V7
      go_wp2_with fail
      refine (agrees_b (hLk x) ⟨#[108, 105, 110, 107, 112, 97, 116, 104]⟩ s true w8 w3.heap.size 1 (by decide) hsm (F10.out w8 V8.out) (ag4 HV.out EX.out)).mono ?_
      rintro e w9 ⟨rfl, hb9⟩
      have V9 := hid (V8.out.trans (hb9.mono V8.out.size))
      clear k0
      have k0 := (F8.out w9 V9.out).cell (i := 0) (v := .string x) rfl
      clear hb9 V8
      go_wp2_with fail
      refine (agrees_b (hNm (x ++ (⟨#[33]⟩ : ByteArray))) ⟨#[112, 97, 116, 104]⟩ s false w9 wr.heap.size 1 (by decide) hsm (F7.out w9 V9.out) (ag5 HV.out EX.out)).mono ?_
      rintro e w10 ⟨rfl, hb10⟩
      have V10 := hid (V9.out.trans (hb10.mono V9.out.size))
      go_wp2_with fail
      go_ret
      exact ⟨rfl, FN.out _ V10.out⟩
end Go.Proofs.Ytcedcfagfklohaa
