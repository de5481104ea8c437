/-
  A record counts more than a long name, and that more than the header's.
-/
import Derived.Test.YtbpangofobkmfaaGreatDoorMtWhat
import Derived.Test.YtbpangofobkmfaaGreatDoorMtKnown
set_option linter.unusedVariables false
set_option linter.unusedSimpArgs false
/-! What a soft link's header, long names and records tell. No program. -/
namespace Go.Proofs.YtbpangofobkmfaaGreatDoor
namespace M
open Px (tl R2 ltB ltB_ord)
open Px.M (Rc find merge Rising)

def softH (x : ByteArray) : Hdr := { name := x, kind := 50, link := x }
def soft (a b : ByteArray) : Met := { name := a, link := b, kind := 50 }
/-- Two plain bytes. -/
def two (a b : UInt8) : ByteArray := ⟨#[a, b]⟩
theorem soft_toE {a b c d : UInt8} (ha : a ≠ 0) (hb : b ≠ 0) (hc : c ≠ 0) (hd : d ≠ 0) : toE (soft (two a b) (two c d)) = 0 := by
  have n1 : noNul (tl (two a b)) = true := by
    show (!(a == 0) && (!(b == 0) && true)) = true
    simp [ha, hb]
  have n2 : noNul (tl (two c d)) = true := by
    show (!(c == 0) && (!(d == 0) && true)) = true
    simp [hc, hd]
  have a1 : hasTexts (soft (two a b) (two c d)) = true := by
    unfold hasTexts isText
    show (!((50 : Int) == 48 && slash (tl (two a b))) && (within 2 1 4096 && noNul (tl (two a b)) && (within 2 (if isLink 50 = true then 1 else 0) (if isLink 50 = true then 4096 else 0) && noNul (tl (two c d)) && _))) = true
    rw [n1, n2]
    rfl
  have a2 : hasNumbers (soft (two a b) (two c d)) = true := by
    have n1 : St.M.norm ((soft (two a b) (two c d)).sec, (soft (two a b) (two c d)).nan) = ((soft (two a b) (two c d)).sec, (soft (two a b) (two c d)).nan) := by
      show St.M.norm (0, 0) = (0, 0)
      decide
    unfold hasNumbers
    rw [n1]
    simp only [decide_true]
    rfl
  have hw : wrong (soft (two a b) (two c d)) = 0 := by
    unfold wrong
    rw [a1, a2]
    show (if within 50 48 54 = false then 31 else if true = false then 33 else if true = false then 32 else if isExtra [] [] = false ∨ (false = true ∧ hasHoles (soft (two a b) (two c d)) = false) then 34 else 0) = 0
    rw [show within 50 48 54 = true from by decide]
    simp [isExtra]
  unfold toE
  rw [hw, if_neg (by simp)]
  have e1 : fits 0 8 = true := by decide
  have e2 : fits 0 12 = true := by decide
  have e3 : timeFits (soft (two a b) (two c d)) = true := by
    unfold timeFits soft
    simp only
    rw [e2]; rfl
  have hg : gives (soft (two a b) (two c d)) = [] := by
    unfold gives
    have g0 : gName (soft (two a b) (two c d)) = [] := rfl
    have g1 : gText kLink (soft (two a b) (two c d)).link 100 = [] := rfl
    have g2 : gText kUser (soft (two a b) (two c d)).user 32 = [] := rfl
    have g3 : gText kGroup (soft (two a b) (two c d)).group 32 = [] := rfl
    have g4 : gNum kUid (soft (two a b) (two c d)).uid 8 = [] := by unfold gNum; exact if_pos e1
    have g5 : gNum kGid (soft (two a b) (two c d)).gid 8 = [] := by unfold gNum; exact if_pos e1
    have g6 : gNum kSize (soft (two a b) (two c d)).size 12 = [] := by unfold gNum; exact if_pos e2
    have g7 : gTime (soft (two a b) (two c d)) = [] := by unfold gTime; exact if_pos e3
    have g8 : gHoles (soft (two a b) (two c d)) = [] := rfl
    rw [g0, g1, g2, g3, g4, g5, g6, g7, g8]
    rfl
  have hr : recsOf (soft (two a b) (two c d)) = [] := by
    unfold recsOf
    rw [hg]
    rfl
  rw [hr]
  rfl
/-- No records: long names, or the header's. -/
theorem own_known (x : ByteArray) (names links : List ByteArray) : known (softH x) [] names links [] = some (soft (lastOf names x) (lastOf links x)) := by
  unfold known
  have hm : merge ltB ([] : List Rc) [] = [] := rfl
  rw [hm]
  rfl
theorem own_recs (x : ByteArray) (names links : List ByteArray) (c : UInt8) : known (softH x) [(tl kPath, [122, c]), (tl kLink, [122, c])] names links [] = some (soft (two 122 c) (two 122 c)) := by
  unfold known
  have hm : merge ltB ([(tl kPath, [122, c]), (tl kLink, [122, c])] : List Rc) [] = [(tl kLink, [122, c]), (tl kPath, [122, c])] := rfl
  rw [hm]
  rfl
theorem own_from {h : Hdr} {recs : List Rc} {names links : List ByteArray} {m : Met} (hk : kindMay h.kind = true) (h1 : known h recs names links [] = some m) (h2 : toE m = 0) : fromE h recs names links [] = 0 ∧ fromM h recs names links [] = m := by
  have hE : fromE h recs names links [] = 0 := by
    unfold fromE
    rw [if_neg (by rw [hk]; decide), h1]
    exact h2
  refine ⟨hE, ?_⟩
  unfold fromM
  rw [if_pos hE, h1]; rfl
end M
end Go.Proofs.YtbpangofobkmfaaGreatDoor

/-! A record counts more than a long name, and that more than the header's. -/
namespace Go.Proofs.YtbpangofobkmfaaGreatDoor
open Go.RowKit Go.Lib
open Px (R2 tl)
attribute [local go_sem ↓] add_plain

/-- The byte of a number. -/
def byteOf (z : Int) : UInt8 := UInt8.ofNat z.toNat
theorem str_one (w : World) (z : Int) (h0 : 0 ≤ z) (h1 : z ≤ 255) : Sem.run Tryz.prog (convert 23 9 (.slice (some ⟨w.heap.size, 0, none⟩) 1 1)) (w.alloc (.cells #[.int .u8 z] 5)) = .ok (.string (Sp.strOf [z])) (w.alloc (.cells #[.int .u8 z] 5)) :=
  Sp.run_str (Sp.Rd.lit w 5 (0, 0) [z] (by intro x hx; rw [List.mem_singleton] at hx; subst hx; exact ⟨h0, h1⟩)) 1
theorem two_one (c : UInt8) (z : Int) : (⟨#[c]⟩ : ByteArray) ++ Sp.strOf [z] = M.two c (byteOf z) := rfl
theorem byte_ne {z : Int} (h0 : 1 ≤ z) (h1 : z ≤ 255) : byteOf z ≠ 0 := by
  unfold byteOf
  intro e
  have e2 := congrArg UInt8.toNat e
  rw [UInt8.toNat_ofNat'] at e2
  simp at e2
  omega

/-- A link's header may come in. -/
theorem fin_soft {w : World} {x : ByteArray} (hx : x.size ≤ 10) {l : List R2} {names links : List ByteArray} {A An Al : Option Addr} (hr : Px.RdR w w.heap.size A l) (hn : RdT w w.heap.size An names) (hl : RdT w w.heap.size Al links)
    (h1 : l.length ≤ 10) (h2 : names.length ≤ 10 ∧ links.length ≤ 10) (h3 : ∀ r ∈ l, r.1.size ≤ 100 ∧ r.2.size ≤ 100) (h4 : (∀ y ∈ names, y.size ≤ 100) ∧ (∀ y ∈ links, y.size ≤ 100)) :
    FIn w (M.softH x) (.slice none 0 0) l names links [] A An Al none where
  rparts := ⟨none, 0, rfl, Sp.RdP.none_⟩
  rrecs := hr
  rnames := hn
  rlinks := hl
  rmore := Sp.RdP.none_
  nparts := ⟨Nat.zero_le _, Nat.zero_le _⟩
  nrecs := Nat.le_trans h1 (by decide)
  nnames := ⟨Nat.le_trans h2.1 (by decide), Nat.le_trans h2.2 (by decide)⟩
  fits := fun r hr => ⟨Nat.le_trans (h3 r hr).1 (by decide), Nat.le_trans (h3 r hr).2 (by decide)⟩
  kind := (by decide : (0 : Int) ≤ 50 ∧ (50 : Int) ≤ 255)
  pn := by show 0 + x.size < 1000000; omega
  texts := ⟨by show x.size ≤ 1000000; omega, Nat.zero_le _, Nat.zero_le _⟩
  tnames := ⟨fun y hy => Nat.le_trans (h4.1 y hy) (by decide), fun y hy => Nat.le_trans (h4.2 y hy) (by decide)⟩
  ints := ⟨isI64_0, isI64_0, isI64_0, isI64_0, isI64_0, isI64_0, isI64_0⟩
  i64s := ⟨fun p hp => (by cases hp), fun p hp => (by cases hp)⟩
/-- What From answers of it. -/
def SoftIs (m : M.Met) (w : World) (e : Ending) (w' : World) : Prop :=
  ∃ pv ev : Value, e = .returned (.tuple #[.agg (mcells m pv ev), .int .u16 0]) ∧ pv.oneCell' = true ∧ ev.oneCell' = true ∧ Below w.heap.size w w'
theorem soft_from {x : ByteArray} {l : List R2} {names links : List ByteArray} {A An Al : Option Addr} {m : M.Met} (n nn nl c cn cl : Nat) (B : Nat) (w : World) (hi : FIn w (M.softH x) (.slice none 0 0) l names links [] A An Al none) (hB : B ≤ w.heap.size) (ht : Sp.EV B w)
    (hk : M.known (M.softH x) (Px.rcs l) names links [] = some m) (he : M.toE m = 0) (h1 : l.length = n) (h2 : names.length = nn) (h3 : links.length = nl) :
    Calls Tryz.prog 9 #[.agg (hcells (M.softH x) (.slice none 0 0)), .slice A n c, .slice An nn cn, .slice Al nl cl, .slice none 0 0] w (SoftIs m w) := by
  subst h1 h2 h3
  refine (from_any (M.softH x) (.slice none 0 0) l names links [] A An Al none c cn cl 0 B w hi hB ht).mono ?_
  rintro e w' ⟨pv, ev, rfl, hm, hb⟩
  obtain ⟨f1, f2⟩ := M.own_from (show M.kindMay (M.softH x).kind = true from (by decide : M.kindMay 50 = true)) hk he
  rw [f2] at hm
  refine ⟨pv, ev, by rw [f1, f2]; rfl, ?_, ?_, hb⟩
  · obtain ⟨A2, c2, e, _⟩ := hm.parts
    rw [e]; rfl
  · obtain ⟨A2, c2, e, _⟩ := hm.extra
    rw [e]; rfl
theorem rdT_one (w w' : World) (y : ByteArray) (hb : Below (w.heap.size + 1) (w.alloc (.cells #[.string y] 9)) w') : RdT w' w'.heap.size (some ⟨w.heap.size, 0, none⟩) [y] := fun _ => by
  refine ⟨w.heap.size, 0, rfl, ?_, fun k s hk => ?_⟩
  · have := hb.size; simp at this; omega
  · have hk0 : k = 0 := by
      have := (List.getElem?_eq_some_iff.1 hk).1
      simpa using this
    subst hk0
    simp at hk
    subst hk
    refine (hb.cell (p := ⟨w.heap.size, 0, none⟩) (Nat.lt_succ_self _)).trans ?_
    exact (World.cell?_alloc_mark w #[.string y] 9 (0, 0) 0).trans rfl
theorem rdR_two (w w' : World) (z : ByteArray) (hb : Below (w.heap.size + 1) (w.alloc (.cells #[.string ⟨#[112, 97, 116, 104]⟩, .string z, .string ⟨#[108, 105, 110, 107, 112, 97, 116, 104]⟩, .string z] 43)) w') :
    Px.RdR w' w'.heap.size (some ⟨w.heap.size, 0, none⟩) [(M.kPath, z), (M.kLink, z)] := fun _ => by
  refine ⟨w.heap.size, 0, rfl, ?_, fun k r hk => ?_⟩
  · have := hb.size; simp at this; omega
  · have c := fun (i : Nat) => (hb.cell (p := ⟨w.heap.size, i, none⟩) (Nat.lt_succ_self _)).trans (World.cell?_alloc_mark w #[.string ⟨#[112, 97, 116, 104]⟩, .string z, .string ⟨#[108, 105, 110, 107, 112, 97, 116, 104]⟩, .string z] 43 (0, 0) i)
    match k, hk with
    | 0, hk => simp at hk; subst hk; exact ⟨(c 0).trans rfl, (c 1).trans rfl⟩
    | 1, hk => simp at hk; subst hk; exact ⟨(c 2).trans rfl, (c 3).trans rfl⟩
    | (q + 2), hk => simp at hk
theorem rdT_nil (w : World) (B : Nat) : RdT w B none [] := fun h => absurd h (by simp)

set_option maxRecDepth 100000 in
set_option maxHeartbeats 8000000 in
theorem metaOwn_any (a0 a1 a2 : Int) (B : Nat) (w : World) (h0 : 0 ≤ a0 ∧ a0 ≤ 255) (h1 : 0 ≤ a1 ∧ a1 ≤ 255) (h2 : 0 ≤ a2 ∧ a2 ≤ 255) (hB : B ≤ w.heap.size) (ht : Sp.EV B w) :
    Calls Tryz.prog 4 #[.int .u8 a0, .int .u8 a1, .int .u8 a2] w fun e w' => e = .returned (.bool true) ∧ Below w.heap.size w w' := by
  have HT := hid (fun (V : World) (hV : Below w.heap.size w V) => And.intro (Nat.le_trans hB hV.size) (ht.on (hV.mono hB)))
  clear ht hB
  obtain ⟨h00, h01⟩ := h0
  obtain ⟨h10, h11⟩ := h1
  obtain ⟨h20, h21⟩ := h2
  have HN0 := hid (byte_ne (z := 97 + a0 % 26) (by omega) (by omega))
  have HN1 := hid (byte_ne (z := 97 + a1 % 26) (by omega) (by omega))
  have HN2 := hid (byte_ne (z := 97 + a2 % 26) (by omega) (by omega))
  go_enter Tryz.func4, Tryz.ntmps4
  have e0 : a0.tmod 26 = a0 % 26 := Int.tmod_eq_emod_of_nonneg h00
  have c0 := str_one w (97 + a0 % 26) (by omega) (by omega)
  go_upto_region 2 with fail
  rw [two_one]
  have hb1 := hid ((Below.refl w.heap.size w).alloc (Nat.le_refl _) (.cells #[.int .u8 (97 + a0 % 26)] 5))
  clear c0
  generalize World.alloc w _ = w1 at *
  have e1 : a1.tmod 26 = a1 % 26 := Int.tmod_eq_emod_of_nonneg h10
  have c1 := str_one w1 (97 + a1 % 26) (by omega) (by omega)
  go_upto_region 3 with fail
  rw [two_one]
  have hb2 := hid (hb1.out.alloc hb1.out.size (.cells #[.int .u8 (97 + a1 % 26)] 5))
  clear c1 hb1
  generalize World.alloc w1 _ = w2 at *
  have e2 : a2.tmod 26 = a2 % 26 := Int.tmod_eq_emod_of_nonneg h20
  have c2 := str_one w2 (97 + a2 % 26) (by omega) (by omega)
  go_upto_region 4 with fail
  rw [two_one]
  have hb3 := hid (hb2.out.alloc hb2.out.size (.cells #[.int .u8 (97 + a2 % 26)] 5))
  clear c2 hb2
  generalize World.alloc w2 _ = w3 at *
  have HX := hid (show (M.two 120 (byteOf (97 + a0 % 26))).size ≤ 10 from by show 2 ≤ 10; decide)
  have HY := hid (show (M.two 121 (byteOf (97 + a1 % 26))).size ≤ 100 from by show 2 ≤ 100; decide)
  have HZ := hid (show (M.two 122 (byteOf (97 + a2 % 26))).size ≤ 100 from by show 2 ≤ 100; decide)
  have HE1 := hid (M.soft_toE (a := 120) (c := 120) (by decide) HN0.out (by decide) HN0.out)
  have HE2 := hid (M.soft_toE (a := 121) (c := 121) (by decide) HN1.out (by decide) HN1.out)
  have HE3 := hid (M.soft_toE (a := 122) (c := 122) (by decide) HN2.out (by decide) HN2.out)
  have HK1 := hid (show M.known (M.softH (M.two 120 (byteOf (97 + a0 % 26)))) (Px.rcs []) [] [] [] = some (M.soft (M.two 120 (byteOf (97 + a0 % 26))) (M.two 120 (byteOf (97 + a0 % 26)))) from M.own_known _ [] [])
  have HK2 := hid (show M.known (M.softH (M.two 120 (byteOf (97 + a0 % 26)))) (Px.rcs []) [M.two 121 (byteOf (97 + a1 % 26))] [M.two 121 (byteOf (97 + a1 % 26))] [] = some (M.soft (M.two 121 (byteOf (97 + a1 % 26))) (M.two 121 (byteOf (97 + a1 % 26)))) from M.own_known _ [_] [_])
  have HK3 := hid (show M.known (M.softH (M.two 120 (byteOf (97 + a0 % 26)))) (Px.rcs [(M.kPath, M.two 122 (byteOf (97 + a2 % 26))), (M.kLink, M.two 122 (byteOf (97 + a2 % 26)))]) [M.two 121 (byteOf (97 + a1 % 26))] [M.two 121 (byteOf (97 + a1 % 26))] [] = some (M.soft (M.two 122 (byteOf (97 + a2 % 26))) (M.two 122 (byteOf (97 + a2 % 26)))) from M.own_recs _ _ _ _)
  generalize M.two 120 (byteOf (97 + a0 % 26)) = x at *
  generalize M.two 121 (byteOf (97 + a1 % 26)) = y at *
  generalize M.two 122 (byteOf (97 + a2 % 26)) = z at *
  clear HN0 HN1 HN2 e0 e1 e2
  go_upto_region 5 with (refine wpList_store_row rfl 26 (.tmp 10) (.tmp 37) rfl w3.heap.size (hcells (M.softH x) (.slice none 0 0)) (by simp [Act.eval]) (by simp [Act.eval, hcells, M.softH]) 26 (hcells {} (.slice none 0 0)) (heap_alloc_new w3 _) hdr_size rfl (hcells_one _ rfl) ?_; rw [World.setRow_alloc_new])
  have HH4 := hid (HB.new w3 (M.softH x) (.slice none 0 0))
  have hb4 := hid (hb3.out.alloc hb3.out.size (.cells (hcells (M.softH x) (.slice none 0 0)) 26))
  have hs4 : w3.heap.size < (w3.alloc (.cells (hcells (M.softH x) (.slice none 0 0)) 26)).heap.size := by rw [World.size_alloc]; omega
  clear hb3
  generalize World.alloc w3 _ = w4 at *
  go_wp2_with (refine wpList_load_row rfl 26 (.tmp 10) rfl w3.heap.size (by rfl) 26 (hcells (M.softH x) (.slice none 0 0)) (0, 0) _ HH4.out Tryz.underlying26 rfl hdr_size ?_)
  refine (soft_from 0 0 0 0 0 0 B w4 (fin_soft HX.out (l := []) (names := []) (links := []) (A := none) (An := none) (Al := none) Px.RdR.none_ (rdT_nil _ _) (rdT_nil _ _) (by decide) (by decide) (by intro r hr; cases hr) ⟨(by intro r hr; cases hr), (by intro r hr; cases hr)⟩) (HT.out _ hb4.out).1 (HT.out _ hb4.out).2 HK1.out HE1.out rfl rfl rfl).mono ?_
  rintro e w5 ⟨pv1, ev1, rfl, hp1, he1, hb5⟩
  have HP1 := hid (And.intro hp1 he1)
  have HB5 := hid (hb4.out.trans (hb5.mono hb4.out.size))
  have HH5 := hid (HH4.out.below hb5 (by omega))
  have hs5 := hb5.size
  clear hp1 he1 hb5 hb4 HH4 HE1 HK1
  go_upto_region 6 with (refine wpList_store_row rfl 34 (.tmp 11) (.tmp 41) rfl w5.heap.size (mcells (M.soft x x) pv1 ev1) (by simp [Act.eval]) (by simp [Act.eval]) 34 (mcells {} (.slice none 0 0) (.slice none 0 0)) (heap_alloc_new w5 _) met_size rfl (mcells_one _ HP1.out.1 HP1.out.2) ?_; rw [World.setRow_alloc_new])
  have M6 := hid (MB.new w5 (M.soft x x) pv1 ev1)
  have HB6 := hid (HB5.out.alloc HB5.out.size (.cells (mcells (M.soft x x) pv1 ev1) 34))
  have HH6 := hid (HH5.out.alloc (.cells (mcells (M.soft x x) pv1 ev1) 34))
  have hs6 : w5.heap.size < (w5.alloc (.cells (mcells (M.soft x x) pv1 ev1) 34)).heap.size := by rw [World.size_alloc]; omega
  clear HB5 HH5
  generalize World.alloc w5 _ = w6 at *
  have hbb := (Below.refl w6.heap.size w6).alloc (Nat.le_refl _) (.cells #[.string y] 9)
  have hr1 := rdT_one w6 ((w6.alloc (.cells #[.string y] 9)).alloc (.cells #[.string y] 9)) y ((Below.refl _ _).alloc (by rw [World.size_alloc]; omega) _)
  have hr2 := rdT_one (w6.alloc (.cells #[.string y] 9)) ((w6.alloc (.cells #[.string y] 9)).alloc (.cells #[.string y] 9)) y (Below.refl _ _)
  rw [World.size_alloc w6] at hr2
  have HB8 := hid (HB6.out.trans ((hbb.alloc hbb.size (.cells #[.string y] 9)).mono HB6.out.size))
  have HH8 := hid ((HH6.out.alloc (.cells #[.string y] 9)).alloc (.cells #[.string y] 9))
  have M8 := hid ((M6.out.alloc (.cells #[.string y] 9)).alloc (.cells #[.string y] 9))
  have hs8 : w6.heap.size ≤ ((w6.alloc (.cells #[.string y] 9)).alloc (.cells #[.string y] 9)).heap.size := by simp; omega
  have HR1 := hid hr1
  have HR2 := hid hr2
  clear hr1 hr2 hbb
  go_wp2_with (refine wpList_load_row rfl 26 (.tmp 10) rfl w3.heap.size (by rfl) 26 (hcells (M.softH x) (.slice none 0 0)) (0, 0) _ HH6.out Tryz.underlying26 rfl hdr_size ?_)
  clear HB6 HH6 M6
  generalize World.alloc (World.alloc w6 _) _ = w8 at *
  have HYS := hid (show ∀ q ∈ [y], q.size ≤ 100 from fun q hq => by rw [List.mem_singleton] at hq; subst hq; exact HY.out)
  refine (soft_from 0 1 1 0 1 1 B w8 (fin_soft HX.out (l := []) (names := [y]) (links := [y]) (A := none) Px.RdR.none_ HR1.out HR2.out (by decide) (by simp) (by intro r hr; cases hr) ⟨HYS.out, HYS.out⟩) (HT.out _ HB8.out).1 (HT.out _ HB8.out).2 HK2.out HE2.out rfl rfl rfl).mono ?_
  rintro e w9 ⟨pv2, ev2, rfl, hp2, he2, hb9⟩
  have HP2 := hid (And.intro hp2 he2)
  have HB9 := hid (HB8.out.trans (hb9.mono HB8.out.size))
  have HH9 := hid (HH8.out.below hb9 (by omega))
  have M9 := hid (M8.out.below hb9 (by omega))
  have hs9 := hb9.size
  clear hp2 he2 hb9 HB8 HH8 M8 HE2 HK2 HR1 HR2
  go_upto_region 7 with (refine wpList_store_row rfl 34 (.tmp 13) (.tmp 50) rfl w9.heap.size (mcells (M.soft y y) pv2 ev2) (by simp [Act.eval]) (by simp [Act.eval]) 34 (mcells {} (.slice none 0 0) (.slice none 0 0)) (heap_alloc_new w9 _) met_size rfl (mcells_one _ HP2.out.1 HP2.out.2) ?_; rw [World.setRow_alloc_new])
  have N10 := hid (MB.new w9 (M.soft y y) pv2 ev2)
  have M10 := hid (M9.out.alloc (.cells (mcells (M.soft y y) pv2 ev2) 34))
  have HB10 := hid (HB9.out.alloc HB9.out.size (.cells (mcells (M.soft y y) pv2 ev2) 34))
  have HH10 := hid (HH9.out.alloc (.cells (mcells (M.soft y y) pv2 ev2) 34))
  have hs10 : w9.heap.size < (w9.alloc (.cells (mcells (M.soft y y) pv2 ev2) 34)).heap.size := by rw [World.size_alloc]; omega
  clear HB9 HH9 M9
  generalize World.alloc w9 _ = w10 at *
  have k11 := (Below.refl w10.heap.size w10).alloc (Nat.le_refl _) (.cells #[.string ⟨#[112, 97, 116, 104]⟩, .string z, .string ⟨#[108, 105, 110, 107, 112, 97, 116, 104]⟩, .string z] 43)
  have k12 := k11.alloc k11.size (.cells #[.string y] 9)
  have k13 := k12.alloc k12.size (.cells #[.string y] 9)
  have hr0 := rdR_two w10 (((w10.alloc (.cells #[.string ⟨#[112, 97, 116, 104]⟩, .string z, .string ⟨#[108, 105, 110, 107, 112, 97, 116, 104]⟩, .string z] 43)).alloc (.cells #[.string y] 9)).alloc (.cells #[.string y] 9)) z (((Below.refl _ _).alloc (by rw [World.size_alloc]; omega) _).alloc (by rw [World.size_alloc, World.size_alloc]; omega) _)
  have hr1 := rdT_one (w10.alloc (.cells #[.string ⟨#[112, 97, 116, 104]⟩, .string z, .string ⟨#[108, 105, 110, 107, 112, 97, 116, 104]⟩, .string z] 43)) (((w10.alloc (.cells #[.string ⟨#[112, 97, 116, 104]⟩, .string z, .string ⟨#[108, 105, 110, 107, 112, 97, 116, 104]⟩, .string z] 43)).alloc (.cells #[.string y] 9)).alloc (.cells #[.string y] 9)) y ((Below.refl _ _).alloc (by rw [World.size_alloc (w10.alloc (.cells #[.string ⟨#[112, 97, 116, 104]⟩, .string z, .string ⟨#[108, 105, 110, 107, 112, 97, 116, 104]⟩, .string z] 43))]; omega) _)
  have hr2 := rdT_one ((w10.alloc (.cells #[.string ⟨#[112, 97, 116, 104]⟩, .string z, .string ⟨#[108, 105, 110, 107, 112, 97, 116, 104]⟩, .string z] 43)).alloc (.cells #[.string y] 9)) (((w10.alloc (.cells #[.string ⟨#[112, 97, 116, 104]⟩, .string z, .string ⟨#[108, 105, 110, 107, 112, 97, 116, 104]⟩, .string z] 43)).alloc (.cells #[.string y] 9)).alloc (.cells #[.string y] 9)) y (Below.refl _ _)
  rw [World.size_alloc w10] at hr1
  rw [World.size_alloc (w10.alloc (.cells #[.string ⟨#[112, 97, 116, 104]⟩, .string z, .string ⟨#[108, 105, 110, 107, 112, 97, 116, 104]⟩, .string z] 43)), World.size_alloc w10] at hr2
  have HB13 := hid (HB10.out.trans (k13.mono HB10.out.size))
  have HH13 := hid (HH10.out.below k13 HH10.out.lt)
  have M13 := hid (M10.out.below k13 M10.out.lt)
  have N13 := hid (N10.out.below k13 N10.out.lt)
  have hs13 : w10.heap.size ≤ (((w10.alloc (.cells #[.string ⟨#[112, 97, 116, 104]⟩, .string z, .string ⟨#[108, 105, 110, 107, 112, 97, 116, 104]⟩, .string z] 43)).alloc (.cells #[.string y] 9)).alloc (.cells #[.string y] 9)).heap.size := k13.size
  have HR0 := hid hr0
  have HR1 := hid hr1
  have HR2 := hid hr2
  clear hr0 hr1 hr2 k11 k12 k13
  go_wp2_with (refine wpList_load_row rfl 26 (.tmp 10) rfl w3.heap.size (by rfl) 26 (hcells (M.softH x) (.slice none 0 0)) (0, 0) _ HH10.out Tryz.underlying26 rfl hdr_size ?_)
  clear HB10 HH10 M10 N10
  generalize World.alloc (World.alloc (World.alloc w10 _) _) _ = w13 at *
  have HZS := hid (show ∀ r ∈ [(M.kPath, z), (M.kLink, z)], r.1.size ≤ 100 ∧ r.2.size ≤ 100 from fun r hr => by
    simp only [List.mem_cons, List.not_mem_nil, or_false] at hr
    rcases hr with rfl | rfl
    · exact ⟨(by decide : M.kPath.size ≤ 100), HZ.out⟩
    · exact ⟨(by decide : M.kLink.size ≤ 100), HZ.out⟩)
  refine (soft_from 2 1 1 2 1 1 B w13 (fin_soft HX.out (l := [(M.kPath, z), (M.kLink, z)]) (names := [y]) (links := [y]) HR0.out HR1.out HR2.out (by simp) (by simp) HZS.out ⟨HYS.out, HYS.out⟩) (HT.out _ HB13.out).1 (HT.out _ HB13.out).2 HK3.out HE3.out rfl rfl rfl).mono ?_
  rintro e w14 ⟨pv3, ev3, rfl, hp3, he3, hb14⟩
  have HP3 := hid (And.intro hp3 he3)
  have HB14 := hid (HB13.out.trans (hb14.mono HB13.out.size))
  have M14 := hid (M13.out.below hb14 (by omega))
  have N14 := hid (N13.out.below hb14 (by omega))
  have hs14 := hb14.size
  clear hp3 he3 hb14 HB13 HH13 M13 N13 HE3 HK3 HR0 HR1 HR2
  go_upto_region 8 with (refine wpList_store_row rfl 34 (.tmp 15) (.tmp 64) rfl w14.heap.size (mcells (M.soft z z) pv3 ev3) (by simp [Act.eval]) (by simp [Act.eval]) 34 (mcells {} (.slice none 0 0) (.slice none 0 0)) (heap_alloc_new w14 _) met_size rfl (mcells_one _ HP3.out.1 HP3.out.2) ?_; rw [World.setRow_alloc_new])
  have O15 := hid (MB.new w14 (M.soft z z) pv3 ev3)
  have M15 := hid (M14.out.alloc (.cells (mcells (M.soft z z) pv3 ev3) 34))
  have N15 := hid (N14.out.alloc (.cells (mcells (M.soft z z) pv3 ev3) 34))
  have HB15 := hid (HB14.out.alloc HB14.out.size (.cells (mcells (M.soft z z) pv3 ev3) 34))
  have hs15 : w14.heap.size < (w14.alloc (.cells (mcells (M.soft z z) pv3 ev3) 34)).heap.size := by rw [World.size_alloc]; omega
  clear HB14 M14 N14
  generalize World.alloc w14 _ = w15 at *
  go_wp2_with fail
  refine (known_any B w15 (HT.out _ HB15.out).1 (HT.out _ HB15.out).2).mono ?_
  rintro e w16 ⟨rfl, hb16⟩
  have M16 := M15.out.below hb16 (by omega)
  have N16 := N15.out.below hb16 (by omega)
  have O16 := O15.out.below hb16 (by omega)
  have HB16 := hid (HB15.out.trans (hb16.mono HB15.out.size))
  have m0 := M16.cell (i := 0) (v := .string x) rfl
  have m1 := M16.cell (i := 1) (v := .string x) rfl
  have n0 := N16.cell (i := 0) (v := .string y) rfl
  have n1 := N16.cell (i := 1) (v := .string y) rfl
  have o0 := O16.cell (i := 0) (v := .string z) rfl
  have o1 := O16.cell (i := 1) (v := .string z) rfl
  clear M16 N16 O16 M15 N15 O15 HB15 hb16
  go_wp2
  go_ret
  exact ⟨rfl, HB16.out⟩
end Go.Proofs.YtbpangofobkmfaaGreatDoor
