/-
  The chapter's examples hold.
-/
import Derived.Test.YtjpflljmeaihgaaDoorSpParse
import Derived.Test.YtjpflljmeaihgaaDoorSpExpandW
namespace Go.Proofs.YtjpflljmeaihgaaDoor
open Go.RowKit Go.Lib

/-- Bytes of a literal. -/
theorem Rd.lit (w : World) (t : TypeId) (mark : Nat × Nat) (zs : List Int) (hz : u8s zs) : Rd (w.alloc (.cells (bcells zs).toArray t mark)) (w.heap.size + 1) (some ⟨w.heap.size, 0, none⟩) zs.length zs := by
  refine ⟨rfl, hz, fun _ => ⟨_, 0, rfl, Nat.lt_succ_self _, fun j z hj => ?_⟩⟩
  rw [World.cell?_alloc_mark, Nat.zero_add]
  simp [bcells, hj]

theorem text_one : tl ⟨#[48, 44, 53, 44, 49, 48, 44, 50]⟩ = M.print [(0, 5), (10, 2)] := by
  have e0 : Lib.itoa 0 = [48] := by rw [show (0 : Int) = ((0 : Nat) : Int) from rfl, Lib.itoa_nonneg, Lib.decDigits_one (by decide)]; rfl
  have e5 : Lib.itoa 5 = [53] := by rw [show (5 : Int) = ((5 : Nat) : Int) from rfl, Lib.itoa_nonneg, Lib.decDigits_one (by decide)]; rfl
  have e2 : Lib.itoa 2 = [50] := by rw [show (2 : Int) = ((2 : Nat) : Int) from rfl, Lib.itoa_nonneg, Lib.decDigits_one (by decide)]; rfl
  have e10 : Lib.itoa 10 = [49, 48] := by rw [show (10 : Int) = ((10 : Nat) : Int) from rfl, Lib.itoa_nonneg, Lib.decDigits_two (by decide) (by decide)]; rfl
  have c0 : M.clip13 0 = 0 := by decide
  have c5 : M.clip13 5 = 5 := by decide
  have c10 : M.clip13 10 = 10 := by decide
  have c2 : M.clip13 2 = 2 := by decide
  simp only [M.print, M.ptT, M.numT, c0, c5, c10, c2, e0, e5, e2, e10]
  rfl
theorem parse_one : M.parse (tl ⟨#[48, 44, 53, 44, 49, 48, 44, 50]⟩) = some [(0, 5), (10, 2)] := by
  rw [text_one]
  refine M.parse_print ?_ (by decide)
  intro p hp
  simp at hp
  rcases hp with rfl | rfl <;> decide
theorem parse_two : M.parse (tl ⟨#[49]⟩) = none := by
  have e1 : tl ⟨#[49]⟩ = Lib.itoa 1 := by rw [show (1 : Int) = ((1 : Nat) : Int) from rfl, Lib.itoa_nonneg, Lib.decDigits_one (by decide)]; rfl
  have h1 : M.nums (M.cuts (tl ⟨#[49]⟩)) = some [1] := by
    rw [show M.cuts (tl ⟨#[49]⟩) = [tl ⟨#[49]⟩] from rfl, e1]
    unfold M.nums
    rw [M.numOf_itoa (by decide) (by decide)]
    rfl
  exact M.parse_odd (by decide) h1 (by decide)
theorem expand_one : M.expandE [(0, 5), (10, 2)] 7 12 = 0 := by decide
theorem expand_two : M.expandB [(0, 5), (10, 2)] [97, 98, 99, 100, 101, 102, 103] 12 = [97, 98, 99, 100, 101, 0, 0, 0, 0, 0, 102, 103] := by
  rw [M.expandB_ok (by exact expand_one)]
  decide
theorem str_one : strOf [97, 98, 99, 100, 101, 0, 0, 0, 0, 0, 102, 103] = ⟨#[97, 98, 99, 100, 101, 0, 0, 0, 0, 0, 102, 103]⟩ := by decide +kernel

set_option maxRecDepth 100000 in
set_option maxHeartbeats 1000000 in
theorem known_any (B : Nat) (w : World) (hB : B ≤ w.heap.size) (ht : EV B w) : Calls Tryd.prog 10 #[] w fun e w' => e = .returned (.bool true) ∧ Below w.heap.size w w' := by
  have hsame := fun (w : World) (C : Array Value) (n c : Nat) => Lib.run_convert_bytes_const (P := Tryd.prog) w 23 5 C n c Tryd.underlying23 Tryd.underlying5
  have HP := hid (parse_any ⟨#[48, 44, 53, 44, 49, 48, 44, 50]⟩ (by decide) B w hB ht)
  have HT := hid ht
  unfold PartsTo at HP
  rw [parse_one] at HP
  clear ht
  go_enter Tryd.func10, Tryd.ntmps10
  go_wp2_with fail
  (with_reducible refine HP.out.mono ?_)
  rintro e w1 ⟨v, rfl, ho, hb1⟩
  obtain ⟨A, c, rfl, hrd, _⟩ := ho.rd
  have HR := hid hrd
  have HB1 := hid hb1
  clear ho hrd hb1 HP
  simp only [Option.isSome, Option.getD]
  go_wp2_with fail
  clear hsame
  have hw2 : ∃ W2, W2 = w1.alloc (.cells #[.int .u8 97, .int .u8 98, .int .u8 99, .int .u8 100, .int .u8 101, .int .u8 102, .int .u8 103] 5 (7, 8)) := ⟨_, rfl⟩
  obtain ⟨W2, hw2⟩ := hw2
  have hrb : Rd W2 W2.heap.size (some ⟨w1.heap.size, 0, none⟩) 7 [97, 98, 99, 100, 101, 102, 103] := by
    have hR := Rd.lit w1 5 (7, 8) [97, 98, 99, 100, 101, 102, 103] (by unfold u8s; decide)
    rw [hw2]
    exact hR.more (by simp)
  have hb2 : Below w1.heap.size w1 W2 := by rw [hw2]; exact (Below.refl _ _).alloc (Nat.le_refl _) _
  have HX := hid (expand_any A 2 c [(0, 5), (10, 2)] 12 (some ⟨w1.heap.size, 0, none⟩) 7 7 [97, 98, 99, 100, 101, 102, 103] W2 ((HR.out.below hb2).more hb2.size) (by intro p hp; simp at hp; rcases hp with rfl | rfl <;> decide) (by decide) hrb (by decide) (Nat.le_refl _))
  have HB2 := hid (HB1.out.trans (hb2.mono HB1.out.size))
  have HR2 := hid ((HR.out.below hb2).more hb2.size)
  rw [← hw2]
  clear hw2 hrb hb2 HR
  (with_reducible refine HX.out.mono ?_)
  rintro e w3 ⟨v3, rfl, ho3, hb3⟩
  rw [expand_two] at ho3
  obtain ⟨A3, c3, rfl, hr3, _⟩ := ho3.rd (by unfold u8s; decide)
  rw [show (([97, 98, 99, 100, 101, 102, 103] : List Int).length : Int) = 7 from rfl, expand_one]
  have HR3 := hid hr3
  have HB3 := hid (HB2.out.trans (hb3.mono HB2.out.size))
  have HR4 := hid ((HR2.out.below hb3).more hb3.size)
  have HP2 := hid (parse_any ⟨#[49]⟩ (by decide) B w3 (Nat.le_trans hB HB3.out.size) (HT.out.on (HB3.out.mono hB)))
  unfold PartsTo at HP2
  rw [parse_two] at HP2
  clear ho3 hr3 hb3 HX HR2 HB1 HB2
  go_wp2_with fail
  (with_reducible refine HP2.out.mono ?_)
  rintro e w4 ⟨v4, rfl, _, hb4⟩
  have HB4 := hid (HB3.out.trans (hb4.mono HB3.out.size))
  have hr3 := (HR3.out.below hb4).more hb4.size
  have hr4 := HR4.out.below hb4
  have cv := run_str (n := 12) hr3 c3
  rw [str_one] at cv
  obtain ⟨b, off, p, rfl, _, hp, k1, k2⟩ := hr4.at_ (k := 1) (by decide)
  simp at hp
  subst hp
  simp only [Nat.one_mul] at k1 k2
  clear hr3 hr4 hb4 HR3 HR4 HP2
  go_wp2
  go_ret
  exact ⟨rfl, HB4.out⟩
end Go.Proofs.YtjpflljmeaihgaaDoor
