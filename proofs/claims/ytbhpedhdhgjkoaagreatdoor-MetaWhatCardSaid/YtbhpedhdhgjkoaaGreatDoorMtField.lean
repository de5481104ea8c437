/-
  A field as two functions: what each does, whatever it is.
-/
import Derived.Test.YtbhpedhdhgjkoaaGreatDoorMtTake
import Derived.Test.YtbhpedhdhgjkoaaGreatDoorMtRoomy
set_option linter.unusedVariables false
set_option linter.unusedSimpArgs false
namespace Go.Proofs.YtbhpedhdhgjkoaaGreatDoor
open Go.RowKit Go.Lib
open Px (R2 tl)
open Px.M (Rc)

/-- What is given by a field. -/
def piece (m : M.Met) : Nat → List Rc
  | 0 => M.gName m
  | 1 => M.gText M.kLink m.link 100
  | 2 => M.gText M.kUser m.user 32
  | 3 => M.gText M.kGroup m.group 32
  | 4 => M.gNum M.kUid m.uid 8
  | 5 => M.gNum M.kGid m.gid 8
  | 6 => M.gNum M.kSize m.size 12
  | _ => M.gTime m
def key : Nat → ByteArray
  | 0 => M.kPath
  | 1 => M.kLink
  | 2 => M.kUser
  | 3 => M.kGroup
  | 4 => M.kUid
  | 5 => M.kGid
  | 6 => M.kSize
  | _ => M.kTime
/-- What is taken by a field. -/
def takeM (v : ByteArray) (m : M.Met) : Nat → M.Met
  | 0 => { m with name := v }
  | 1 => { m with link := v }
  | 2 => { m with user := v }
  | 3 => { m with group := v }
  | 4 => { m with uid := (M.dec (tl v) 4611686018427387904).getD 0 }
  | 5 => { m with gid := (M.dec (tl v) 4611686018427387904).getD 0 }
  | 6 => { m with size := (M.dec (tl v) 1099511627776).getD 0 }
  | _ => { m with sec := (St.M.norm ((St.M.parse (tl v)).getD (0, 0))).1, nan := (St.M.norm ((St.M.parse (tl v)).getD (0, 0))).2 }
def takeOk (v : ByteArray) : Nat → Bool
  | 0 => true
  | 1 => true
  | 2 => true
  | 3 => true
  | 4 => (M.dec (tl v) 4611686018427387904).isSome
  | 5 => (M.dec (tl v) 4611686018427387904).isSome
  | 6 => (M.dec (tl v) 1099511627776).isSome
  | _ => (St.M.parse (tl v)).isSome

/-- Blocks lo to hi lie as they did. -/
def Still (lo hi : Nat) (w0 W : World) : Prop := hi ≤ W.heap.size ∧ ∀ k, lo ≤ k → k < hi → W.heap[k]? = w0.heap[k]?
theorem Still.cell {lo hi : Nat} {w0 W : World} (h : Still lo hi w0 W) {p : Addr} (h1 : lo ≤ p.block) (h2 : p.block < hi) : W.cell? p = w0.cell? p := World.cell?_of_block (h.2 p.block h1 h2)
theorem Still.fg {lo hi g : Nat} {w0 W W' : World} (h : Still lo hi w0 W) (hf : Fg g W W') (hg : g < lo) : Still lo hi w0 W' :=
  ⟨Nat.le_trans h.1 hf.size, fun k h1 h2 => (hf.block k (Nat.lt_of_lt_of_le h2 h.1) (by omega)).trans (h.2 k h1 h2)⟩
theorem Still.below {lo hi : Nat} {w0 W W' : World} (h : Still lo hi w0 W) (hf : Below W.heap.size W W') : Still lo hi w0 W' :=
  ⟨Nat.le_trans h.1 hf.size, fun k h1 h2 => (hf.block k (Nat.lt_of_lt_of_le h2 h.1)).trans (h.2 k h1 h2)⟩
theorem Still.more {lo hi lo' hi' : Nat} {w0 w1 W : World} (h : Still lo' hi' w1 W) (h1 : Still lo hi w0 w1) (hl : lo' ≤ lo) (hh : hi ≤ hi') : Still lo hi w0 W :=
  ⟨Nat.le_trans hh h.1, fun k a b => (h.2 k (by omega) (by omega)).trans (h1.2 k a b)⟩

theorem set_self {cs : Array Value} {j : Nat} {v : Value} (h : cs[j]? = some v) : cs.set! j v = cs := by
  have hj := (Array.getElem?_eq_some_iff.1 h).1
  rw [Array.set!_eq_setIfInBounds]
  refine Array.ext_getElem? fun i => ?_
  rw [Array.getElem?_setIfInBounds]
  by_cases e : j = i
  · subst e
    rw [if_pos rfl, if_pos hj, h]
  · rw [if_neg e]
def EntersF (G : Nat) : Prop := ∀ args w, (callFunc G args).run Tryz.prog w = .ok (.enter G args) w
/-- What a give does to the header in block g. -/
def GivePost (m : M.Met) (i g : Nat) (w : World) (e : Ending) (w' : World) : Prop :=
  ∃ (s : ByteArray) (ok : Bool), e = .returned (.tuple #[.string s, .bool ok]) ∧ piece m i = (if ok = true then [(tl (key i), tl s)] else []) ∧ HB w' g (hdrAt m (i + 1)) (.slice none 0 0) ∧ Fg g w w'
def GiveC (lo hi g B : Nat) (w0 : World) (m : M.Met) (i : Nat) (fn : Value) : Prop :=
  ∃ (G : Nat) (cb : Array Value), fn = .func (.func G) #[] cb ∧ EntersF G ∧ ∀ W, Still lo hi w0 W → HB W g (hdrAt m i) (.slice none 0 0) → B ≤ W.heap.size → Sp.EV B W → Calls Tryz.prog G cb W (GivePost m i g W)
/-- What a take does to what is known in block g. -/
def TakeIs (v : ByteArray) (m : M.Met) (pv ev : Value) (i g : Nat) (w : World) (e : Ending) (w' : World) : Prop :=
  e = .returned (.bool (takeOk v i)) ∧ MB w' g (takeM v m i) pv ev ∧ Fg g w w'
def TakeC (lo hi g B : Nat) (w0 : World) (i : Nat) (fn : Value) : Prop :=
  ∃ (G : Nat) (cb : Array Value), fn = .func (.func G) #[] cb ∧ EntersF G ∧ ∀ W (v : ByteArray) (m : M.Met) (pv ev : Value), Still lo hi w0 W → MB W g m pv ev → v.size ≤ 1000000 → B ≤ W.heap.size → Sp.EV B W → Calls Tryz.prog G (#[.string v] ++ cb) W (TakeIs v m pv ev i g W)

section
variable {lo hi g B b k : Nat} {w0 : World}
theorem giveC_name {m : M.Met} (hb : BoxP w0 b g 0) (h1 : lo ≤ b) (h2 : b < hi) (hg : g < lo) (hs : m.name.size ≤ 1000000) : GiveC lo hi g B w0 m 0 (.func (.func 65) #[] #[.pointer (some ⟨b, 0, none⟩)]) :=
  ⟨_, _, rfl, enters_of Tryz.func65 (by kernel_rfl) rfl, fun W hS hH _ _ => by
    refine (giveName_any b g (hdrAt m 0) (.slice none 0 0) W ((hS.cell (p := ⟨b, 0, none⟩) h1 h2).trans hb) (by omega) hH hs).mono ?_
    rintro e w' ⟨rfl, h3, h4⟩
    refine ⟨_, _, rfl, ?_, h3, h4⟩
    show M.gName m = if (!(M.split m.name).2.2) = true then _ else _
    unfold M.gName
    cases (M.split m.name).2.2 <;> rfl⟩
theorem giveC_text {m : M.Met} {i j wide : Nat} {s : ByteArray} (hb : BoxP w0 b g j) (hk : w0.cell? ⟨k, 0, none⟩ = some (.int .i64 wide)) (h1 : lo ≤ b) (h2 : b < hi) (h3 : lo ≤ k) (h4 : k < hi) (hg : g < lo) (hs : s.size ≤ 1000000) (hw : wide ≤ 1000)
    (hj : (hcells (hdrAt m i) (.slice none 0 0))[j]? = some (.string s)) (hp : piece m i = M.gText (key i) s wide) (he : (hcells (hdrAt m i) (.slice none 0 0)).set! j (.string (s.extract 0 wide)) = hcells (hdrAt m (i + 1)) (.slice none 0 0)) :
    GiveC lo hi g B w0 m i (.func (.func 67) #[] #[.pointer (some ⟨b, 0, none⟩), .pointer (some ⟨k, 0, none⟩)]) :=
  ⟨_, _, rfl, enters_of Tryz.func67 (by kernel_rfl) rfl, fun W hS hH _ _ => by
    refine (giveText_any b k g j s wide W ((hS.cell (p := ⟨b, 0, none⟩) h1 h2).trans hb) ((hS.cell (p := ⟨k, 0, none⟩) h3 h4).trans hk) (by omega) (by omega) (hH.cell hj) (hH.frozen j) hs hw).mono ?_
    rintro e w' ⟨rfl, h5, h6⟩
    refine ⟨_, _, rfl, ?_, (hH.set j _ he).of_block h5, h6⟩
    rw [hp]
    unfold M.gText
    by_cases h : s.size ≤ wide
    · rw [if_pos h, if_neg (by simpa using h)]
    · rw [if_neg h, if_pos (by simpa using h)]⟩
theorem giveC_num {m : M.Met} {i j : Nat} {n wide : Int} (hb : BoxP w0 b g j) (hk : w0.cell? ⟨k, 0, none⟩ = some (.int .i64 wide)) (h1 : lo ≤ b) (h2 : b < hi) (h3 : lo ≤ k) (h4 : k < hi) (hg : g < lo) (hBg : B ≤ g) (hn : -9223372036854775808 ≤ n ∧ n ≤ 9223372036854775807)
    (hj : (hcells (hdrAt m i) (.slice none 0 0))[j]? = some (.int .i64 n)) (hp : piece m i = M.gNum (key i) n wide)
    (he : (hcells (hdrAt m i) (.slice none 0 0)).set! j (.int .i64 (if M.fits n wide = true then n else 0)) = hcells (hdrAt m (i + 1)) (.slice none 0 0)) :
    GiveC lo hi g B w0 m i (.func (.func 69) #[] #[.pointer (some ⟨b, 0, none⟩), .pointer (some ⟨k, 0, none⟩)]) :=
  ⟨_, _, rfl, enters_of Tryz.func69 (by kernel_rfl) rfl, fun W hS hH hB hE => by
    refine (giveNumber_any b k g j n wide _ _ B W ((hS.cell (p := ⟨b, 0, none⟩) h1 h2).trans hb) ((hS.cell (p := ⟨k, 0, none⟩) h3 h4).trans hk) (by omega) (by omega) hH (hH.cell hj) hn hB hBg hE).mono ?_
    rintro e w' ⟨rfl, h5, h6⟩
    cases hf : M.fits n wide with
    | true =>
      rw [hf] at h5 he
      refine ⟨_, _, rfl, ?_, ?_, h6⟩
      · rw [hp]; unfold M.gNum; rw [hf]; rfl
      · have e0 : hcells (hdrAt m i) (.slice none 0 0) = hcells (hdrAt m (i + 1)) (.slice none 0 0) := by
          rw [← he, if_pos rfl]
          exact (set_self hj).symm
        have := hH.of_block (w' := w') h5
        unfold HB at this ⊢
        rw [this, e0]
    | false =>
      rw [hf] at h5 he
      refine ⟨_, _, rfl, ?_, (hH.set j _ he).of_block h5, h6⟩
      rw [hp]; unfold M.gNum; rw [hf]; rfl⟩
theorem giveC_time {m : M.Met} (hb : BoxP w0 b g 5) (hk0 : w0.cell? ⟨k, 0, none⟩ = some (.int .i64 m.sec)) (hk1 : w0.cell? ⟨k, 1, none⟩ = some (.int .i64 m.nan)) (h1 : lo ≤ b) (h2 : b < hi) (h3 : lo ≤ k) (h4 : k < hi) (hg : g < lo) (hBg : B ≤ g) :
    GiveC lo hi g B w0 m 7 (.func (.func 73) #[] #[.pointer (some ⟨b, 0, none⟩), .pointer (some ⟨k, 0, none⟩)]) :=
  ⟨_, _, rfl, enters_of Tryz.func73 (by kernel_rfl) rfl, fun W hS hH hB hE => by
    refine (giveTime_any b k g 5 m.sec m.sec m.nan _ _ B W ((hS.cell (p := ⟨b, 0, none⟩) h1 h2).trans hb) ((hS.cell (p := ⟨k, 0, none⟩) h3 h4).trans hk0) ((hS.cell (p := ⟨k, 1, none⟩) h3 h4).trans hk1) (by omega) (by omega) hH (hH.cell (i := 5) rfl) hB hBg hE).mono ?_
    rintro e w' ⟨rfl, h5, h6⟩
    have ht : M.timeFits m = (M.fits m.sec 12 && m.nan == 0) := rfl
    have hp : piece m 7 = M.gTime m := rfl
    have he : (hcells (hdrAt m 7) (.slice none 0 0)).set! 5 (.int .i64 (if M.timeFits m = true then m.sec else 0)) = hcells (hdrAt m (7 + 1)) (.slice none 0 0) := rfl
    rw [← ht] at h5 ⊢
    cases hf : M.timeFits m with
    | true =>
      rw [hf] at h5 he
      refine ⟨_, _, rfl, ?_, ?_, h6⟩
      · rw [hp]; unfold M.gTime; rw [hf]; rfl
      · have e0 : hcells (hdrAt m 7) (.slice none 0 0) = hcells (hdrAt m (7 + 1)) (.slice none 0 0) := by
          rw [← he, if_pos rfl]
          exact (set_self (j := 5) rfl).symm
        have := hH.of_block (w' := w') h5
        unfold HB at this ⊢
        rw [this, e0]
    | false =>
      rw [hf] at h5 he
      refine ⟨_, _, rfl, ?_, (hH.set 5 _ he).of_block h5, h6⟩
      rw [hp]; unfold M.gTime; rw [hf]; rfl⟩

theorem takeC_text {i j : Nat} (hb : BoxP w0 b g j) (h1 : lo ≤ b) (h2 : b < hi) (hg : g < lo) (hok : ∀ v, takeOk v i = true)
    (hj : ∀ (m : M.Met) (pv ev : Value), ∃ u, (mcells m pv ev)[j]? = some (.string u)) (he : ∀ (v : ByteArray) (m : M.Met) (pv ev : Value), (mcells m pv ev).set! j (.string v) = mcells (takeM v m i) pv ev) :
    TakeC lo hi g B w0 i (.func (.func 64) #[] #[.pointer (some ⟨b, 0, none⟩)]) :=
  ⟨_, _, rfl, enters_of Tryz.func64 (by kernel_rfl) rfl, fun W v m pv ev hS hM hv _ _ => by
    obtain ⟨u, hu⟩ := hj m pv ev
    refine (takeText_any b g j v u W ((hS.cell (p := ⟨b, 0, none⟩) h1 h2).trans hb) (by omega) (hM.cell hu) (hM.frozen j)).mono ?_
    rintro e w' ⟨rfl, h5, h6⟩
    exact ⟨by rw [hok], (hM.set j _ (he v m pv ev)).of_block h5, h6⟩⟩
theorem takeC_num {i j : Nat} {most : Int} (hb : BoxP w0 b g j) (hk : w0.cell? ⟨k, 0, none⟩ = some (.int .i64 most)) (h1 : lo ≤ b) (h2 : b < hi) (h3 : lo ≤ k) (h4 : k < hi) (hg : g < lo) (hok : ∀ v, takeOk v i = (M.dec (tl v) most).isSome)
    (hj : ∀ (m : M.Met) (pv ev : Value), ∃ u, (mcells m pv ev)[j]? = some (.int .i64 u)) (he : ∀ (v : ByteArray) (m : M.Met) (pv ev : Value), (mcells m pv ev).set! j (.int .i64 ((M.dec (tl v) most).getD 0)) = mcells (takeM v m i) pv ev) :
    TakeC lo hi g B w0 i (.func (.func 68) #[] #[.pointer (some ⟨k, 0, none⟩), .pointer (some ⟨b, 0, none⟩)]) :=
  ⟨_, _, rfl, enters_of Tryz.func68 (by kernel_rfl) rfl, fun W v m pv ev hS hM hv hB hE => by
    obtain ⟨u, hu⟩ := hj m pv ev
    refine (takeNumber_any b k g j v u most _ _ B W ((hS.cell (p := ⟨b, 0, none⟩) h1 h2).trans hb) ((hS.cell (p := ⟨k, 0, none⟩) h3 h4).trans hk) (by omega) hM (hM.cell hu) hv hB hE).mono ?_
    rintro e w' ⟨rfl, h5, h6⟩
    exact ⟨by rw [hok], (hM.set j _ (he v m pv ev)).of_block h5, h6⟩⟩
theorem takeC_time (hb : BoxP w0 b g 8) (h1 : lo ≤ b) (h2 : b < hi) (hg : g < lo) :
    TakeC lo hi g B w0 7 (.func (.func 71) #[] #[.pointer (some ⟨b, 0, none⟩)]) :=
  ⟨_, _, rfl, enters_of Tryz.func71 (by kernel_rfl) rfl, fun W v m pv ev hS hM hv _ _ => by
    refine (takeTime_any b g 8 v m.sec m.nan _ _ W ((hS.cell (p := ⟨b, 0, none⟩) h1 h2).trans hb) (by omega) hM (hM.cell (i := 8) rfl) (hM.cell (i := 9) rfl) hv).mono ?_
    rintro e w' ⟨rfl, h5, h6⟩
    refine ⟨rfl, ?_, h6⟩
    have e1 : (mcells m pv ev).set! 8 (.int .i64 (St.M.norm ((St.M.parse (tl v)).getD (0, 0))).1) = mcells { m with sec := (St.M.norm ((St.M.parse (tl v)).getD (0, 0))).1 } pv ev := rfl
    have e2 : (mcells { m with sec := (St.M.norm ((St.M.parse (tl v)).getD (0, 0))).1 } pv ev).set! 9 (.int .i64 (St.M.norm ((St.M.parse (tl v)).getD (0, 0))).2) = mcells (takeM v m 7) pv ev := rfl
    exact ((hM.set 8 _ e1).set 9 _ e2).of_block h5⟩
end
end Go.Proofs.YtbhpedhdhgjkoaaGreatDoor
