/-
  What comes in to meta.From, what it answers, what holds in its loop.
-/
import Derived.Test.YtbhpedhdhgjkoaaGreatDoorMtFromF
import Derived.Test.YtbhpedhdhgjkoaaGreatDoorMtTo
set_option linter.unusedVariables false
set_option linter.unusedSimpArgs false
namespace Go.Proofs.YtbhpedhdhgjkoaaGreatDoor
open Go.RowKit Go.Lib
open Px (R2 tl)
attribute [local go_sem ↓] add_plain
/-- What comes in to From. -/
structure FIn (w : World) (h : M.Hdr) (hp : Value) (l : List R2) (names links : List ByteArray) (more : List (Int × Int)) (A An Al Am : Option Addr) : Prop where
  rparts : ∃ A c, hp = .slice A h.parts.length c ∧ Sp.RdP w w.heap.size A h.parts.length h.parts
  rrecs : Px.RdR w w.heap.size A l
  rnames : RdT w w.heap.size An names
  rlinks : RdT w w.heap.size Al links
  rmore : Sp.RdP w w.heap.size Am more.length more
  nparts : h.parts.length ≤ 500000 ∧ more.length ≤ 500000
  nrecs : l.length ≤ 500000
  nnames : names.length ≤ 1000000 ∧ links.length ≤ 1000000
  fits : ∀ r ∈ l, r.1.size ≤ 1000000 ∧ r.2.size ≤ 1000000
  kind : 0 ≤ h.kind ∧ h.kind ≤ 255
  pn : h.pre.size + h.name.size < 1000000
  texts : h.link.size ≤ 1000000 ∧ h.user.size ≤ 1000000 ∧ h.group.size ≤ 1000000
  tnames : (∀ x ∈ names, x.size ≤ 1000000) ∧ (∀ x ∈ links, x.size ≤ 1000000)
  ints : isI64 h.mode ∧ isI64 h.uid ∧ isI64 h.gid ∧ isI64 h.major ∧ isI64 h.minor ∧ isI64 h.size ∧ isI64 h.real
  i64s : Sp.M.i64s h.parts ∧ Sp.M.i64s more
/-- What From answers. -/
def FromIs (h : M.Hdr) (l : List R2) (names links : List ByteArray) (more : List (Int × Int)) (w : World) (e : Ending) (w' : World) : Prop :=
  ∃ pv ev, e = .returned (.tuple #[.agg (mcells (M.fromM h (Px.rcs l) names links more) pv ev), .int .u16 (M.fromE h (Px.rcs l) names links more : Nat)]) ∧ MIn w' (M.fromM h (Px.rcs l) names links more) pv ev ∧ Below w.heap.size w w'

theorem results_from {tmps : Array Value} {g : Nat} {m : M.Met} {pv ev : Value} {n : Int} {w : World} (hb : MB w g m pv ev) (h2 : tmps.getD 10 undef = .pointer (some ⟨g, 0, none⟩)) (h3 : tmps.getD 11 undef = .int .u16 n) :
    (results Tryz.f4 tmps).run Tryz.prog w = .ok (.tuple #[.agg (mcells m pv ev), .int .u16 n]) w := by
  rw [Array.getD_eq_getD_getElem?] at h2 h3
  have hl := run_loadVar_row (P := Tryz.prog) w g 28 28 (mcells m pv ev) (0, 0) _ hb Tryz.underlying28 rfl met_size
  simp [results, Tryz.results4, h2, h3, asAddr, hl]
theorem rdT_later {w w' : World} {A : Option Addr} {l : List ByteArray} (h : RdT w w.heap.size A l) (hb : Below w.heap.size w w') : RdT w' w'.heap.size A l := fun hn => by
  obtain ⟨b, off, e, hB, hc⟩ := h.below hb hn
  exact ⟨b, off, e, Nat.lt_of_lt_of_le hB hb.size, hc⟩
theorem merged_fit {l rs : List R2} (h : Px.rcs rs = Px.M.merge Px.ltB (Px.rcs l) (Px.rcs [])) (hl : ∀ r ∈ l, r.1.size ≤ 1000000 ∧ r.2.size ≤ 1000000) : ∀ r ∈ rs, r.1.size ≤ 1000000 ∧ r.2.size ≤ 1000000 := by
  intro r hr
  have h1 : Px.rc r ∈ Px.rcs rs := List.mem_map_of_mem hr
  rw [h] at h1
  rcases M.merge_mem h1 with h2 | h2
  · obtain ⟨q, hq, he⟩ := List.mem_map.1 h2
    have e1 : tl q.1 = tl r.1 := congrArg Prod.fst he
    have e2 : tl q.2 = tl r.2 := congrArg Prod.snd he
    have := hl q hq
    rw [tl_inj e1, tl_inj e2] at this
    exact this
  · cases h2
/-- The loop's relation. -/
structure FrInv (w wf wr : World) (h : M.Hdr) (hp : Value) (m : M.Met) (g hi : Nat) (A : Option Addr) (c : Nat) (rs : List R2) : Prop where
  met : MB wr g m (.slice none 0 0) (.slice none 0 0)
  res : MB wr (w.heap.size + 1) {} (.slice none 0 0) (.slice none 0 0)
  hdr : HB wr w.heap.size h hp
  still : Still (g + 1) hi wf wr
  own : Px.OwnR wr (g + 1) (.slice A rs.length c) rs
  below : Below w.heap.size w wr
  gl : w.heap.size + 1 < g
  gh : g < hi
section
variable {w wf wr wr' : World} {h : M.Hdr} {hp : Value} {m m' : M.Met} {g hi : Nat} {A : Option Addr} {c : Nat} {rs : List R2}
theorem FrInv.his (I : FrInv w wf wr h hp m g hi A c rs) : hi ≤ wr.heap.size := I.still.1
theorem FrInv.later (I : FrInv w wf wr h hp m g hi A c rs) (hb : Below wr.heap.size wr wr') : FrInv w wf wr' h hp m g hi A c rs where
  met := I.met.below hb (by have := I.his; have := I.gh; omega)
  res := I.res.below hb (by have := I.his; have := I.gh; have := I.gl; omega)
  hdr := I.hdr.below hb (by have := I.his; have := I.gh; have := I.gl; omega)
  still := I.still.below hb
  own := I.own.below hb
  below := I.below.trans (hb.mono I.below.size)
  gl := I.gl
  gh := I.gh
theorem FrInv.take (I : FrInv w wf wr h hp m g hi A c rs) (hM : MB wr' g m' (.slice none 0 0) (.slice none 0 0)) (hF : Fg g wr wr') : FrInv w wf wr' h hp m' g hi A c rs where
  met := hM
  res := I.res.of_block (hF.block _ (by have := I.his; have := I.gh; have := I.gl; omega) (by have := I.gl; omega))
  hdr := I.hdr.of_block (hF.block _ (by have := I.his; have := I.gh; have := I.gl; omega) (by have := I.gl; omega))
  still := I.still.fg hF (Nat.lt_succ_self _)
  own := own_fg I.own hF (Nat.lt_succ_self _)
  below := hF.below I.below (by have := I.gl; omega) I.below.size
  gl := I.gl
  gh := I.gh
end
theorem min_empty (w : World) : MIn w {} (.slice none 0 0) (.slice none 0 0) where
  parts := ⟨none, 0, rfl, Sp.RdP.none_⟩
  extra := ⟨none, 0, rfl, Px.RdR.none_⟩
  nparts := Nat.zero_le _
  nextra := Nat.zero_le _
  i64s := fun p hp => by cases hp
  fits := fun r hr => by cases hr
  kind := by decide
  texts := by decide
  ints := by decide
theorem from34 {h : M.Hdr} {recs : List Px.M.Rc} {names links : List ByteArray} {more : List (Int × Int)} (hk : M.kindMay h.kind = true) (hn : M.known h recs names links more = none) : M.fromE h recs names links more = 34 ∧ M.fromM h recs names links more = {} := by
  have hE : M.fromE h recs names links more = 34 := by unfold M.fromE; rw [if_neg (by rw [hk]; decide), hn]
  exact ⟨hE, by unfold M.fromM; rw [hE]; rfl⟩
theorem known_none1 {h : M.Hdr} {l rs : List R2} {names links : List ByteArray} {more : List (Int × Int)} {m0 : M.Met} (hrs : Px.rcs rs = Px.M.merge Px.ltB (Px.rcs l) (Px.rcs [])) (hm0 : M.told h names links = m0) (ht : M.taken (Px.rcs rs) m0 = none) : M.known h (Px.rcs l) names links more = none := by
  have e : Px.M.merge Px.ltB (Px.rcs l) [] = Px.rcs rs := hrs.symm
  unfold M.known
  rw [e, hm0, ht]
  rfl
theorem known_is {h : M.Hdr} {l rs : List R2} {names links : List ByteArray} {more : List (Int × Int)} {m0 m : M.Met} (hrs : Px.rcs rs = Px.M.merge Px.ltB (Px.rcs l) (Px.rcs [])) (hm0 : M.told h names links = m0) (ht : M.taken (Px.rcs rs) m0 = some m) :
    M.known h (Px.rcs l) names links more = (M.dig (M.strip m) h (Px.rcs rs) more).map fun m => { m with extra := ((Px.rcs rs).filter fun r => !M.isKey r.1).map M.mk } := by
  have e : Px.M.merge Px.ltB (Px.rcs l) [] = Px.rcs rs := hrs.symm
  unfold M.known
  rw [e, hm0, ht]
  rfl
theorem known_none2 {h : M.Hdr} {l rs : List R2} {names links : List ByteArray} {more : List (Int × Int)} {m0 m : M.Met} (hrs : Px.rcs rs = Px.M.merge Px.ltB (Px.rcs l) (Px.rcs [])) (hm0 : M.told h names links = m0) (ht : M.taken (Px.rcs rs) m0 = some m) (hd : M.dig (M.strip m) h (Px.rcs rs) more = none) : M.known h (Px.rcs l) names links more = none := by
  rw [known_is hrs hm0 ht, hd]
  rfl
end Go.Proofs.YtbhpedhdhgjkoaaGreatDoor
