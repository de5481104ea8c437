/-
  'writes', SinkWrites' loop.
-/
import Derived.Test.YtgjafjochgljnaaSnkRef
import Derived.Test.YtgjafjochgljnaaSnkRows
import Derived.Deep.CutRange
namespace Go.Proofs.Ytgjafjochgljnaa
open Go.RowKit Go.Lib

section
variable {P : Program} {md : Region.Mode} {ops : Array Oper} {Q : Exit → Act → World → Prop} {S : World → Prop}
/-- Two may come up. -/
theorem twoH {i j : Nat} (d e : Nat) {oi oj : Oper} {fuel : Nat} {listed : Array Bool} {a : Act} {w : World} (hi : ops[i]? = some oi) (hj : ops[j]? = some oj) (hd : oi.dst = some d) (he : oj.dst = some e) (hr : Region.ready md ops listed = [i, j])
    (hwi : Region.wanted oi (yielded ops a.tmps) = true) (hwj : Region.wanted oj (yielded ops a.tmps) = true)
    (h1 : ∀ K' : Act → World → Prop, Shut (∀ v w', S w' → (S w' → wpAnyH P md ops Q S fuel (listed.setIfInBounds i true) (a.put (some d) v) w') → K' (a.put oi.dst v) w') → Oper.wp P oi a w K' Q)
    (h2 : ∀ K' : Act → World → Prop, Shut (∀ v w', S w' → (S w' → wpAnyH P md ops Q S fuel (listed.setIfInBounds j true) (a.put (some e) v) w') → K' (a.put oj.dst v) w') → Oper.wp P oj a w K' Q) : wpAnyH P md ops Q S (fuel + 1) listed a w :=
  wpAnyH_ready hr (by simp) (AllReadyH.cons hi (fun K' hK => by
    rw [if_pos hwi]
    exact h1 K' (fun v w' hS hW => hK _ _ hS (by rw [hd]; exact hW))) (AllReadyH.cons hj (fun K' hK => by
    rw [if_pos hwj]
    exact h2 K' (fun v w' hS hW => hK _ _ hS (by rw [he]; exact hW))) AllReadyH.nil))
/-- A store comes up alone. -/
theorem loneN {i : Nat} {o : Oper} {fuel : Nat} {listed : Array Bool} {a : Act} {w : World} (ho : ops[i]? = some o) (hd : o.dst = none) (hr : Region.ready md ops listed = [i]) (hw : Region.wanted o (yielded ops a.tmps) = true)
    (h : ∀ K' : Act → World → Prop, Shut (∀ a' w', S w' → (S w' → wpAnyH P md ops Q S fuel (listed.setIfInBounds i true) a' w') → K' a' w') → Oper.wp P o a w K' Q) : wpAnyH P md ops Q S (fuel + 1) listed a w :=
  wpAnyH_ready hr (by simp) (AllReadyH.cons ho (fun K' hK => by
    rw [if_pos hw]
    exact h K' hK) AllReadyH.nil)
end

theorem OwnY.alloc' {w : World} {b : Nat} {v : Value} {l : List Int} (h : OwnY w b v l) (o : Obj) : OwnY (w.alloc o) b v l := World.ownsRow.alloc h o
theorem flat_front (ls : List (List Int)) (k : Nat) : (ls.take k).flatten.length ≤ ls.flatten.length := by
  have h : ls.flatten = (ls.take k).flatten ++ (ls.drop k).flatten := by rw [← List.flatten_append, List.take_append_drop]
  rw [h, List.length_append]
  omega

/-- What the document's Write made, in a block. -/
structure C9 (w2 wc : World) (gu : Nat) (v : Value) (zs : List Int) (d : Int) : Prop where
  box : Blk wc gu 43 [v, .int .i64 d]
  own : OwnY wc w2.heap.size v zs
  apart : v.ownBlock ≠ some gu
  at_ : w2.heap.size ≤ gu
  below : Below w2.heap.size w2 wc
theorem C9.store {w2 X : World} {gu : Nat} {u0 u1 v : Value} {zs : List Int} {d : Int} (hb : Blk X gu 43 [u0, u1]) (ho : OwnY X w2.heap.size v zs) (hap : v.ownBlock ≠ some gu) (hat : w2.heap.size ≤ gu) (hbel : Below w2.heap.size w2 X) :
    C9 w2 ((X.setCell ⟨gu, 0, none⟩ v).setCell ⟨gu, 1, none⟩ (.int .i64 d)) gu v zs d :=
  ⟨(hb.set 0 v).set 1 _, ((Fr.set (F := fun k => k = gu) X gu 0 v rfl).trans (Fr.set _ gu 1 _ rfl)).own ho (fun k hk e => hap (by rw [hk, e])), hap, hat, (hbel.setCell (p := ⟨gu, 0, none⟩) hat _).setCell (p := ⟨gu, 1, none⟩) hat _⟩

theorem Blk.laterB {w w' : World} {g : Nat} {t : TypeId} {vs : List Value} (h : Blk w g t vs) (hb : Below w.heap.size w w') : Blk w' g t vs := h.below hb h.lt

/-- The document's Write, what comes of it named. -/
theorem refWrite_c (AB : Option Addr) (nB cB : Nat) (zs : List Int) (lf : Nat) (A : Option Addr) (n c : Nat) (ls : List Int) (w : World) (B m : Nat) (ys : List Int) (D cd : Int) (hz : Rd w B AB nB zs) (hr : Rd w B A n ls) (hB : B ≤ w.heap.size) (hnc : n ≤ c) (hc : c ≤ maxLen) (hs : nB + n ≤ 1000000) (hlf : lf ≤ 9223372036854775807) (hm : m = min n lf)
    (hy : zs ++ ls.take m = ys) (hD : ((lf - m : Nat) : Int) = D) (hcd : (if m < n then (20 : Int) else 0) = cd) :
    Calls Try.prog 16 #[.agg #[.slice AB nB cB, .int .i64 lf], .slice A n c] w fun e w' => ∃ v, e = .returned (.tuple #[.agg #[v, .int .i64 D], .int .i64 m, .int .i64 cd]) ∧ OwnY w' w.heap.size v ys ∧ Below w.heap.size w w' := by
  refine (refWrite_any AB nB cB zs lf A n c ls w B m hz hr hB hnc hc hs hlf hm).mono ?_
  rintro e w' ⟨v, cd', rfl, ho, hc', hb⟩
  rw [hD, hc', hcd]
  rw [hy] at ho
  exact ⟨v, rfl, ho, hb⟩

/-- Behind some rows. -/
structure WrAt (w : World) (g gt : Nat) (room : Int) (a : Value) (zs : List Int) (wr : World) : Prop where
  own : OwnY wr w.heap.size a zs
  snk : ∃ v, Snk wr w.heap.size g v room zs ∧ (∀ q, a.ownBlock = some q → v.ownBlock ≠ some q) ∧ v.ownBlock ≠ some gt
  apart : a.ownBlock ≠ some g ∧ a.ownBlock ≠ some gt
  box : Blk wr gt 43 [a, .int .i64 (room - zs.length)]
  ne : g ≠ gt
  at_ : w.heap.size ≤ gt
  below : Below w.heap.size w wr

theorem WrAt.later {w wr w' : World} {g gt : Nat} {room : Int} {a : Value} {zs : List Int} (h : WrAt w g gt room a zs wr) (hb : Below wr.heap.size wr w') : WrAt w g gt room a zs w' := by
  obtain ⟨v, h1, h2, h3⟩ := h.snk
  exact ⟨(Fr.of_below (F := fun _ => False) hb).own h.own (fun _ _ e => e), ⟨v, h1.later hb, h2, h3⟩, h.apart, h.box.laterB hb, h.ne, h.at_, h.below.trans (hb.mono h.below.size)⟩
theorem WrAt.next {w wr w2 wc : World} {g gt gu : Nat} {rm D : Int} {a x v v2 v' : Value} {ys : List Int} (hS2 : Snk w2 w.heap.size g v2 rm ys) (hx : Blk w2 gt 43 [a, x]) (hv2 : ∀ q, v2.ownBlock = some q → (v.ownBlock = some q ∨ wr.heap.size ≤ q) ∧ q < w2.heap.size)
    (hvg : v.ownBlock ≠ some gt) (hgl : g < wr.heap.size) (htl : gt < wr.heap.size) (hsz : wr.heap.size ≤ w2.heap.size) (hne : g ≠ gt) (hgt : w.heap.size ≤ gt) (hb : Below w.heap.size w w2) (hC : C9 w2 wc gu v' ys D) (hD : rm - (ys.length : Int) = D) :
    WrAt w g gt rm v' ys ((wc.setCell ⟨gt, 0, none⟩ v').setCell ⟨gt, 1, none⟩ (.int .i64 D)) := by
  have hfr : Fr (fun k => k = gt) wc ((wc.setCell ⟨gt, 0, none⟩ v').setCell ⟨gt, 1, none⟩ (.int .i64 D)) := (Fr.set (F := fun k => k = gt) wc gt 0 v' rfl).trans (Fr.set _ gt 1 _ rfl)
  have hvq : ∀ q, v'.ownBlock = some q → w2.heap.size ≤ q := fun q hq => (hC.own.lt hq).1
  have hv2g : v2.ownBlock ≠ some gt := fun e => by
    rcases (hv2 gt e).1 with h | h
    · exact hvg h
    · omega
  refine ⟨(hfr.own hC.own (fun k hk e => by have := hvq k hk; omega)).lower hb.size, ⟨v2, (hS2.later hC.below).kept hfr (fun k hk e => ?_), fun q hq hvq2 => ?_, hv2g⟩, ⟨fun e => by have := hvq g e; omega, fun e => by have := hvq gt e; omega⟩, ?_, hne, hgt, ?_⟩
  · rcases hk with h | h
    · exact hne (by rw [← h, e])
    · exact hv2g (by rw [h, e])
  · have := hvq q hq; have := (hv2 q hvq2).2; omega
  · rw [hD]
    exact ((hx.below hC.below hx.lt).set 0 v').set 1 (.int .i64 D)
  · exact ((hb.trans (hC.below.mono hb.size)).setCell (p := ⟨gt, 0, none⟩) hgt _).setCell (p := ⟨gt, 1, none⟩) hgt _

set_option maxRecDepth 100000 in
set_option maxHeartbeats 8000000 in
theorem writes_any (room : Int) (A : Option Addr) (n c : Nat) (ls : List (List Int)) (w : World) (B : Nat) (hro : room ≤ 9223372036854775807) (hr : RdR w B A n ls) (hB : B ≤ w.heap.size) (hnm : n ≤ maxLen) (hs : ls.flatten.length ≤ 500000) :
    Calls Try.prog 12 #[.int .i64 room, .slice A n c] w fun e w' => e = .returned (.bool true) ∧ Below w.heap.size w w' := by
  have HN := hid (new_any room w hro)
  have HN2 := hid (fun (W : World) => refNew_any room W hro)
  have hrm0 : 0 ≤ max room 0 := by omega
  have hrm1 : max room 0 ≤ 9223372036854775807 := by omega
  generalize max room 0 = rm at *
  unfold maxLen at hnm
  have HAT := hid (fun (W : World) (hb : Below w.heap.size w W) (k : Nat) (hk : k < n) => (hr.keep (w' := W) fun p hp => hb.cell (Nat.lt_of_lt_of_le hp hB)).2 k hk)
  have HFL := hid (fun k => Nat.le_trans (flat_front ls k) hs)
  clear hr hs
  go_enter Try.func12, Try.ntmps12
  go_wp2_with fail
  (with_reducible refine HN.out.mono ?_)
  rintro e w1 ⟨g, rfl, hS1, b1⟩
  have HS1 := hid hS1
  have B1 := hid b1
  clear hS1 b1 HN
  go_wp2_with fail
  (with_reducible refine (HN2.out w1).mono ?_)
  rintro e w2 ⟨rfl, b2⟩
  have HS2 := hid (HS1.out.later b2)
  have B2 := hid (B1.out.trans (b2.mono B1.out.size))
  clear b2
  go_wp2_with fail
  have HW0 : Hid (WrAt w g w2.heap.size rm (.slice none 0 0) [] (w2.alloc (.cells #[.slice none 0 0, .int .i64 rm] 43))) := hid (by
    have hb := B2.out.alloc B2.out.size (.cells #[.slice none 0 0, .int .i64 rm] 43)
    have hbx : Blk (w2.alloc (.cells #[.slice none 0 0, .int .i64 rm] 43)) w2.heap.size 43 [.slice none 0 0, .int .i64 rm] := Blk.new w2 _ _
    exact ⟨OwnY.nil _ _, ⟨_, HS2.out.later ((Below.refl _ _).alloc (Nat.le_refl _) _), (fun q hq => by cases hq), by simp [Value.ownBlock]⟩, ⟨by simp [Value.ownBlock], by simp [Value.ownBlock]⟩,
      by simpa using hbx, Nat.ne_of_lt HS2.out.lt, B2.out.size, hb⟩)
  generalize w2.alloc (.cells #[.slice none 0 0, .int .i64 rm] 43) = wz at *
  generalize hgt : w2.heap.size = gt at *
  clear hgt HS2 B2 HN2 HS1 B1
  go_loopw [7] (fun i wr => ∃ (k : Nat) (a : Value) (zs : List Int), k ≤ n ∧ i = .int .i64 k ∧ zs.length ≤ (ls.take k).flatten.length ∧ WrAt w g gt rm a zs wr) (fun i _ => n - (intOf i).toNat)
  case atStart => exact ⟨0, _, [], Nat.zero_le _, rfl, Nat.zero_le _, HW0.out⟩
  case round =>
    obtain ⟨k, a, zs, hk, rfl, hzl, hat⟩ := hrel
    by_cases hlt : k < n
    · obtain ⟨ha, ⟨v, hsk, hav, hvg⟩, ⟨hag, hagt⟩, hbx, hne, hgt, hb⟩ := hat
      obtain ⟨b, off, A', c', l, rfl, hbB, hl, c0, hrl, hlc, hcc⟩ := HAT.out wr hb k hlt
      obtain ⟨Aa, ca, rfl, hra, _, _⟩ := ha.rd (fun z hz => hsk.bytes z hz)
      have hfit := hsk.fits
      have hu2 := hsk.bytes
      obtain ⟨lf, hlf⟩ : ∃ lf : Nat, rm - (zs.length : Int) = lf := ⟨(rm - zs.length).toNat, by omega⟩
      obtain ⟨m, hm⟩ : ∃ m, m = min l.length lf := ⟨_, rfl⟩
      have hgot : M.got rm zs.length l.length = m := by unfold M.got; rw [hlf, hm]; rfl
      obtain ⟨ys, hys⟩ : ∃ ys, zs ++ l.take m = ys := ⟨_, rfl⟩
      have hyl : ys.length = zs.length + m := by rw [← hys, List.length_append, List.length_take]; omega
      obtain ⟨D, hD⟩ : ∃ D : Int, rm - (ys.length : Int) = D := ⟨_, rfl⟩
      have hD2 : ((lf - m : Nat) : Int) = D := by omega
      obtain ⟨cd, hcd⟩ : ∃ cd : Int, (if m < l.length then (20 : Int) else 0) = cd := ⟨_, rfl⟩
      have hcb : 0 ≤ cd ∧ cd ≤ 20 := by rw [← hcd]; split <;> omega
      have hnx := flat_next hl
      have hfk := HFL.out (k + 1)
      rw [hnx, List.length_append] at hfk
      have hzn : ys.length ≤ (ls.take (k + 1)).flatten.length := by rw [hnx, List.length_append]; omega
      have HYL : Hid (ys.length ≤ 1000000) := hid (by omega)
      have HWR := hid (write_f w.heap.size g v rm zs A' l.length c' l wr B m ys cd hsk hb.size hrl (Nat.le_trans hB hb.size) hlc hcc (by omega) hgot hys hcd)
      have HA2 := hid (fun (w2 : World) (hF : Fr (Snk.foot g v) wr w2) => hF.own ha (fun q hq hf => by
        rcases hf with e | hf
        · exact hag (by rw [hq, e])
        · exact hav q hq hf))
      have HX2 := hid (fun (w2 : World) (hF : Fr (Snk.foot g v) wr w2) => hbx.of_block (hF.block gt hbx.lt (fun hf => by
        rcases hf with e | hf
        · exact hne e.symm
        · exact hvg hf)))
      have HC2 := hid (fun (w2 : World) (hb2 : Below w.heap.size wr w2) => (hb2.cell (p := ⟨b, off + k, none⟩) (Nat.lt_of_lt_of_le hbB hB)).trans c0)
      have HR2 := hid (fun (w2 : World) (hb2 : Below w.heap.size wr w2) => hrl.keep (w' := w2) fun p hp => hb2.cell (Nat.lt_of_lt_of_le hp hB))
      have HBW := hid hb
      have HAL : Hid (∀ q, (Value.slice Aa zs.length ca).ownBlock = some q → q < wr.heap.size) := hid (fun q hq => (ha.lt hq).2)
      have HGL : Hid (g < wr.heap.size) := hid hsk.lt
      have HTL : Hid (gt < wr.heap.size) := hid hbx.lt
      have HVL : Hid (∀ q, v.ownBlock = some q → q < wr.heap.size) := hid (fun q hq => (hsk.own.lt hq).2)
      have HVG := hid hvg
      have HNE := hid hne
      have HGT := hid hgt
      have HLC := hid (⟨hlc, hcc⟩ : l.length ≤ c' ∧ c' ≤ maxLen)
      have HSM : Hid (zs.length + l.length ≤ 1000000) := hid (by omega)
      have HLF : Hid (lf ≤ 9223372036854775807) := hid (by omega)
      have HM := hid hm
      have HCD := hid hcd
      have HYS := hid hys
      have HU2 := hid hu2
      have HD2 := hid hD2
      have HZN := hid hzn
      have HDD := hid hD
      unfold maxLen at hcc
      have hLn : l.length ≤ 1000000 := by omega
      rw [hlf] at HX2
      have hrest : Hid (rm - (zs.length : Int) = lf) := hid hlf
      clear ha hsk hav hvg hag hagt hbx hne hb hrl hra hm hgot hys hcd hnx hfk hzn hD2 hu2 hl hgt hyl hzl hlf hD hfit
      go_wp2_with fail
      (with_reducible refine HWR.out.mono ?_)
      rintro e w2 ⟨v2, rfl, hS2, b2, f2, hv2⟩
      have c02 := HC2.out w2 b2
      have ha2 := HA2.out w2 f2
      have hra2 := ha2.rd HU2.out
      obtain ⟨Ax, cx, ex, hrx, hcx, hmx⟩ := hra2
      cases ex
      have HRX := hid hrx
      have hx2 := HX2.out w2 f2
      have HXX := hid hx2
      have HS2 := hid hS2
      have HV2 : Hid (∀ q, v2.ownBlock = some q → (v.ownBlock = some q ∨ wr.heap.size ≤ q) ∧ q < w2.heap.size) := hid (fun q hq => ⟨by
        rcases hv2 with e | e | ⟨q', e, hl⟩
        · exact .inl (by rw [← e]; exact hq)
        · rw [e] at hq; cases hq
        · rw [e] at hq; injection hq with hq; exact .inr (by omega), (hS2.own.lt hq).2⟩)
      have CT := hid (fun (W : World) (hW : Below w2.heap.size w2 W) => (hx2.below hW hx2.lt).cell (i := 0) rfl)
      have CU := hid (fun (W : World) (hW : Below w2.heap.size w2 W) => (hx2.below hW hx2.lt).cell (i := 1) rfl)
      have CR := hid (fun (W : World) (hW : Below w2.heap.size w2 W) => (hW.cell (p := ⟨b, off + k, none⟩) (Nat.lt_of_lt_of_le hbB (Nat.le_trans hB (Nat.le_trans HBW.out.size b2.size)))).trans c02)
      have HR3 := hid (HR2.out w2 b2)
      have HB2 := hid (HBW.out.trans b2)
      have HWS : Hid (wr.heap.size ≤ w2.heap.size) := hid b2.size
      have HBB := hid (Nat.le_trans hB HB2.out.size)
      have HRW := hid (fun (W : World) (hW : Below w2.heap.size w2 W) => refWrite_c Aa zs.length ca zs lf A' l.length c' l W w2.heap.size m ys D cd (HRX.out.keep (w' := W) fun p hp => hW.cell hp) ((HR3.out.keep (w' := W) fun p hp => hW.cell (Nat.lt_of_lt_of_le hp HBB.out)).more HBB.out) hW.size HLC.out.1 HLC.out.2 HSM.out HLF.out HM.out HYS.out HD2.out HCD.out)
      clear hS2 b2 f2 hv2 ha2 hrx hx2 c0 hcx hmx HWR HA2 HX2 HC2 HR2
      go_wp2_with fail
      clear c02
      go_cut [10, 11, 12] from 19 to 69 (fun s10 s11 s12 wc => ∃ (gu : Nat) (A4 : Option Addr) (c4 : Nat), s10 = .pointer (some ⟨gu, 0, none⟩) ∧ s11 = .int .i64 m ∧ s12 = .int .i64 cd ∧ C9 w2 wc gu (.slice A4 ys.length c4) ys D)
      case first =>
        refine wp_region_held_drew (S := fun W => Below w2.heap.size w2 W) (by kernel_rfl) (below_drew' (Below.refl _ _)) (fun hS => ?_)
        refine takeH (i := 0) (v := ?_) 35 rfl rfl (by kernel_rfl) (by kernel_rfl) (by kernel_rfl) (fun _ _ _ h => h) (by rfl) ?hy0p hS ?rest0p
        case hy0p => (intro W hW; have f0 := CT.out W hW; have f1 := CU.out W hW; have f2 := CR.out W hW; clear hW; go_simp; first | done | with_reducible rfl)
        try simp only [Act.put, List.setIfInBounds_toArray, List.set_cons_zero, List.set_cons_succ]
        refine takeH (i := 1) (v := ?_) 36 rfl rfl (by kernel_rfl) (by kernel_rfl) (by kernel_rfl) (fun _ _ _ h => h) (by rfl) ?hy1p hS ?rest1p
        case hy1p => (intro W hW; have f0 := CT.out W hW; have f1 := CU.out W hW; have f2 := CR.out W hW; clear hW; go_simp; first | done | with_reducible rfl)
        try simp only [Act.put, List.setIfInBounds_toArray, List.set_cons_zero, List.set_cons_succ]
        refine takeH (i := 2) (v := ?_) 37 rfl rfl (by kernel_rfl) (by kernel_rfl) (by kernel_rfl) (fun _ _ _ h => h) (by rfl) ?hy2p hS ?rest2p
        case hy2p => (intro W hW; have f0 := CT.out W hW; have f1 := CU.out W hW; have f2 := CR.out W hW; clear hW; go_simp; first | done | with_reducible rfl)
        try simp only [Act.put, List.setIfInBounds_toArray, List.set_cons_zero, List.set_cons_succ]
        refine takeH (i := 3) (v := ?_) 38 rfl rfl (by kernel_rfl) (by kernel_rfl) (by kernel_rfl) (fun _ _ _ h => h) (by rfl) ?hy3p hS ?rest3p
        case hy3p => (intro W hW; have f0 := CT.out W hW; have f1 := CU.out W hW; have f2 := CR.out W hW; clear hW; go_simp; first | done | with_reducible rfl)
        try simp only [Act.put, List.setIfInBounds_toArray, List.set_cons_zero, List.set_cons_succ]
        refine takeH (i := 4) (v := ?_) 39 rfl rfl (by kernel_rfl) (by kernel_rfl) (by kernel_rfl) (fun _ _ _ h => h) (by rfl) ?hy4p hS ?rest4p
        case hy4p => (intro W hW; have f0 := CT.out W hW; have f1 := CU.out W hW; have f2 := CR.out W hW; clear hW; go_simp; first | done | with_reducible rfl)
        try simp only [Act.put, List.setIfInBounds_toArray, List.set_cons_zero, List.set_cons_succ]
        refine twoH (i := 5) (j := 10) 40 10 rfl rfl rfl rfl (by kernel_rfl) (by rfl) (by rfl) (fun K hK => ?callp) (fun K hK => ?allocp)
        case callp =>
          go_simp
          (with_reducible refine (HRW.out _ hS).mono ?_)
          rintro e w4 ⟨v4, rfl, ho4, b4⟩
          have B4 := hS.trans (b4.mono hS.size)
          obtain ⟨A4, c4, rfl, _, _⟩ := own_room ho4
          have HO4 := hid (ho4.lower hS.size)
          clear b4 ho4 hS
          refine hK.out _ _ B4 (fun hS => ?_)
          clear hK K
          try simp only [Act.put, List.setIfInBounds_toArray, List.set_cons_zero, List.set_cons_succ]
          refine takeH (i := 6) (v := ?_) 34 rfl rfl (by kernel_rfl) (by kernel_rfl) (by kernel_rfl) (fun _ _ _ h => h) (by rfl) ?hy6q hS ?rest6q
          case hy6q => (intro W hW; clear hW; go_simp; first | done | with_reducible rfl)
          try simp only [Act.put, List.setIfInBounds_toArray, List.set_cons_zero, List.set_cons_succ]
          refine takeH (i := 7) (v := ?_) 41 rfl rfl (by kernel_rfl) (by kernel_rfl) (by kernel_rfl) (fun _ _ _ h => h) (by rfl) ?hy7q hS ?rest7q
          case hy7q => (intro W hW; clear hW; go_simp; first | done | with_reducible rfl)
          try simp only [Act.put, List.setIfInBounds_toArray, List.set_cons_zero, List.set_cons_succ]
          refine takeH (i := 8) (v := ?_) 42 rfl rfl (by kernel_rfl) (by kernel_rfl) (by kernel_rfl) (fun _ _ _ h => h) (by rfl) ?hy8q hS ?rest8q
          case hy8q => (intro W hW; clear hW; go_simp; first | done | with_reducible rfl)
          try simp only [Act.put, List.setIfInBounds_toArray, List.set_cons_zero, List.set_cons_succ]
          refine takeH (i := 9) (v := ?_) 43 rfl rfl (by kernel_rfl) (by kernel_rfl) (by kernel_rfl) (fun _ _ _ h => h) (by rfl) ?hy9q hS ?rest9q
          case hy9q => (intro W hW; clear hW; go_simp; first | done | with_reducible rfl)
          try simp only [Act.put, List.setIfInBounds_toArray, List.set_cons_zero, List.set_cons_succ]
          refine loneH (i := 10) 10 rfl rfl (by kernel_rfl) (by rfl) (fun K hK => ?_)
          go_simp
          refine hK.out _ _ (hS.alloc hS.size _) (fun hS => ?_)
          clear hK K
          try simp only [Act.put, List.setIfInBounds_toArray, List.set_cons_zero, List.set_cons_succ]
          have HC : C9 w2 (w4.alloc (.cells #[.slice A4 ys.length c4, .int .i64 D] 43)) w4.heap.size (.slice A4 ys.length c4) ys D := ⟨Blk.new w4 _ [.slice A4 ys.length c4, .int .i64 D], HO4.out.alloc' _, fun e => by have := (HO4.out.lt e).2; omega, B4.size, B4.alloc B4.size _⟩
          refine loneN (i := 11) rfl rfl (by kernel_rfl) (by rfl) (fun K hK => ?_)
          go_simp
          refine hK.out _ _ HC.below (fun hS => ?_)
          clear hK K
          try simp only [Act.put, List.setIfInBounds_toArray, List.set_cons_zero, List.set_cons_succ]
          refine takeH (i := 12) (v := ?_) 11 rfl rfl (by kernel_rfl) (by kernel_rfl) (by kernel_rfl) (fun _ _ _ h => h) (by rfl) ?hy12q hS ?rest12q
          case hy12q => (intro W hW; clear hW; go_simp; first | done | with_reducible rfl)
          try simp only [Act.put, List.setIfInBounds_toArray, List.set_cons_zero, List.set_cons_succ]
          refine takeH (i := 13) (v := ?_) 12 rfl rfl (by kernel_rfl) (by kernel_rfl) (by kernel_rfl) (fun _ _ _ h => h) (by rfl) ?hy13q hS ?rest13q
          case hy13q => (intro W hW; clear hW; go_simp; first | done | with_reducible rfl)
          try simp only [Act.put, List.setIfInBounds_toArray, List.set_cons_zero, List.set_cons_succ]
          refine wpAnyH_done (by kernel_rfl) ?_ _
          go_wp2
          go_meet
          case rel => exact ⟨_, A4, c4, rfl, rfl, rfl, HC⟩
        case allocp =>
          go_simp
          have hbx : Blk (w2.drew.alloc (.cells #[.slice none 0 0, .int .i64 0] 43)) w2.heap.size 43 [.slice none 0 0, .int .i64 0] := Blk.new w2.drew _ _
          have B3 : Below w2.heap.size w2 (w2.drew.alloc (.cells #[.slice none 0 0, .int .i64 0] 43)) := hS.alloc hS.size _
          have HS3 : Hid ((w2.drew.alloc (.cells #[.slice none 0 0, .int .i64 0] 43)).heap.size = w2.heap.size + 1) := hid (by simp)
          refine hK.out _ _ B3 (fun hS => ?_)
          clear hK K
          try simp only [Act.put, List.setIfInBounds_toArray, List.set_cons_zero, List.set_cons_succ]
          refine loneH (i := 5) 40 rfl rfl (by kernel_rfl) (by rfl) (fun K hK => ?_)
          go_simp
          (with_reducible refine (HRW.out _ hS).mono ?_)
          rintro e w4 ⟨v4, rfl, ho4, b4⟩
          have B4 := hS.trans (b4.mono hS.size)
          obtain ⟨A4, c4, rfl, _, _⟩ := own_room ho4
          have hb4 := hbx.below b4 hbx.lt
          replace ho4 : OwnY w4 (w2.heap.size + 1) (Value.slice A4 ys.length c4) ys := by simpa using ho4
          have HO4 := hid (ho4.lower (Nat.le_succ _))
          have HAP : Hid ((Value.slice A4 ys.length c4).ownBlock ≠ some w2.heap.size) := hid (ho4.apart (Nat.lt_succ_self _))
          have g2 := hb4.cell (i := 0) rfl
          have g3 := hb4.cell (i := 1) rfl
          have g0 := hb4.frozen 0
          have g1 := hb4.frozen 1
          have HC := hid (C9.store (d := D) hb4 HO4.out HAP.out (Nat.le_refl _) B4)
          clear b4 ho4 hS hb4 hbx
          refine hK.out _ _ B4 (fun hS => ?_)
          clear hK K
          try simp only [Act.put, List.setIfInBounds_toArray, List.set_cons_zero, List.set_cons_succ]
          refine takeH (i := 6) (v := ?_) 34 rfl rfl (by kernel_rfl) (by kernel_rfl) (by kernel_rfl) (fun _ _ _ h => h) (by rfl) ?hy6r hS ?rest6r
          case hy6r => (intro W hW; clear hW; go_simp; first | done | with_reducible rfl)
          try simp only [Act.put, List.setIfInBounds_toArray, List.set_cons_zero, List.set_cons_succ]
          refine takeH (i := 7) (v := ?_) 41 rfl rfl (by kernel_rfl) (by kernel_rfl) (by kernel_rfl) (fun _ _ _ h => h) (by rfl) ?hy7r hS ?rest7r
          case hy7r => (intro W hW; clear hW; go_simp; first | done | with_reducible rfl)
          try simp only [Act.put, List.setIfInBounds_toArray, List.set_cons_zero, List.set_cons_succ]
          refine takeH (i := 8) (v := ?_) 42 rfl rfl (by kernel_rfl) (by kernel_rfl) (by kernel_rfl) (fun _ _ _ h => h) (by rfl) ?hy8r hS ?rest8r
          case hy8r => (intro W hW; clear hW; go_simp; first | done | with_reducible rfl)
          try simp only [Act.put, List.setIfInBounds_toArray, List.set_cons_zero, List.set_cons_succ]
          refine takeH (i := 9) (v := ?_) 43 rfl rfl (by kernel_rfl) (by kernel_rfl) (by kernel_rfl) (fun _ _ _ h => h) (by rfl) ?hy9r hS ?rest9r
          case hy9r => (intro W hW; clear hW; go_simp; first | done | with_reducible rfl)
          try simp only [Act.put, List.setIfInBounds_toArray, List.set_cons_zero, List.set_cons_succ]
          refine loneN (i := 11) rfl rfl (by kernel_rfl) (by rfl) (fun K hK => ?_)
          go_simp
          refine hK.out _ _ HC.out.below (fun hS => ?_)
          clear hK K
          try simp only [Act.put, List.setIfInBounds_toArray, List.set_cons_zero, List.set_cons_succ]
          refine takeH (i := 12) (v := ?_) 11 rfl rfl (by kernel_rfl) (by kernel_rfl) (by kernel_rfl) (fun _ _ _ h => h) (by rfl) ?hy12r hS ?rest12r
          case hy12r => (intro W hW; clear hW; go_simp; first | done | with_reducible rfl)
          try simp only [Act.put, List.setIfInBounds_toArray, List.set_cons_zero, List.set_cons_succ]
          refine takeH (i := 13) (v := ?_) 12 rfl rfl (by kernel_rfl) (by kernel_rfl) (by kernel_rfl) (fun _ _ _ h => h) (by rfl) ?hy13r hS ?rest13r
          case hy13r => (intro W hW; clear hW; go_simp; first | done | with_reducible rfl)
          try simp only [Act.put, List.setIfInBounds_toArray, List.set_cons_zero, List.set_cons_succ]
          refine wpAnyH_done (by kernel_rfl) ?_ _
          go_wp2
          go_meet
          case rel => exact ⟨_, A4, c4, rfl, rfl, rfl, HC.out⟩
      case rest =>
        obtain ⟨gu, A4, c4, rfl, rfl, rfl, hC⟩ := hcut
        have hxc := HXX.out.below hC.below HXX.out.lt
        have u0 := hC.box.cell (i := 0) rfl
        have u1 := hC.box.cell (i := 1) rfl
        have x0 := hxc.cell (i := 0) rfl
        have x1 := hxc.cell (i := 1) rfl
        have y0 := hxc.frozen 0
        have y1 := hxc.frozen 1
        have HW6 := hid (WrAt.next HS2.out HXX.out HV2.out HVG.out HGL.out HTL.out HWS.out HNE.out HGT.out HB2.out hC HDD.out)
        clear hC hxc
        go_wp2_with fail
        clear u0 u1 x0 x1 y0 y1
        generalize (wc.setCell ⟨gt, 0, none⟩ (.slice A4 ys.length c4)).setCell ⟨gt, 1, none⟩ (.int .i64 D) = w6 at *
        obtain ⟨v6, hs6, -, -⟩ := HW6.out.snk
        have hra6 := HW6.out.own.rd hs6.bytes
        obtain ⟨Ay, cy, ey, hry, -, -⟩ := hra6
        cases ey
        have HRY := hid hry
        have ecd : IntKind.i64.wrap cd = cd := IntWalk.i64_in _ (by omega)
        have CG0 := hid (fun (W : World) (hW : Below w6.heap.size w6 W) => (HW6.out.box.below hW HW6.out.box.lt).cell (i := 0) rfl)
        have CG1 := hid (fun (W : World) (hW : Below w6.heap.size w6 W) => (HW6.out.box.below hW HW6.out.box.lt).cell (i := 1) rfl)
        rw [HDD.out] at CG1
        have CVB := hid (fun (W : World) (hW : Below w6.heap.size w6 W) => run_str (HRY.out.keep (w' := W) fun p hp => hW.cell hp) c4)
        have HBS := hid (fun (W : World) (hW : Below w6.heap.size w6 W) => bytes_any w.heap.size g v6 rm ys W (hs6.later hW) HYL.out)
        have HLS := hid (fun (W : World) (hW : Below w6.heap.size w6 W) => left_any w.heap.size g v6 rm ys W (hs6.later hW))
        rw [HDD.out] at HLS
        have HS6 := hid hs6
        clear hs6 hry
        refine wp_region_held_drew (S := fun W => Below w6.heap.size w6 W) (by kernel_rfl) (below_drew' (Below.refl _ _)) (fun hS => ?_)
        refine takeH (i := 0) (v := ?_) 45 rfl rfl (by kernel_rfl) (by kernel_rfl) (by kernel_rfl) (fun _ _ _ h => h) (by rfl) ?hy0s hS ?rest0s
        case hy0s => (intro W hW; clear hW; go_simp; first | done | with_reducible rfl)
        try simp only [Act.put, List.setIfInBounds_toArray, List.set_cons_zero, List.set_cons_succ]
        refine takeH (i := 1) (v := ?_) 46 rfl rfl (by kernel_rfl) (by kernel_rfl) (by kernel_rfl) (fun _ _ _ h => h) (by rfl) ?hy1s hS ?rest1s
        case hy1s => (intro W hW; clear hW; go_simp; first | done | with_reducible rfl)
        try simp only [Act.put, List.setIfInBounds_toArray, List.set_cons_zero, List.set_cons_succ]
        refine takeH (i := 2) (v := ?_) 47 rfl rfl (by kernel_rfl) (by kernel_rfl) (by kernel_rfl) (fun _ _ _ h => h) (by rfl) ?hy2s hS ?rest2s
        case hy2s => (intro W hW; clear hW; go_simp; first | done | with_reducible rfl)
        try simp only [Act.put, List.setIfInBounds_toArray, List.set_cons_zero, List.set_cons_succ]
        refine takeH (i := 3) (v := ?_) 48 rfl rfl (by kernel_rfl) (by kernel_rfl) (by kernel_rfl) (fun _ _ _ h => h) (by rfl) ?hy3s hS ?rest3s
        case hy3s => (intro W hW; clear hW; go_simp; first | done | with_reducible rfl)
        try simp only [Act.put, List.setIfInBounds_toArray, List.set_cons_zero, List.set_cons_succ]
        refine takeH (i := 4) (v := ?_) 49 rfl rfl (by kernel_rfl) (by kernel_rfl) (by kernel_rfl) (fun _ _ _ h => h) (by rfl) ?hy4s hS ?rest4s
        case hy4s => (intro W hW; clear hW; go_simp; first | done | with_reducible rfl)
        try simp only [Act.put, List.setIfInBounds_toArray, List.set_cons_zero, List.set_cons_succ]
        refine takeH (i := 5) (v := ?_) 50 rfl rfl (by kernel_rfl) (by kernel_rfl) (by kernel_rfl) (fun _ _ _ h => h) (by rfl) ?hy5s hS ?rest5s
        case hy5s => (intro W hW; clear hW; go_simp; first | done | with_reducible rfl)
        try simp only [Act.put, List.setIfInBounds_toArray, List.set_cons_zero, List.set_cons_succ]
        refine takeH (i := 6) (v := ?_) 51 rfl rfl (by kernel_rfl) (by kernel_rfl) (by kernel_rfl) (fun _ _ _ h => h) (by rfl) ?hy6s hS ?rest6s
        case hy6s => (intro W hW; clear hW; go_simp; first | done | with_reducible rfl)
        try simp only [Act.put, List.setIfInBounds_toArray, List.set_cons_zero, List.set_cons_succ]
        refine takeH (i := 7) (v := ?_) 52 rfl rfl (by kernel_rfl) (by kernel_rfl) (by kernel_rfl) (fun _ _ _ h => h) (by rfl) ?hy7s hS ?rest7s
        case hy7s => (intro W hW; clear hW; go_simp; first | done | with_reducible rfl)
        try simp only [Act.put, List.setIfInBounds_toArray, List.set_cons_zero, List.set_cons_succ]
        refine takeH (i := 8) (v := ?_) 53 rfl rfl (by kernel_rfl) (by kernel_rfl) (by kernel_rfl) (fun _ _ _ h => h) (by rfl) ?hy8s hS ?rest8s
        case hy8s => (intro W hW; clear hW; go_simp; first | done | with_reducible rfl)
        try simp only [Act.put, List.setIfInBounds_toArray, List.set_cons_zero, List.set_cons_succ]
        refine takeH (i := 9) (v := ?_) 54 rfl rfl (by kernel_rfl) (by kernel_rfl) (by kernel_rfl) (fun _ _ _ h => h) (by rfl) ?hy9s hS ?rest9s
        case hy9s => (intro W hW; clear hW; go_simp; first | done | with_reducible rfl)
        try simp only [Act.put, List.setIfInBounds_toArray, List.set_cons_zero, List.set_cons_succ]
        refine takeH (i := 10) (v := ?_) 55 rfl rfl (by kernel_rfl) (by kernel_rfl) (by kernel_rfl) (fun _ _ _ h => h) (by rfl) ?hy10s hS ?rest10s
        case hy10s => (intro W hW; clear hW; go_simp; first | done | with_reducible rfl)
        try simp only [Act.put, List.setIfInBounds_toArray, List.set_cons_zero, List.set_cons_succ]
        refine takeH (i := 13) (v := ?_) 58 rfl rfl (by kernel_rfl) (by kernel_rfl) (by kernel_rfl) (fun _ _ _ h => h) (by rfl) ?hy13s hS ?rest13s
        case hy13s => (intro W hW; have f0 := CG0.out W hW; have f1 := CG1.out W hW; have f2 := CVB.out W hW; clear hW; go_simp; first | done | with_reducible rfl)
        try simp only [Act.put, List.setIfInBounds_toArray, List.set_cons_zero, List.set_cons_succ]
        refine takeH (i := 14) (v := ?_) 59 rfl rfl (by kernel_rfl) (by kernel_rfl) (by kernel_rfl) (fun _ _ _ h => h) (by rfl) ?hy14s hS ?rest14s
        case hy14s => (intro W hW; have f0 := CG0.out W hW; have f1 := CG1.out W hW; have f2 := CVB.out W hW; clear hW; go_simp; first | done | with_reducible rfl)
        try simp only [Act.put, List.setIfInBounds_toArray, List.set_cons_zero, List.set_cons_succ]
        refine takeH (i := 15) (v := ?_) 60 rfl rfl (by kernel_rfl) (by kernel_rfl) (by kernel_rfl) (fun _ _ _ h => h) (by rfl) ?hy15s hS ?rest15s
        case hy15s => (intro W hW; have f0 := CG0.out W hW; have f1 := CG1.out W hW; have f2 := CVB.out W hW; clear hW; go_simp; first | done | with_reducible rfl)
        try simp only [Act.put, List.setIfInBounds_toArray, List.set_cons_zero, List.set_cons_succ]
        refine loneH (i := 11) 56 rfl rfl (by kernel_rfl) (by rfl) (fun K hK => ?_)
        go_simp
        (with_reducible refine (HBS.out _ hS).mono ?_)
        rintro e w8 ⟨A8, c8, rfl, hr8, b8⟩
        have B8 := hS.trans (b8.mono hS.size)
        have HR8 := hid hr8
        have CV8 := hid (fun (W : World) (hW : Below w8.heap.size w8 W) => run_str (HR8.out.keep (w' := W) fun p hp => hW.cell hp) c8)
        clear b8 hS hr8
        refine hK.out _ _ B8 (fun hS => ?_)
        clear hK K
        try simp only [Act.put, List.setIfInBounds_toArray, List.set_cons_zero, List.set_cons_succ]
        refine wpAnyH_narrow (S' := fun W => Below w8.heap.size w8 W) (fun W h => B8.trans (h.mono B8.size)) _ _ _ _ ?_
        clear hS
        have hS := Below.refl w8.heap.size w8
        refine takeH (i := 12) (v := ?_) 57 rfl rfl (by kernel_rfl) (by kernel_rfl) (by kernel_rfl) (fun _ _ _ h => h) (by rfl) ?hy12s hS ?rest12s
        case hy12s => (intro W hW; have f0 := CV8.out W hW; clear hW; go_simp; first | done | with_reducible rfl)
        try simp only [Act.put, List.setIfInBounds_toArray, List.set_cons_zero, List.set_cons_succ]
        refine takeH (i := 16) (v := ?_) 61 rfl rfl (by kernel_rfl) (by kernel_rfl) (by kernel_rfl) (fun _ _ _ h => h) (by rfl) ?hy16s hS ?rest16s
        case hy16s => (intro W hW; clear hW; go_simp; first | done | with_reducible rfl)
        try simp only [Act.put, List.setIfInBounds_toArray, List.set_cons_zero, List.set_cons_succ]
        refine takeH (i := 17) (v := ?_) 62 rfl rfl (by kernel_rfl) (by kernel_rfl) (by kernel_rfl) (fun _ _ _ h => h) (by rfl) ?hy17s hS ?rest17s
        case hy17s => (intro W hW; clear hW; go_simp; first | done | with_reducible rfl)
        try simp only [Act.put, List.setIfInBounds_toArray, List.set_cons_zero, List.set_cons_succ]
        refine takeH (i := 18) (v := ?_) 63 rfl rfl (by kernel_rfl) (by kernel_rfl) (by kernel_rfl) (fun _ _ _ h => h) (by rfl) ?hy18s hS ?rest18s
        case hy18s => (intro W hW; clear hW; go_simp; first | done | with_reducible rfl)
        try simp only [Act.put, List.setIfInBounds_toArray, List.set_cons_zero, List.set_cons_succ]
        refine takeH (i := 19) (v := ?_) 64 rfl rfl (by kernel_rfl) (by kernel_rfl) (by kernel_rfl) (fun _ _ _ h => h) (by rfl) ?hy19s hS ?rest19s
        case hy19s => (intro W hW; clear hW; go_simp; first | done | with_reducible rfl)
        try simp only [Act.put, List.setIfInBounds_toArray, List.set_cons_zero, List.set_cons_succ]
        refine takeH (i := 21) (v := ?_) 66 rfl rfl (by kernel_rfl) (by kernel_rfl) (by kernel_rfl) (fun _ _ _ h => h) (by rfl) ?hy21s hS ?rest21s
        case hy21s => (intro W hW; have f0 := CG0.out W (B8.trans (hW.mono B8.size)); have f1 := CG1.out W (B8.trans (hW.mono B8.size)); have f2 := CVB.out W (B8.trans (hW.mono B8.size)); clear hW; go_simp; first | done | with_reducible rfl)
        try simp only [Act.put, List.setIfInBounds_toArray, List.set_cons_zero, List.set_cons_succ]
        refine takeH (i := 22) (v := ?_) 67 rfl rfl (by kernel_rfl) (by kernel_rfl) (by kernel_rfl) (fun _ _ _ h => h) (by rfl) ?hy22s hS ?rest22s
        case hy22s => (intro W hW; have f0 := CG0.out W (B8.trans (hW.mono B8.size)); have f1 := CG1.out W (B8.trans (hW.mono B8.size)); have f2 := CVB.out W (B8.trans (hW.mono B8.size)); clear hW; go_simp; first | done | with_reducible rfl)
        try simp only [Act.put, List.setIfInBounds_toArray, List.set_cons_zero, List.set_cons_succ]
        refine loneH (i := 20) 65 rfl rfl (by kernel_rfl) (by rfl) (fun K hK => ?_)
        go_simp
        (with_reducible refine (HLS.out _ (B8.trans (hS.mono B8.size))).mono ?_)
        rintro e w9 ⟨rfl, b9⟩
        have B9 := hS.trans (b9.mono hS.size)
        clear b9 hS
        refine hK.out _ _ B9 (fun hS => ?_)
        clear hK K
        try simp only [Act.put, List.setIfInBounds_toArray, List.set_cons_zero, List.set_cons_succ]
        refine takeH (i := 23) (v := ?_) 68 rfl rfl (by kernel_rfl) (by kernel_rfl) (by kernel_rfl) (fun _ _ _ h => h) (by rfl) ?hy23s hS ?rest23s
        case hy23s => (intro W hW; clear hW; go_simp; first | done | with_reducible rfl)
        try simp only [Act.put, List.setIfInBounds_toArray, List.set_cons_zero, List.set_cons_succ]
        refine takeH (i := 24) (v := ?_) 69 rfl rfl (by kernel_rfl) (by kernel_rfl) (by kernel_rfl) (fun _ _ _ h => h) (by rfl) ?hy24s hS ?rest24s
        case hy24s => (intro W hW; clear hW; go_simp; first | done | with_reducible rfl)
        try simp only [Act.put, List.setIfInBounds_toArray, List.set_cons_zero, List.set_cons_succ]
        refine wpAnyH_done (by kernel_rfl) ?_ _
        have HW9 := hid (HW6.out.later (B8.trans (B9.mono B8.size)))
        clear B8 B9
        go_wp2
        go_roundw
        case rel => exact ⟨k + 1, _, ys, by omega, by go_num, HZN.out, HW9.out⟩
        case measure => simp [intOf]; omega
    · go_wp2
      go_ret
      exact ⟨rfl, hat.below⟩
end Go.Proofs.Ytgjafjochgljnaa
