/-
  The contracts of the document's New and Write.
-/
import Derived.Test.YtgjafjochgljnaaSnkPieces
namespace Go.Proofs.Ytgjafjochgljnaa
open Go.RowKit Go.Lib
attribute [local go_sem ↓] slice_from slice_to

theorem results_sink {f : Func} {k : Nat} (hf : f.results = #[ResultVar.cell k 43]) {tmps : Array Value} {g : Nat} {u v : Value} {w : World} (hk : tmps.getD k undef = .pointer (some ⟨g, 0, none⟩)) (hb : Blk w g 43 [u, v]) :
    (results f tmps).run Try.prog w = .ok (.agg #[u, v]) w := by
  simp only [results, hf]
  rw [Array.getD_eq_getD_getElem?] at hk
  have c0 := hb.cell (i := 0) rfl
  have c1 := hb.cell (i := 1) rfl
  simp [go_sem, hk, c0, c1]
theorem results_sink3 {f : Func} {k i j : Nat} {x y : Value} (hf : f.results = #[ResultVar.cell k 43, ResultVar.tmp i, ResultVar.tmp j]) {tmps : Array Value} {g : Nat} {u v : Value} {w : World} (hk : tmps.getD k undef = .pointer (some ⟨g, 0, none⟩))
    (hi : tmps.getD i undef = x) (hj : tmps.getD j undef = y) (hb : Blk w g 43 [u, v]) :
    (results f tmps).run Try.prog w = .ok (.tuple #[.agg #[u, v], x, y]) w := by
  simp only [results, hf]
  rw [Array.getD_eq_getD_getElem?] at hk hi hj
  have c0 := hb.cell (i := 0) rfl
  have c1 := hb.cell (i := 1) rfl
  simp [go_sem, hk, hi, hj, c0, c1]

set_option maxRecDepth 100000 in
set_option maxHeartbeats 400000 in
theorem refNew_any (room : Int) (w : World) (hr : room ≤ 9223372036854775807) :
    Calls Try.prog 15 #[.int .i64 room] w fun e w' => e = .returned (.agg #[.slice none 0 0, .int .i64 (max room 0)]) ∧ Below w.heap.size w w' := by
  by_cases h0 : room < 0
  · have hm : max room 0 = 0 := by omega
    rw [hm]
    clear hm
    go_enter Try.func15, Try.ntmps15
    go_wp2
    exact bodyPost_ret (results_sink rfl rfl (Blk.new w _ [.slice none 0 0, .int .i64 0])) rfl ⟨rfl, (Below.refl _ _).alloc (Nat.le_refl _) _⟩
  · have hm : max room 0 = room := by omega
    rw [hm]
    clear hm
    go_enter Try.func15, Try.ntmps15
    go_wp2
    exact bodyPost_ret (results_sink rfl rfl (Blk.new w _ [.slice none 0 0, .int .i64 room])) rfl ⟨rfl, (Below.refl _ _).alloc (Nat.le_refl _) _⟩

theorem below3 (w : World) (o o2 o3 : Obj) : Below w.heap.size w (((w.alloc o).alloc o2).alloc o3) := (((Below.refl _ w).alloc (Nat.le_refl _) _).alloc (by simp) _).alloc (by simp; omega) _

/-- In the middle of the document's Write: what is made has what was there. -/
structure Mid (w X : World) (v : Value) (zs : List Int) (d : Int) : Prop where
  top : Blk X (w.heap.size + 1 + 1) 43 [v, .int .i64 d]
  res : Blk X (w.heap.size + 1) 43 [.slice none 0 0, .int .i64 0]
  own : OwnY X w.heap.size v zs
  apart : v.ownBlock ≠ some (w.heap.size + 1 + 1) ∧ v.ownBlock ≠ some (w.heap.size + 1)
  below : Below w.heap.size w X
theorem Mid.drew {w X : World} {v : Value} {zs : List Int} {d : Int} (h : Mid w X v zs d) : Mid w X.drew v zs d := ⟨h.top, h.res, h.own, h.apart, below_drew' h.below⟩
theorem Mid.set {w X : World} {v u : Value} {zs : List Int} {d : Int} (ht : Blk X (w.heap.size + 1 + 1) 43 [u, .int .i64 d]) (hr : Blk X (w.heap.size + 1) 43 [.slice none 0 0, .int .i64 0])
    (ho : OwnY X w.heap.size v zs) (ha : v.ownBlock ≠ some (w.heap.size + 1 + 1) ∧ v.ownBlock ≠ some (w.heap.size + 1)) (hb : Below w.heap.size w X) : Mid w (X.setCell ⟨w.heap.size + 1 + 1, 0, none⟩ v) v zs d :=
  ⟨ht.set 0 v, hr.setOther (a := ⟨w.heap.size + 1 + 1, 0, none⟩) (by show w.heap.size + 1 ≠ w.heap.size + 1 + 1; omega) v,
    (Fr.set (F := fun k => k = w.heap.size + 1 + 1) X (w.heap.size + 1 + 1) 0 v rfl).own ho (fun k hk e => ha.1 (by rw [hk, e])), ha, hb.setCell (p := ⟨w.heap.size + 1 + 1, 0, none⟩) (by show w.heap.size ≤ w.heap.size + 1 + 1; omega) v⟩
theorem Mid.blk {w W X : World} {o1 : Obj} {d : Int} (hW : W = ((w.alloc o1).alloc (.cells #[.slice none 0 0, .int .i64 0] 43)).alloc (.cells #[.slice none 0 0, .int .i64 d] 43))
    (hg : W.grownBy X (Value.slice none 0 0).ownBlock) : Blk X (w.heap.size + 1 + 1) 43 [.slice none 0 0, .int .i64 d] := by
  have ht : Blk W (w.heap.size + 1 + 1) 43 [.slice none 0 0, .int .i64 d] := by
    rw [hW]
    have := Blk.new ((w.alloc o1).alloc (.cells #[.slice none 0 0, .int .i64 0] 43)) 43 [.slice none 0 0, .int .i64 d]
    rwa [World.size_alloc, World.size_alloc] at this
  exact ht.grown hg (by simp [Value.ownBlock])
theorem Mid.next {w X X2 : World} {v v2 : Value} {zs ys : List Int} {d : Int} (h : Mid w X v zs d) (ho : OwnY X2 w.heap.size v2 ys) (hg : X.grownBy X2 v.ownBlock) (hv : v2.ownBlock = v.ownBlock ∨ v2.ownBlock = some X.heap.size) : Mid w (X2.setCell ⟨w.heap.size + 1 + 1, 0, none⟩ v2) v2 ys d := by
  have h1 := h.top.lt
  refine Mid.set (h.top.grown hg h.apart.1) (h.res.grown hg h.apart.2) ho ?_ (below_grown h.below hg h.below.size (fun g e => (h.own.lt e).1))
  rcases hv with e | e
  · rw [e]; exact h.apart
  · rw [e]
    refine ⟨fun e' => ?_, fun e' => ?_⟩ <;> injection e' with e' <;> omega
theorem Mid.one {w W X : World} {o1 : Obj} {v : Value} {zs : List Int} {d : Int} (hW : W = ((w.alloc o1).alloc (.cells #[.slice none 0 0, .int .i64 0] 43)).alloc (.cells #[.slice none 0 0, .int .i64 d] 43))
    (ho : OwnY X w.heap.size v zs) (hg : W.grownBy X (Value.slice none 0 0).ownBlock) (hv : v.ownBlock = (Value.slice none 0 0).ownBlock ∨ v.ownBlock = some W.heap.size) : Mid w (X.setCell ⟨w.heap.size + 1 + 1, 0, none⟩ v) v zs d := by
  have hs : W.heap.size = w.heap.size + 1 + 1 + 1 := by rw [hW]; simp
  have ht : Blk W (w.heap.size + 1 + 1) 43 [.slice none 0 0, .int .i64 d] := by
    rw [hW]
    have := Blk.new ((w.alloc o1).alloc (.cells #[.slice none 0 0, .int .i64 0] 43)) 43 [.slice none 0 0, .int .i64 d]
    rwa [World.size_alloc, World.size_alloc] at this
  have hr : Blk W (w.heap.size + 1) 43 [.slice none 0 0, .int .i64 0] := by
    rw [hW]
    have := Blk.new (w.alloc o1) 43 [.slice none 0 0, .int .i64 0]
    rw [World.size_alloc] at this
    exact this.alloc _
  refine Mid.set (ht.grown hg (by simp [Value.ownBlock])) (hr.grown hg (by simp [Value.ownBlock])) ho ?_ (below_grown (by rw [hW]; exact below3 _ _ _ _) hg (by omega) (fun g e => by cases e))
  rcases hv with e | e
  · rw [e]; simp [Value.ownBlock]
  · rw [e, hs]
    refine ⟨fun e' => ?_, fun e' => ?_⟩ <;> injection e' with e' <;> omega

set_option maxRecDepth 100000 in
set_option maxHeartbeats 2000000 in
theorem refWrite_any (AB : Option Addr) (nB cB : Nat) (zs : List Int) (lf : Nat) (A : Option Addr) (n c : Nat) (ls : List Int) (w : World) (B m : Nat) (hz : Rd w B AB nB zs) (hr : Rd w B A n ls) (hB : B ≤ w.heap.size) (hnc : n ≤ c) (hc : c ≤ maxLen) (hs : nB + n ≤ 1000000) (hlf : lf ≤ 9223372036854775807) (hm : m = min n lf) :
    Calls Try.prog 16 #[.agg #[.slice AB nB cB, .int .i64 lf], .slice A n c] w fun e w' => ∃ v cd, e = .returned (.tuple #[.agg #[v, .int .i64 (lf - m : Nat)], .int .i64 m, .int .i64 cd]) ∧ OwnY w' w.heap.size v (zs ++ ls.take m) ∧ (cd = if m < n then 20 else 0) ∧ Below w.heap.size w w' := by
  have HZ := hid (fun (W : World) (hb : Below w.heap.size w W) => hz.keep (w' := W) fun p hp => hb.cell (Nat.lt_of_lt_of_le hp hB))
  have HR := hid (fun (W : World) (hb : Below w.heap.size w W) => (hr.keep (w' := W) fun p hp => hb.cell (Nat.lt_of_lt_of_le hp hB)))
  have HZL := hid hz.len
  clear hz hr
  unfold maxLen at hc
  by_cases hlt : (lf : Int) < n
  · have e1 : IntKind.i64.wrap ((lf : Int) - lf) = 0 := by rw [Int.sub_self]; rfl
    have hmq : m = lf := by omega
    have hqc : lf ≤ c := by omega
    rw [hmq, if_pos (show lf < n by omega)]
    rw [Nat.sub_self]
    clear hm hmq
    have HMID := hid (fun (W X : World) (v : Value) (hW : W = ((w.alloc (.cells #[.slice AB nB cB, .int .i64 lf] 43)).alloc (.cells #[.slice none 0 0, .int .i64 0] 43)).alloc (.cells #[.slice none 0 0, .int .i64 0] 43)) ho hg hv => Mid.one (w := w) (W := W) (X := X) (v := v) (zs := zs) hW ho hg hv)
    have HBLK := hid (fun (W X : World) (hW : W = ((w.alloc (.cells #[.slice AB nB cB, .int .i64 lf] 43)).alloc (.cells #[.slice none 0 0, .int .i64 0] 43)).alloc (.cells #[.slice none 0 0, .int .i64 0] 43)) hg => Mid.blk (w := w) (W := W) (X := X) hW hg)
    go_enter Try.func16, Try.ntmps16
    go_wp2_with (refine wpList_app_bytes rfl (.tmp 20) (.tmp 22) rfl w.heap.size (.slice none 0 0) [] (by simp [Act.eval]) (OwnY.nil _ _) B AB nB cB zs (by simp [Act.eval]) (HZ.out _ (below3 _ _ _ _)) (by simp; omega) (by simp; omega) ?_; intro v1 w1 ho hg hv; obtain ⟨A1, c1, rfl, _, _⟩ := own_room ho; have HM := hid (HMID.out _ _ _ rfl ho hg hv); have hb0 := HBLK.out _ _ rfl hg; have c10 := hb0.cell (i := 0) rfl; have f10 := hb0.frozen 0; clear ho hg hv hb0)
    rw [List.nil_append] at HM
    clear c10 f10 HBLK HMID
    generalize w1.setCell ⟨w.heap.size + 1 + 1, 0, none⟩ (.slice A1 zs.length c1) = X at *
    have d0 := HM.out.top.cell (i := 0) rfl
    have HLQ : Hid (lf ≤ n) := hid (by omega)
    have HSZ : Hid (zs.length + lf ≤ 1000000000) := hid (by rw [HZL.out]; omega)
    have HTL : Hid ((ls.take lf).length = lf) := hid ((HR.out w (Below.refl _ _)).front HLQ.out).len
    go_region_law ((refine step_app_bytes rfl (.tmp 26) (.tmp 29) rfl w.heap.size (.slice A1 zs.length c1) zs (by simp [Act.eval, Act.put]) HM.out.drew.own B A lf c (ls.take lf) (by simp [Act.eval, Act.put]) ((HR.out _ HM.out.drew.below).front HLQ.out) HSZ.out HM.out.drew.below.size ?_); intro v2 w2 ho hg hv; obtain ⟨A2, c2, rfl, _, _⟩ := own_room ho; have HM2 := hid (Mid.next HM.out.drew ho hg hv); have e0 := (HM.out.drew.top.grown hg HM.out.drew.apart.1).cell (i := 0) rfl; have e9 := (HM.out.drew.top.grown hg HM.out.drew.apart.1).frozen 0; clear ho hg hv; rw [List.length_append, HTL.out] at HM2 ⊢)
    generalize w2.setCell ⟨w.heap.size + 1 + 1, 0, none⟩ (.slice A2 (zs.length + lf) c2) = X2 at *
    clear d0 e0 e9
    have d0 := HM2.out.top.cell (i := 0) rfl
    have d1 := HM2.out.top.cell (i := 1) rfl
    have r0 := HM2.out.res.cell (i := 0) rfl
    have r1 := HM2.out.res.cell (i := 1) rfl
    have q0 := HM2.out.res.frozen 0
    have q1 := HM2.out.res.frozen 1
    go_wp2
    exact bodyPost_ret (results_sink3 rfl rfl rfl rfl ((HM2.out.res.set 0 _).set 1 _)) rfl ⟨_, _, rfl, (((Fr.set (F := fun k => k = w.heap.size + 1) X2 (w.heap.size + 1) 0 _ rfl).trans (Fr.set _ (w.heap.size + 1) 1 _ rfl)).own HM2.out.own (fun k hk e => HM2.out.apart.2 (by rw [hk, e]))), rfl, (HM2.out.below.setCell (p := ⟨w.heap.size + 1, 0, none⟩) (Nat.le_succ _) _).setCell (p := ⟨w.heap.size + 1, 1, none⟩) (Nat.le_succ _) _⟩
  · have e1 : IntKind.i64.wrap ((lf : Int) - n) = ((lf - n : Nat) : Int) := by rw [IntWalk.i64_in _ (by omega)]; omega
    have hmq : m = n := by omega
    have hqc : n ≤ c := by omega
    rw [hmq, if_neg (Nat.lt_irrefl n)]
    clear hm hmq
    have HMID := hid (fun (W X : World) (v : Value) (hW : W = ((w.alloc (.cells #[.slice AB nB cB, .int .i64 lf] 43)).alloc (.cells #[.slice none 0 0, .int .i64 0] 43)).alloc (.cells #[.slice none 0 0, .int .i64 (lf - n : Nat)] 43)) ho hg hv => Mid.one (w := w) (W := W) (X := X) (v := v) (zs := zs) hW ho hg hv)
    have HBLK := hid (fun (W X : World) (hW : W = ((w.alloc (.cells #[.slice AB nB cB, .int .i64 lf] 43)).alloc (.cells #[.slice none 0 0, .int .i64 0] 43)).alloc (.cells #[.slice none 0 0, .int .i64 (lf - n : Nat)] 43)) hg => Mid.blk (w := w) (W := W) (X := X) hW hg)
    go_enter Try.func16, Try.ntmps16
    go_wp2_with (refine wpList_app_bytes rfl (.tmp 20) (.tmp 22) rfl w.heap.size (.slice none 0 0) [] (by simp [Act.eval]) (OwnY.nil _ _) B AB nB cB zs (by simp [Act.eval]) (HZ.out _ (below3 _ _ _ _)) (by simp; omega) (by simp; omega) ?_; intro v1 w1 ho hg hv; obtain ⟨A1, c1, rfl, _, _⟩ := own_room ho; have HM := hid (HMID.out _ _ _ rfl ho hg hv); have hb0 := HBLK.out _ _ rfl hg; have c10 := hb0.cell (i := 0) rfl; have f10 := hb0.frozen 0; clear ho hg hv hb0)
    rw [List.nil_append] at HM
    clear c10 f10 HBLK HMID
    generalize w1.setCell ⟨w.heap.size + 1 + 1, 0, none⟩ (.slice A1 zs.length c1) = X at *
    have d0 := HM.out.top.cell (i := 0) rfl
    have HLQ : Hid (n ≤ n) := hid (by omega)
    have HSZ : Hid (zs.length + n ≤ 1000000000) := hid (by rw [HZL.out]; omega)
    have HTL : Hid ((ls.take n).length = n) := hid ((HR.out w (Below.refl _ _)).front HLQ.out).len
    go_region_law ((refine step_app_bytes rfl (.tmp 26) (.tmp 29) rfl w.heap.size (.slice A1 zs.length c1) zs (by simp [Act.eval, Act.put]) HM.out.drew.own B A n c (ls.take n) (by simp [Act.eval, Act.put]) ((HR.out _ HM.out.drew.below).front HLQ.out) HSZ.out HM.out.drew.below.size ?_); intro v2 w2 ho hg hv; obtain ⟨A2, c2, rfl, _, _⟩ := own_room ho; have HM2 := hid (Mid.next HM.out.drew ho hg hv); have e0 := (HM.out.drew.top.grown hg HM.out.drew.apart.1).cell (i := 0) rfl; have e9 := (HM.out.drew.top.grown hg HM.out.drew.apart.1).frozen 0; clear ho hg hv; rw [List.length_append, HTL.out] at HM2 ⊢)
    generalize w2.setCell ⟨w.heap.size + 1 + 1, 0, none⟩ (.slice A2 (zs.length + n) c2) = X2 at *
    clear d0 e0 e9
    have d0 := HM2.out.top.cell (i := 0) rfl
    have d1 := HM2.out.top.cell (i := 1) rfl
    have r0 := HM2.out.res.cell (i := 0) rfl
    have r1 := HM2.out.res.cell (i := 1) rfl
    have q0 := HM2.out.res.frozen 0
    have q1 := HM2.out.res.frozen 1
    go_wp2
    exact bodyPost_ret (results_sink3 rfl rfl rfl rfl ((HM2.out.res.set 0 _).set 1 _)) rfl ⟨_, _, rfl, (((Fr.set (F := fun k => k = w.heap.size + 1) X2 (w.heap.size + 1) 0 _ rfl).trans (Fr.set _ (w.heap.size + 1) 1 _ rfl)).own HM2.out.own (fun k hk e => HM2.out.apart.2 (by rw [hk, e]))), rfl, (HM2.out.below.setCell (p := ⟨w.heap.size + 1, 0, none⟩) (Nat.le_succ _) _).setCell (p := ⟨w.heap.size + 1, 1, none⟩) (Nat.le_succ _) _⟩
end Go.Proofs.Ytgjafjochgljnaa
