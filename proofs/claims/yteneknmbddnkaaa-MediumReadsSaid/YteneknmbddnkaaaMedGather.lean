/-
  The contracts of Spoilt and Gather.
-/
import Derived.Test.YteneknmbddnkaaaMedIter
namespace Go.Proofs.Yteneknmbddnkaaa
open Go.RowKit Go.Shelf Go.Lib
attribute [local go_sem] Oper.semAt_some

set_option maxRecDepth 100000 in
set_option maxHeartbeats 1000000 in
theorem spoilt_any (g : Nat) (zs bad ss : List Int) (p t : Nat) (w : World) (h : Med w g zs bad ss p t) :
    Calls Try.prog 20 #[.pointer (some ⟨g, 0, none⟩)] w fun e w' => ∃ v, e = .returned v ∧ OwnI w' w.heap.size v bad ∧ Below w.heap.size w w' := by
  obtain ⟨⟨A, c, A1, c1, A2, c2, hb, _, _, _, hr, _⟩, _, _, hs, hs1, hs2⟩ := h
  have d1 := hb.cell (i := 1) rfl
  have HC := hid (cloneI_any A1 bad.length c1 bad w g hr (by omega))
  clear hb hr
  go_enter Try.func20, Try.ntmps20
  go_wp2_with fail
  (with_reducible refine HC.out.mono ?_)
  rintro e w1 ⟨v, rfl, hv, b1⟩
  go_wp2
  go_ret
  exact ⟨v, rfl, hv, b1⟩

theorem ownsRow_turned {own : Nat → Prop} {A B : World} {base : Nat} {e : TypeId} {v : Value} {n : Nat} {xs : List Value} (h : A.ownsRow base e 1 v n xs) (ht : Turned own A B) (hn : ∀ r, v.ownBlock = some r → ¬ own r) : B.ownsRow base e 1 v n xs := by
  have hlt := World.ownsRow.lt h
  refine ⟨h.1, ?_⟩
  rcases h.2 with h' | ⟨g, cap, cur, h1, h2, h3, h4⟩
  · exact .inl h'
  · subst h1
    exact .inr ⟨g, cap, cur, rfl, h2, (ht.block g (hlt g rfl).2 (hn g rfl)).trans h3, h4⟩
theorem Blk.turned {own : Nat → Prop} {A B : World} {g : Nat} {t : TypeId} {vs : List Value} (h : Blk A g t vs) (ht : Turned own A B) (hn : ¬ own g) : Blk B g t vs := h.of_block (ht.block g h.lt hn)

theorem wpListIn_app_bytes {F : Fence} {nF : Nat} {ops : Array Oper} {rest : List Oper} {o : Oper} {a : Act} {w : World} {Q : Exit → Act → World → Prop} (hgd : o.guard = none) (s x : Operand)
    (ho : o.op = .call { callee := .builtin .append, args := #[s, x], argTypes := #[22, 22] }) (base : Nat) (v : Value) (zs : List Int) (hs : a.eval s = v) (hown : OwnY w base v zs)
    (B : Nat) (A : Option Addr) (m c : Nat) (news : List Int) (hx : a.eval x = .slice A m c) (hr : Rd w B A m news) (h63 : zs.length + m ≤ 1000000000) (hbase : base ≤ w.heap.size)
    (h : ∀ v' w', OwnY w' base v' (zs ++ news) → w.grownBy w' v.ownBlock → (v'.ownBlock = v.ownBlock ∨ v'.ownBlock = some w.heap.size) → wpListIn F nF Try.prog ops Q rest (a.put o.dst v') w') : wpListIn F nF Try.prog ops Q (o :: rest) a w := by
  obtain ⟨i0, hi, hz0, hz1, hz2⟩ := info_parts u8_parts
  obtain ⟨v', w', hrun, h2, h3, h4⟩ := run_append_any (P := Try.prog) w base 22 o.type 5 i0 (.int .u8 0) 1 1 Try.underlying22 hi hz0 hz1 hz2 rfl (by decide) v zs.length (bcells zs) hown B A m c (bcells news) hr.reads (bcells_one _) (by unfold maxLen; omega) (by omega) hbase
  refine wpListIn_plain hgd fun K hK => ?_
  unfold Oper.wpIn
  refine ⟨by simp [Oper.about, ho, resolve, Target.leads, Sem.run_pure], ?_⟩
  rw [Oper.semAt_plain F _ _ (by rw [ho]; intro c hc'; cases hc')]
  simp [execOp, ho, resolve, invoke, builtin, hs, hx, hrun, Result.andThen]
  refine hK _ _ (h v' w' ?_ h3 h4)
  unfold OwnY
  rw [List.length_append, bcells_app, hr.len]
  exact h2
theorem grown_one {a b c : World} {row : Option Nat} {k : Nat} (h : a.grownBy b row) (g : b.grownBy c (some k)) (hk : a.heap.size ≤ k) : a.grownBy c row :=
  ⟨g.os.trans h.os, g.tape.trans h.tape, g.output.trans h.output, Nat.le_trans h.size g.size, fun i hi hne => (g.block i (Nat.lt_of_lt_of_le hi h.size) (fun e => by injection e with e; omega)).trans (h.block i hi hne)⟩
theorem grown_far {a b c : World} {row row' : Option Nat} (h : a.grownBy b row) (g : b.grownBy c row') (hk : ∀ k, row' = some k → a.heap.size ≤ k) : a.grownBy c row :=
  ⟨g.os.trans h.os, g.tape.trans h.tape, g.output.trans h.output, Nat.le_trans h.size g.size, fun i hi hne => (g.block i (Nat.lt_of_lt_of_le hi h.size) (fun e => by have := hk i e.symm; omega)).trans (h.block i hi hne)⟩
theorem Blk.later' {w w' : World} {g : Nat} {t : TypeId} {vs : List Value} (h : Blk w g t vs) (hb : Below w.heap.size w w') : Blk w' g t vs := h.below hb h.lt
/-- What Gather gives. -/
def GatherPost (w : World) (g : Nat) (zs bad ss : List Int) (p : Nat) (e : Ending) (w' : World) : Prop :=
  ∃ u v, e = .returned (.agg #[u, v]) ∧ OwnY w' w.heap.size u (zs.drop p) ∧ OwnI w' w.heap.size v (if p = 0 then bad else []) ∧ (∃ t, Med w' g zs bad ss zs.length t) ∧ w.grownBy w' (some g)

/-- Between two rounds. -/
def GAt (w w2 : World) (g : Nat) (v : Value) (bad' : List Int) (pre : List Pc) (wr : World) : Prop :=
  ∃ u, Blk wr (w.heap.size + 1) 27 [u, v] ∧ OwnY wr (w2.heap.size + 2) u (bytesOf pre) ∧ Blk wr w.heap.size 27 [.slice none 0 0, .slice none 0 0] ∧ OwnI wr (w.heap.size + 2) v bad' ∧ w.grownBy wr (some g) ∧ w2.heap.size ≤ wr.heap.size

set_option maxRecDepth 100000 in
set_option maxHeartbeats 8000000 in
theorem gather_in (g : Nat) (zs bad ss : List Int) (p t : Nat) (w : World) (h : Med w g zs bad ss p t) :
    CallsIn Fence.wide 5 Try.prog 15 #[.pointer (some ⟨g, 0, none⟩)] w (GatherPost w g zs bad ss p) := by
  have H := hid h
  have hglt := h.lt
  have c3 := h.c3
  clear h
  refine callsIn_of_wp_marks Try.func15 rfl trivial ?_ rfl
  simp only [Try.ntmps15, List.size_toArray, List.length_cons, List.length_nil, Nat.reduceAdd, Nat.reduceSub, Array.replicate_succ, Array.replicate_zero, List.push_toArray, List.append_toArray, List.nil_append, List.cons_append]
  obtain ⟨o, ho⟩ : ∃ o, o = Obj.cells #[Value.slice none 0 0, Value.slice none 0 0] 27 := ⟨_, rfl⟩
  obtain ⟨W0, hW0⟩ : ∃ W0, W0 = (w.alloc o).alloc o := ⟨_, rfl⟩
  have hs0 : W0.heap.size = w.heap.size + 2 := by rw [hW0]; simp
  have hb0 : Below w.heap.size w W0 := by rw [hW0]; exact ((Below.refl _ _).alloc (Nat.le_refl _) _).alloc (by simp) _
  have hR0 : Blk W0 w.heap.size 27 [.slice none 0 0, .slice none 0 0] := by
    rw [hW0, ho]; exact (Blk.new w _ [.slice none 0 0, .slice none 0 0]).alloc _
  have hX0 : Blk W0 (w.heap.size + 1) 27 [.slice none 0 0, .slice none 0 0] := by
    rw [hW0, ho]
    have := Blk.new (w.alloc (.cells #[.slice none 0 0, .slice none 0 0] 27)) 27 [.slice none 0 0, .slice none 0 0]
    rwa [World.size_alloc] at this
  have hM0 := H.out.later hb0
  have c3a := hM0.c3
  have x0 := hX0.cell (i := 0) rfl
  have x1 := hX0.cell (i := 1) rfl
  have xf := hX0.frozen 1
  rw [hW0, ho] at c3a x0 x1 xf
  have HEQ : Hid (((w.alloc (.cells #[.slice none 0 0, .slice none 0 0] 27)).alloc (.cells #[.slice none 0 0, .slice none 0 0] 27)) = W0) := hid (by rw [hW0, ho])
  have HR0 := hid hR0
  have HX0 := hid hX0
  have HM0 := hid hM0
  have HB0 := hid hb0
  have HS0 := hid hs0
  have HPL := hid H.out.small
  have HUZ : Hid (u8s zs) := hid (by obtain ⟨⟨_, _, _, _, _, _, _, hr, _⟩, _⟩ := H.out; exact hr.bd)
  clear hR0 hX0 hM0 hb0 hs0 hW0 ho
  by_cases h0 : p = 0
  · subst h0
    gi_wp2_with fail
    rw [HEQ.out]
    refine ⟨trivial, ?_⟩
    refine (callsIn_wide.2 (spoilt_any g zs bad ss 0 t W0 HM0.out)).mono ?_
    rintro e w1 ⟨v, rfl, hv, b1⟩
    have hX1 := HX0.out.later' b1
    have xf1 := hX1.frozen 1
    have xc1 := hX1.cell (i := 1) rfl
    have HV1 := hid hv
    have HX1 := hid hX1
    have HB1 := hid b1
    obtain ⟨Av, cv, rfl, _, _⟩ := own_room hv
    clear hX1 hv b1 x0 x1 xf c3a
    gi_wp2_with fail
    obtain ⟨v, hv⟩ : ∃ v, v = Value.slice Av bad.length cv := ⟨_, rfl⟩
    rw [← hv] at HV1 ⊢
    have hv' := hv
    clear hv hv'
    obtain ⟨w2, hw2⟩ : ∃ w2, w1.setCell ⟨w.heap.size + 1, 1, none⟩ v = w2 := ⟨_, rfl⟩
    have hgs := grownBy_setCell w1 (w.heap.size + 1) 1 v
    have HX2 : Hid (Blk w2 (w.heap.size + 1) 27 [.slice none 0 0, v]) := hid (by rw [← hw2]; exact HX1.out.set 1 v)
    have HR2 : Hid (Blk w2 w.heap.size 27 [.slice none 0 0, .slice none 0 0]) := hid (by rw [← hw2]; exact (HR0.out.later' HB1.out).grown hgs (by simp))
    have HV2 : Hid (OwnI w2 (w.heap.size + 2) v bad) := hid (by
      rw [← hw2]
      have := HV1.out
      rw [HS0.out] at this
      exact this.grown hgs (.inr this.ne))
    have HM2 : Hid (Med w2 g zs bad ss 0 t) := hid (by rw [← hw2]; exact (HM0.out.later HB1.out).kept fun k hk => hgs.block k (by have := HB1.out.size; have := HS0.out; omega) (fun e => by injection e with e; omega))
    have HB2 : Hid (Below w.heap.size w w2) := hid (by
      rw [← hw2]
      exact (HB0.out.trans (HB1.out.mono (by rw [HS0.out]; omega))).setCell (p := ⟨w.heap.size + 1, 1, none⟩) (by show _ ≤ _ + 1; omega) _)
    have HG2 : Hid (w.grownBy w2 (some g)) := hid (grown_of_below HB2.out _)
    have HSZ : Hid (w.heap.size + 2 ≤ w2.heap.size) := hid (by rw [← hw2]; have := hgs.size; have := HB1.out.size; have := HS0.out; omega)
    have HVB : Hid (∀ r, v.ownBlock = some r → w.heap.size + 2 ≤ r ∧ r < w2.heap.size) := hid (fun r hr => World.ownsRow.lt HV2.out r hr)
    rw [hw2]
    clear hw2 hgs xf1 xc1 HX1 HV1 HB1 HX0 HR0 HM0 HB0 HEQ
    obtain ⟨bad', hb'⟩ : ∃ bad', bad' = bad := ⟨_, rfl⟩
    rw [← hb'] at HV2
    have HIF : Hid ((if (0 : Nat) = 0 then bad else []) = bad') := hid (by rw [if_pos rfl, hb'])
    clear hb'
    have HNO : Hid (∀ k, k < w2.heap.size → k ≠ g → ¬ ownOf (fun k => k = g) (0 + 2) w2 k) := hid (by
      rintro k hk hne (h | ⟨h1, h2⟩)
      · exact hne h
      · omega)
    have HNB : Hid (∀ r, w2.heap.size + 2 ≤ r → ¬ ownOf (fun k => k = g) (0 + 2) w2 r) := hid (by
      rintro k hk (h | ⟨h1, h2⟩)
      · have := HM2.out.lt; omega
      · omega)
    have hgl := HM2.out.lt
    refine wpIn_rangeP (gf := 33) (pa := #[.pointer (some ⟨g, 0, none⟩)]) rfl (enters_of Try.func33 (by kernel_rfl) rfl)
      (pieces_iter g zs bad ss 0 t w) ?hS (fun o1 o2 => ⟨HM2.out.kept fun k hk => (Below.heap_alloc _ _ _ (by rw [World.size_alloc]; omega)).trans (Below.heap_alloc _ _ _ (by omega)), fun k hk => ((Below.heap_alloc _ _ _ (by rw [World.size_alloc]; omega)).trans (Below.heap_alloc _ _ _ (by omega))).trans (HG2.out.block k (by omega) (fun e => by injection e with e; omega))⟩) ?pv (fun _ => rfl)
      (fun pre wr => GAt w w2 g v bad' pre wr) (fun _ _ _ => False) ?hI ?hIx ?hK ?h0 ?round ?done ?stop
    case hS =>
      rintro xs P o ⟨h1, t', h2⟩
      exact ⟨h1, t', h2.kept fun k hk => World.putObj_heap_other (by omega)⟩
    case pv => rintro k rfl; exact hgl
    case hI =>
      rintro pre P Q ⟨u, h1, h2, h3, h4, h5, h6⟩ ht
      have hs2 := HSZ.out
      refine ⟨u, h1.turned ht (HNO.out _ (by omega) (by omega)), ownsRow_turned h2 ht (fun r hr => HNB.out r (World.ownsRow.lt h2 r hr).1), h3.turned ht (HNO.out _ (by omega) (by omega)), ownsRow_turned h4 ht (fun r hr => HNO.out r (HVB.out r hr).2 (by have := (HVB.out r hr).1; omega)), ?_, Nat.le_trans h6 ht.size⟩
      exact ⟨ht.os.trans h5.os, ht.tape.trans h5.tape, ht.output.trans h5.output, Nat.le_trans h5.size ht.size, fun k hk hne => (ht.block k (Nat.lt_of_lt_of_le hk h5.size) (HNO.out k (by omega) (fun e => hne (by rw [e])))).trans (h5.block k hk hne)⟩
    case hIx => intro j pre P Q h _; exact h
    case hK =>
      rintro pre P ⟨u, _, _, _, _, h5, _⟩
      exact fun k hk => h5.block k (by omega) (fun e => by injection e with e; omega)
    case h0 => exact ⟨_, HX2.out, OwnY.nil _ _, HR2.out, HV2.out, HG2.out, Nat.le_refl _⟩
    case round =>
      rintro pre ⟨pv, pl⟩ W ⟨u, h1, h2, h3, h4, h5, h6⟩ hsz ⟨hk1, hk2⟩
      have hown : OwnY W (w2.heap.size + 2) pv pl := hk1 (pv, pl) (by rw [List.getLast?_append]; rfl)
      rw [bytesOf_snoc] at hk2
      dsimp only at hk2
      have hpu : u8s pl := fun z hz => HUZ.out z (List.mem_of_mem_drop (hk2.subset (List.mem_append_right _ hz)))
      have hlen : (bytesOf pre).length + pl.length ≤ zs.length := by
        have := hk2.length_le
        rw [List.length_append, List.length_drop] at this
        omega
      obtain ⟨Ap, cp, rfl, hrp, hcp, hmp⟩ := hown.rd hpu
      obtain ⟨Au, cu, rfl, hcu, hmu⟩ := own_room h2
      refine ⟨{ tmps := #[.pointer (some ⟨g, 0, none⟩), undef, .pointer (some ⟨w.heap.size, 0, none⟩), .pointer (some ⟨w.heap.size + 1, 0, none⟩), .slice Ap pl.length cp, .pointer (some ⟨g, 0, none⟩), .bool false, undef, .pointer (some ⟨g, 0, none⟩), .pointer (some ⟨g, 0, none⟩),
        .pointer (some ⟨g, 3, none⟩), .int .i64 0, .bool true, .pointer (some ⟨g, 0, none⟩), v, .pointer (some ⟨w.heap.size + 1, 1, none⟩), .pointer (some ⟨g, 0, none⟩), .func (.func 33) #[.pointer (some ⟨g, 0, none⟩)] #[], .slice Ap pl.length cp, undef, undef, undef, undef, undef, undef], defers := [] },
        W, Spared.refl _ _, fun l' m => ⟨?asg, ?bd⟩⟩
      case asg =>
        intro K hK
        dsimp only
        gi_wp2
        exact hK
      case bd =>
        intro o
        have hnb : ∀ k, k ≠ w2.heap.size + 1 → (W.putObj (w2.heap.size + 1) o).heap[k]? = W.heap[k]? := fun k hk => World.putObj_heap_other hk
        have hgp := grownBy_putObj' W (w2.heap.size + 1) o
        have hs2 := HSZ.out
        have g1 := h1.of_block (hnb _ (by omega))
        have g2 : OwnY (W.putObj (w2.heap.size + 1) o) (w2.heap.size + 2) (.slice Au (bytesOf pre).length cu) (bytesOf pre) := h2.grown hgp (.inr (fun e => by have := (World.ownsRow.lt h2 _ e).1; omega))
        have g3 := h3.of_block (hnb _ (by omega))
        have g4 : OwnI (W.putObj (w2.heap.size + 1) o) (w.heap.size + 2) v bad' := h4.grown hgp (.inr (fun e => by have := (HVB.out _ e).2; omega))
        have g5 : w.grownBy (W.putObj (w2.heap.size + 1) o) (some g) := grown_one h5 hgp (by omega)
        have g6 : w2.heap.size ≤ (W.putObj (w2.heap.size + 1) o).heap.size := by rw [World.putObj_size]; exact h6
        have gp : OwnY (W.putObj (w2.heap.size + 1) o) (w2.heap.size + 2) (.slice Ap pl.length cp) pl := hown.grown hgp (.inr (fun e => by have := (World.ownsRow.lt hown _ e).1; omega))
        have hsz' : w2.heap.size + 2 ≤ (W.putObj (w2.heap.size + 1) o).heap.size := by rw [World.putObj_size]; omega
        obtain ⟨V, hV⟩ : ∃ V, W.putObj (w2.heap.size + 1) o = V := ⟨_, rfl⟩
        rw [hV] at g1 g2 g3 g4 g5 g6 gp hsz' ⊢
        have hrv := Rd.of_own gp hpu
        have d0 := g1.cell (i := 0) rfl
        have G1 := hid g1
        have G2 := hid g2
        have G3 := hid g3
        have G4 := hid g4
        have G5 := hid g5
        have HRV := hid hrv
        have HSV := hid hsz'
        have HLN : Hid ((bytesOf pre).length + pl.length ≤ 1000000000) := hid (by have := HPL.out.1; omega)
        clear hV hnb hgp h1 h2 h3 h4 h5 h6 g1 g2 g3 g4 g5 g6 gp hrp hown hk1 hk2 hrv hlen hcp hmp hcu hmu hsz hsz'
        gi_wp2_with (gi_at_builtin; refine wpListIn_app_bytes rfl (.tmp 20) (.tmp 21) rfl (w2.heap.size + 2) (.slice Au (bytesOf pre).length cu) (bytesOf pre) (by simp [Act.eval]) G2.out V.heap.size Ap pl.length cp pl (by simp [Act.eval]) HRV.out HLN.out HSV.out ?_; intro v' w3 k1 k2 k3; obtain ⟨A3, c3, rfl, _, _⟩ := own_room k1; have x3 := G1.out.grown k2 (fun e => by have := (World.ownsRow.lt G2.out _ e).1; omega); have d3 := x3.cell (i := 0) rfl; have f3 := x3.frozen 0; have X3 := hid x3; have K1 := hid k1; have K2 := hid k2; clear x3 k1 k2 k3)
        have hsw := HSZ.out
        have hgs := grownBy_setCell w3 (w.heap.size + 1) 0
        have hub := World.ownsRow.lt G2.out
        refine ⟨⟨?_, fun k ho hk => ?_⟩, _, X3.out.set 0 _, ?_, ?_, ?_, ?_, ?_⟩
        · exact Nat.le_trans K2.out.size (hgs _).size
        · have hk3 : k < w3.heap.size := Nat.lt_of_lt_of_le hk K2.out.size
          rcases ho with rfl | ⟨ho1, ho2⟩
          · exact ((hgs _).block k hk3 (fun e => by injection e with e; omega)).trans (K2.out.block k hk (fun e => by have := (hub _ e.symm).1; omega))
          · exact ((hgs _).block k hk3 (fun e => by injection e with e; omega)).trans (K2.out.block k hk (fun e => by have := (hub _ e.symm).1; omega))
        · have hk1 := K1.out
          rw [List.length_append] at hk1
          rw [bytesOf_snoc]
          exact hk1.grown (hgs _) (.inr (fun e => by have := (World.ownsRow.lt hk1 _ e).1; omega))
        · exact (G3.out.grown K2.out (fun e => by have := (hub _ e).1; omega)).grown (hgs _) (by simp)
        · have hvv : v.ownBlock = none ∨ (v.ownBlock ≠ (Value.slice Au (bytesOf pre).length cu).ownBlock ∧ v.ownBlock ≠ some (w.heap.size + 1)) := by
            cases hq : v.ownBlock with
            | none => exact .inl rfl
            | some r => exact .inr ⟨fun e => by have := (hub _ e.symm).1; have := (HVB.out _ hq).2; omega, fun e => by injection e with e; have := (HVB.out _ hq).1; omega⟩
          exact (G4.out.grown K2.out (hvv.imp id And.left)).grown (hgs _) (hvv.imp id And.right)
        · exact grown_one (grown_far G5.out K2.out (fun k hk => by have := (hub _ hk).1; omega)) (hgs _) (by omega)
        · exact Nat.le_trans (by have := HSV.out; omega) (Nat.le_trans K2.out.size (hgs _).size)
    case done =>
      rintro xs V ⟨hS, tt, hM⟩ ⟨u, h1, h2, h3, h4, h5, h6⟩ hsz hk
      obtain ⟨Au, cu, rfl, hcu, hmu⟩ := own_room h2
      obtain ⟨Av, cv, rfl, _, _⟩ := own_room h4
      have d0 := h1.cell (i := 0) rfl
      have d1 := h1.cell (i := 1) rfl
      have q0 := h3.cell (i := 0) rfl
      have q1 := h3.cell (i := 1) rfl
      have r0 := h3.frozen 0
      have r1 := h3.frozen 1
      have H1 := hid h1
      have H2 := hid h2
      have H3 := hid h3
      have H4 := hid h4
      have H5 := hid h5
      have HS := hid hS
      have HM := hid hM
      clear h1 h2 h3 h4 h5 hS hM
      gi_wp2
      have hs2 := HSZ.out
      have e1 : w2.heap.size ≠ w.heap.size := by omega
      have hk2 := ((Below.heap_setCell _ ⟨w.heap.size, 1, none⟩ (.slice Av bad'.length cv) _ e1).trans (Below.heap_setCell V ⟨w.heap.size, 0, none⟩ (.slice Au (bytesOf xs).length cu) _ e1)).trans hk
      refine ⟨by simp, .inl ⟨_, _, rfl, run_takeDeferred hk2, ?_⟩⟩
      have gs1 := grownBy_setCell V w.heap.size 0 (.slice Au (bytesOf xs).length cu)
      have gs2 := grownBy_setCell (V.setCell ⟨w.heap.size, 0, none⟩ (.slice Au (bytesOf xs).length cu)) w.heap.size 1 (.slice Av bad'.length cv)
      have gs3 := grownBy_putObj' ((V.setCell ⟨w.heap.size, 0, none⟩ (.slice Au (bytesOf xs).length cu)).setCell ⟨w.heap.size, 1, none⟩ (.slice Av bad'.length cv)) w2.heap.size (.deferred none)
      have hbb : bad' = (if 0 = 0 then bad else []) := by have := HIF.out; simpa using this.symm
      have f3 := ((H3.out.set 0 (.slice Au (bytesOf xs).length cu)).set 1 (.slice Av bad'.length cv)).of_block (w' := ((V.setCell ⟨w.heap.size, 0, none⟩ (.slice Au (bytesOf xs).length cu)).setCell ⟨w.heap.size, 1, none⟩ (.slice Av bad'.length cv)).putObj w2.heap.size (.deferred none)) (World.putObj_heap_other (by omega))
      refine ⟨_, results_img rfl rfl f3, _, _, rfl, ?_, ?_, ⟨tt, HM.out.kept fun k hk => ?_⟩, ?_⟩
      · have h2' := H2.out
        rw [← HS.out]
        exact (((ownsRow_lower h2' (base' := w.heap.size) (by omega)).kept gs1 (.inr (fun e => by have := (World.ownsRow.lt h2' _ e).1; omega))).kept gs2 (.inr (fun e => by have := (World.ownsRow.lt h2' _ e).1; omega))).kept gs3 (.inr (fun e => by have := (World.ownsRow.lt h2' _ e).1; omega))
      · have h4' := H4.out
        rw [← hbb]
        exact (((ownsRow_lower h4' (base' := w.heap.size) (by omega)).kept gs1 (.inr (fun e => by have := (World.ownsRow.lt h4' _ e).1; omega))).kept gs2 (.inr (fun e => by have := (World.ownsRow.lt h4' _ e).1; omega))).kept gs3 (.inr (fun e => by have := (World.ownsRow.lt HV2.out _ e).2; omega))
      · exact ((World.putObj_heap_other (by omega)).trans (gs2.block k (by have := gs1.size; omega) (fun e => by injection e with e; omega))).trans (gs1.block k (by omega) (fun e => by injection e with e; omega))
      · exact grown_one (grown_one (grown_one H5.out gs1 (Nat.le_refl _)) gs2 (Nat.le_refl _)) gs3 (by omega)
    case stop =>
      rintro j pre V hS h hsz hk
      exact h.elim
  · have hne : ((p : Int) == 0) = false := by simp; omega
    gi_wp2_with fail
    rw [HEQ.out]
    obtain ⟨v, hv⟩ : ∃ v, v = Value.slice none 0 0 := ⟨_, rfl⟩
    obtain ⟨bad', hb'⟩ : ∃ bad', bad' = ([] : List Int) := ⟨_, rfl⟩
    have HIF : Hid ((if p = 0 then bad else []) = bad') := hid (by rw [if_neg h0, hb'])
    have HX2 : Hid (Blk W0 (w.heap.size + 1) 27 [.slice none 0 0, v]) := hid (by rw [hv]; exact HX0.out)
    have HR2 := HR0
    have HM2 := HM0
    have HV2 : Hid (OwnI W0 (w.heap.size + 2) v bad') := hid (by rw [hv, hb']; exact OwnI.nil _ _)
    have HG2 : Hid (w.grownBy W0 (some g)) := hid (grown_of_below HB0.out _)
    have HSZ : Hid (w.heap.size + 2 ≤ W0.heap.size) := hid (by rw [HS0.out]; exact Nat.le_refl _)
    have HVB : Hid (∀ r, v.ownBlock = some r → w.heap.size + 2 ≤ r ∧ r < W0.heap.size) := hid (fun r hr => World.ownsRow.lt HV2.out r hr)
    clear x0 x1 xf c3a HEQ HX0 HR0 HM0 hb' hv h0 HB0 HS0
    generalize W0 = w2 at *
    have HNO : Hid (∀ k, k < w2.heap.size → k ≠ g → ¬ ownOf (fun k => k = g) (0 + 2) w2 k) := hid (by
      rintro k hk hne (h | ⟨h1, h2⟩)
      · exact hne h
      · omega)
    have HNB : Hid (∀ r, w2.heap.size + 2 ≤ r → ¬ ownOf (fun k => k = g) (0 + 2) w2 r) := hid (by
      rintro k hk (h | ⟨h1, h2⟩)
      · have := HM2.out.lt; omega
      · omega)
    have hgl := HM2.out.lt
    refine wpIn_rangeP (gf := 33) (pa := #[.pointer (some ⟨g, 0, none⟩)]) rfl (enters_of Try.func33 (by kernel_rfl) rfl)
      (pieces_iter g zs bad ss p t w) ?hS (fun o1 o2 => ⟨HM2.out.kept fun k hk => (Below.heap_alloc _ _ _ (by rw [World.size_alloc]; omega)).trans (Below.heap_alloc _ _ _ (by omega)), fun k hk => ((Below.heap_alloc _ _ _ (by rw [World.size_alloc]; omega)).trans (Below.heap_alloc _ _ _ (by omega))).trans (HG2.out.block k (by omega) (fun e => by injection e with e; omega))⟩) ?pv (fun _ => rfl)
      (fun pre wr => GAt w w2 g v bad' pre wr) (fun _ _ _ => False) ?hI ?hIx ?hK ?h0 ?round ?done ?stop
    case hS =>
      rintro xs P o ⟨h1, t', h2⟩
      exact ⟨h1, t', h2.kept fun k hk => World.putObj_heap_other (by omega)⟩
    case pv => rintro k rfl; exact hgl
    case hI =>
      rintro pre P Q ⟨u, h1, h2, h3, h4, h5, h6⟩ ht
      have hs2 := HSZ.out
      refine ⟨u, h1.turned ht (HNO.out _ (by omega) (by omega)), ownsRow_turned h2 ht (fun r hr => HNB.out r (World.ownsRow.lt h2 r hr).1), h3.turned ht (HNO.out _ (by omega) (by omega)), ownsRow_turned h4 ht (fun r hr => HNO.out r (HVB.out r hr).2 (by have := (HVB.out r hr).1; omega)), ?_, Nat.le_trans h6 ht.size⟩
      exact ⟨ht.os.trans h5.os, ht.tape.trans h5.tape, ht.output.trans h5.output, Nat.le_trans h5.size ht.size, fun k hk hne => (ht.block k (Nat.lt_of_lt_of_le hk h5.size) (HNO.out k (by omega) (fun e => hne (by rw [e])))).trans (h5.block k hk hne)⟩
    case hIx => intro j pre P Q h _; exact h
    case hK =>
      rintro pre P ⟨u, _, _, _, _, h5, _⟩
      exact fun k hk => h5.block k (by omega) (fun e => by injection e with e; omega)
    case h0 => exact ⟨_, HX2.out, OwnY.nil _ _, HR2.out, HV2.out, HG2.out, Nat.le_refl _⟩
    case round =>
      rintro pre ⟨pv, pl⟩ W ⟨u, h1, h2, h3, h4, h5, h6⟩ hsz ⟨hk1, hk2⟩
      have hown : OwnY W (w2.heap.size + 2) pv pl := hk1 (pv, pl) (by rw [List.getLast?_append]; rfl)
      rw [bytesOf_snoc] at hk2
      dsimp only at hk2
      have hpu : u8s pl := fun z hz => HUZ.out z (List.mem_of_mem_drop (hk2.subset (List.mem_append_right _ hz)))
      have hlen : (bytesOf pre).length + pl.length ≤ zs.length := by
        have := hk2.length_le
        rw [List.length_append, List.length_drop] at this
        omega
      obtain ⟨Ap, cp, rfl, hrp, hcp, hmp⟩ := hown.rd hpu
      obtain ⟨Au, cu, rfl, hcu, hmu⟩ := own_room h2
      refine ⟨{ tmps := #[.pointer (some ⟨g, 0, none⟩), undef, .pointer (some ⟨w.heap.size, 0, none⟩), .pointer (some ⟨w.heap.size + 1, 0, none⟩), .slice Ap pl.length cp, .pointer (some ⟨g, 0, none⟩), .bool false, undef, .pointer (some ⟨g, 0, none⟩), .pointer (some ⟨g, 0, none⟩),
        .pointer (some ⟨g, 3, none⟩), .int .i64 p, .bool false, undef, undef, undef, .pointer (some ⟨g, 0, none⟩), .func (.func 33) #[.pointer (some ⟨g, 0, none⟩)] #[], .slice Ap pl.length cp, undef, undef, undef, undef, undef, undef], defers := [] },
        W, Spared.refl _ _, fun l' m => ⟨?asg, ?bd⟩⟩
      case asg =>
        intro K hK
        dsimp only
        gi_wp2
        exact hK
      case bd =>
        intro o
        have hnb : ∀ k, k ≠ w2.heap.size + 1 → (W.putObj (w2.heap.size + 1) o).heap[k]? = W.heap[k]? := fun k hk => World.putObj_heap_other hk
        have hgp := grownBy_putObj' W (w2.heap.size + 1) o
        have hs2 := HSZ.out
        have g1 := h1.of_block (hnb _ (by omega))
        have g2 : OwnY (W.putObj (w2.heap.size + 1) o) (w2.heap.size + 2) (.slice Au (bytesOf pre).length cu) (bytesOf pre) := h2.grown hgp (.inr (fun e => by have := (World.ownsRow.lt h2 _ e).1; omega))
        have g3 := h3.of_block (hnb _ (by omega))
        have g4 : OwnI (W.putObj (w2.heap.size + 1) o) (w.heap.size + 2) v bad' := h4.grown hgp (.inr (fun e => by have := (HVB.out _ e).2; omega))
        have g5 : w.grownBy (W.putObj (w2.heap.size + 1) o) (some g) := grown_one h5 hgp (by omega)
        have g6 : w2.heap.size ≤ (W.putObj (w2.heap.size + 1) o).heap.size := by rw [World.putObj_size]; exact h6
        have gp : OwnY (W.putObj (w2.heap.size + 1) o) (w2.heap.size + 2) (.slice Ap pl.length cp) pl := hown.grown hgp (.inr (fun e => by have := (World.ownsRow.lt hown _ e).1; omega))
        have hsz' : w2.heap.size + 2 ≤ (W.putObj (w2.heap.size + 1) o).heap.size := by rw [World.putObj_size]; omega
        obtain ⟨V, hV⟩ : ∃ V, W.putObj (w2.heap.size + 1) o = V := ⟨_, rfl⟩
        rw [hV] at g1 g2 g3 g4 g5 g6 gp hsz' ⊢
        have hrv := Rd.of_own gp hpu
        have d0 := g1.cell (i := 0) rfl
        have G1 := hid g1
        have G2 := hid g2
        have G3 := hid g3
        have G4 := hid g4
        have G5 := hid g5
        have HRV := hid hrv
        have HSV := hid hsz'
        have HLN : Hid ((bytesOf pre).length + pl.length ≤ 1000000000) := hid (by have := HPL.out.1; omega)
        clear hV hnb hgp h1 h2 h3 h4 h5 h6 g1 g2 g3 g4 g5 g6 gp hrp hown hk1 hk2 hrv hlen hcp hmp hcu hmu hsz hsz'
        gi_wp2_with (gi_at_builtin; refine wpListIn_app_bytes rfl (.tmp 20) (.tmp 21) rfl (w2.heap.size + 2) (.slice Au (bytesOf pre).length cu) (bytesOf pre) (by simp [Act.eval]) G2.out V.heap.size Ap pl.length cp pl (by simp [Act.eval]) HRV.out HLN.out HSV.out ?_; intro v' w3 k1 k2 k3; obtain ⟨A3, c3, rfl, _, _⟩ := own_room k1; have x3 := G1.out.grown k2 (fun e => by have := (World.ownsRow.lt G2.out _ e).1; omega); have d3 := x3.cell (i := 0) rfl; have f3 := x3.frozen 0; have X3 := hid x3; have K1 := hid k1; have K2 := hid k2; clear x3 k1 k2 k3)
        have hsw := HSZ.out
        have hgs := grownBy_setCell w3 (w.heap.size + 1) 0
        have hub := World.ownsRow.lt G2.out
        refine ⟨⟨?_, fun k ho hk => ?_⟩, _, X3.out.set 0 _, ?_, ?_, ?_, ?_, ?_⟩
        · exact Nat.le_trans K2.out.size (hgs _).size
        · have hk3 : k < w3.heap.size := Nat.lt_of_lt_of_le hk K2.out.size
          rcases ho with rfl | ⟨ho1, ho2⟩
          · exact ((hgs _).block k hk3 (fun e => by injection e with e; omega)).trans (K2.out.block k hk (fun e => by have := (hub _ e.symm).1; omega))
          · exact ((hgs _).block k hk3 (fun e => by injection e with e; omega)).trans (K2.out.block k hk (fun e => by have := (hub _ e.symm).1; omega))
        · have hk1 := K1.out
          rw [List.length_append] at hk1
          rw [bytesOf_snoc]
          exact hk1.grown (hgs _) (.inr (fun e => by have := (World.ownsRow.lt hk1 _ e).1; omega))
        · exact (G3.out.grown K2.out (fun e => by have := (hub _ e).1; omega)).grown (hgs _) (by simp)
        · have hvv : v.ownBlock = none ∨ (v.ownBlock ≠ (Value.slice Au (bytesOf pre).length cu).ownBlock ∧ v.ownBlock ≠ some (w.heap.size + 1)) := by
            cases hq : v.ownBlock with
            | none => exact .inl rfl
            | some r => exact .inr ⟨fun e => by have := (hub _ e.symm).1; have := (HVB.out _ hq).2; omega, fun e => by injection e with e; have := (HVB.out _ hq).1; omega⟩
          exact (G4.out.grown K2.out (hvv.imp id And.left)).grown (hgs _) (hvv.imp id And.right)
        · exact grown_one (grown_far G5.out K2.out (fun k hk => by have := (hub _ hk).1; omega)) (hgs _) (by omega)
        · exact Nat.le_trans (by have := HSV.out; omega) (Nat.le_trans K2.out.size (hgs _).size)
    case done =>
      rintro xs V ⟨hS, tt, hM⟩ ⟨u, h1, h2, h3, h4, h5, h6⟩ hsz hk
      obtain ⟨Au, cu, rfl, hcu, hmu⟩ := own_room h2
      obtain ⟨Av, cv, rfl, _, _⟩ := own_room h4
      have d0 := h1.cell (i := 0) rfl
      have d1 := h1.cell (i := 1) rfl
      have q0 := h3.cell (i := 0) rfl
      have q1 := h3.cell (i := 1) rfl
      have r0 := h3.frozen 0
      have r1 := h3.frozen 1
      have H1 := hid h1
      have H2 := hid h2
      have H3 := hid h3
      have H4 := hid h4
      have H5 := hid h5
      have HS := hid hS
      have HM := hid hM
      clear h1 h2 h3 h4 h5 hS hM
      gi_wp2
      have hs2 := HSZ.out
      have e1 : w2.heap.size ≠ w.heap.size := by omega
      have hk2 := ((Below.heap_setCell _ ⟨w.heap.size, 1, none⟩ (.slice Av bad'.length cv) _ e1).trans (Below.heap_setCell V ⟨w.heap.size, 0, none⟩ (.slice Au (bytesOf xs).length cu) _ e1)).trans hk
      refine ⟨by simp, .inl ⟨_, _, rfl, run_takeDeferred hk2, ?_⟩⟩
      have gs1 := grownBy_setCell V w.heap.size 0 (.slice Au (bytesOf xs).length cu)
      have gs2 := grownBy_setCell (V.setCell ⟨w.heap.size, 0, none⟩ (.slice Au (bytesOf xs).length cu)) w.heap.size 1 (.slice Av bad'.length cv)
      have gs3 := grownBy_putObj' ((V.setCell ⟨w.heap.size, 0, none⟩ (.slice Au (bytesOf xs).length cu)).setCell ⟨w.heap.size, 1, none⟩ (.slice Av bad'.length cv)) w2.heap.size (.deferred none)
      have hbb : bad' = (if p = 0 then bad else []) := by have := HIF.out; simpa using this.symm
      have f3 := ((H3.out.set 0 (.slice Au (bytesOf xs).length cu)).set 1 (.slice Av bad'.length cv)).of_block (w' := ((V.setCell ⟨w.heap.size, 0, none⟩ (.slice Au (bytesOf xs).length cu)).setCell ⟨w.heap.size, 1, none⟩ (.slice Av bad'.length cv)).putObj w2.heap.size (.deferred none)) (World.putObj_heap_other (by omega))
      refine ⟨_, results_img rfl rfl f3, _, _, rfl, ?_, ?_, ⟨tt, HM.out.kept fun k hk => ?_⟩, ?_⟩
      · have h2' := H2.out
        rw [← HS.out]
        exact (((ownsRow_lower h2' (base' := w.heap.size) (by omega)).kept gs1 (.inr (fun e => by have := (World.ownsRow.lt h2' _ e).1; omega))).kept gs2 (.inr (fun e => by have := (World.ownsRow.lt h2' _ e).1; omega))).kept gs3 (.inr (fun e => by have := (World.ownsRow.lt h2' _ e).1; omega))
      · have h4' := H4.out
        rw [← hbb]
        exact (((ownsRow_lower h4' (base' := w.heap.size) (by omega)).kept gs1 (.inr (fun e => by have := (World.ownsRow.lt h4' _ e).1; omega))).kept gs2 (.inr (fun e => by have := (World.ownsRow.lt h4' _ e).1; omega))).kept gs3 (.inr (fun e => by have := (World.ownsRow.lt HV2.out _ e).2; omega))
      · exact ((World.putObj_heap_other (by omega)).trans (gs2.block k (by have := gs1.size; omega) (fun e => by injection e with e; omega))).trans (gs1.block k (by omega) (fun e => by injection e with e; omega))
      · exact grown_one (grown_one (grown_one H5.out gs1 (Nat.le_refl _)) gs2 (Nat.le_refl _)) gs3 (by omega)
    case stop =>
      rintro j pre V hS h hsz hk
      exact h.elim

theorem gather_any (g : Nat) (zs bad ss : List Int) (p t : Nat) (w : World) (h : Med w g zs bad ss p t) :
    Calls Try.prog 15 #[.pointer (some ⟨g, 0, none⟩)] w (GatherPost w g zs bad ss p) := (callsIn_wide (n := 5)).1 (gather_in g zs bad ss p t w h)
end Go.Proofs.Yteneknmbddnkaaa
