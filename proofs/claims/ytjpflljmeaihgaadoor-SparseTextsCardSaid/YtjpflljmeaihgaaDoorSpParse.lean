/-
  Parse: the program's answer.
-/
import Derived.Test.YtjpflljmeaihgaaDoorSpSeq
import Derived.Test.YtjpflljmeaihgaaDoorSpNum
namespace Go.Proofs.YtjpflljmeaihgaaDoor
open Go.RowKit Go.Shelf Go.Lib
attribute [local go_sem] Oper.semAt_some

namespace M
theorem nums_prefix_none {a b : List (List UInt8)} (h : nums a = none) : nums (a ++ b) = none := by rw [nums_app, h]; rfl
theorem nums_snoc {a : List (List UInt8)} {t : List UInt8} {ns : List Int} (h : nums a = some ns) : nums (a ++ [t]) = (numOf t).map (fun n => ns ++ [n]) := by
  rw [nums_app, h]
  unfold nums
  cases numOf t with
  | none => rfl
  | some v => simp [nums]
theorem parse_no {s : List UInt8} (hs : s ≠ []) {pre : List (List UInt8)} (hp : pre <+: cuts s) (h : nums pre = none ∨ 2000 < pre.length) : parse s = none := by
  obtain ⟨q, hq⟩ := hp
  unfold parse
  rw [if_neg hs]
  rcases h with h | h
  · rw [← hq, nums_prefix_none h]; rfl
  · cases hn : nums (cuts s) with
    | none => rfl
    | some ns =>
      have := nums_len hn
      rw [← hq, List.length_append] at this
      rw [parseN_some, if_pos (.inr (by omega))]
theorem parse_odd {s : List UInt8} (hs : s ≠ []) {ns : List Int} (hn : nums (cuts s) = some ns) (h : ns.length % 2 = 1) : parse s = none := by
  unfold parse
  rw [if_neg hs, hn, parseN_some, if_pos (.inl h)]
theorem parse_yes {s : List UInt8} (hs : s ≠ []) {ns : List Int} (hn : nums (cuts s) = some ns) (h : ns.length % 2 = 0) (hl : ns.length ≤ 2000) : parse s = some (pairs ns) := by
  unfold parse
  rw [if_neg hs, hn, parseN_some, if_neg (by omega)]
theorem pairs_odd {ms : List Int} {a : Int} (h : ms.length % 2 = 0) : pairs (ms ++ [a]) = pairs ms := by rw [pairs_app _ _ h]; simp [pairs]
theorem pairs_two {ms : List Int} {a b : Int} (h : ms.length % 2 = 0) : pairs ((ms ++ [a]) ++ [b]) = pairs ms ++ [(a, b)] := by rw [List.append_assoc, pairs_app _ _ h]; rfl
end M

theorem ownsRow_turned {own : Nat → Prop} {A B : World} {base : Nat} {e : TypeId} {size n : Nat} {v : Value} {xs : List Value} (h : A.ownsRow base e size v n xs) (ht : Turned own A B) (hn : ∀ k, base ≤ k → ¬ own k) : B.ownsRow base e size v n xs := by
  refine ⟨h.1, ?_⟩
  rcases h.2 with ⟨hv, h0⟩ | ⟨g, cap, cur, hv, hb, hg, h1⟩
  · exact .inl ⟨hv, h0⟩
  · exact .inr ⟨g, cap, cur, hv, hb, (ht.block g (Array.getElem?_eq_some_iff.1 hg).1 (hn g hb)).trans hg, h1⟩

theorem ownsRow_block {A : World} {base : Nat} {e : TypeId} {size n : Nat} {v : Value} {xs : List Value} (h : A.ownsRow base e size v n xs) : ∀ g, v.ownBlock = some g → base ≤ g := by
  intro g hg
  rcases h.2 with ⟨hv, _⟩ | ⟨g', cap, cur, hv, hb, _⟩
  · subst hv; simp [Value.ownBlock] at hg
  · subst hv
    have : g' = g := by simpa [Value.ownBlock] using hg
    omega

/-- append of one part, in a round. -/
theorem wpListIn_appP {F : Fence} {n : Nat} {W : World} {ops : Array Oper} {rest : List Oper} {o : Oper} {a : Act} {Q : Exit → Act → World → Prop} (hgd : o.guard = none) (s x : Operand)
    (ho : o.op = .call { callee := .builtin .append, args := #[s, x], argTypes := #[24, 24] })
    (base : Nat) (v : Value) (l : List M.Pt) (p q : Int) (hs : a.eval s = v) (hown : OwnP W base v l) (hbase : base ≤ W.heap.size)
    (hx : a.eval x = .slice (some ⟨W.heap.size, 0, none⟩) 1 1) (hl : l.length ≤ 1000000)
    (h : ∀ v' w', Hid (OwnP w' base v' (l ++ [(p, q)])) → Hid (Below base W w') → Hid ((W.alloc (.cells #[.int .i64 p, .int .i64 q] 29)).grownBy w' v.ownBlock) → wpListIn F n Tryd.prog ops Q rest (a.put o.dst v') w') :
    wpListIn F n Tryd.prog ops Q (o :: rest) a (W.alloc (.cells #[.int .i64 p, .int .i64 q] 29)) := by
  obtain ⟨i0, hi, hz0, hz1, hz2⟩ := info_parts part_parts
  have hownA : (W.alloc (.cells #[.int .i64 p, .int .i64 q] 29)).ownsRow base 29 2 v l.length (pcells l) := World.ownsRow.alloc hown _
  refine wpListIn_append_own _ hgd s x 24 ho base 29 i0 (.agg #[.int .i64 0, .int .i64 0]) 2 16 Tryd.underlying24 hi hz0 hz1 hz2 rfl (by decide) v l.length (pcells l) hs hownA ⟨W.heap.size, 0, none⟩ 1 1 [.int .i64 p, .int .i64 q] hx rfl ?_ ?_ ?_ ?_ ?_ ?_
  · intro j u hj
    match j, hj with
    | 0, hj => simp at hj; subst hj; simp [Addr.add, World.cell?_alloc_mark]
    | 1, hj => simp at hj; subst hj; simp [Addr.add, World.cell?_alloc_mark]
  · intro u hu
    simp at hu
    rcases hu with rfl | rfl <;> rfl
  · unfold maxLen; omega
  · omega
  · simp; omega
  · intro v' w' hown' hgrow _
    refine h v' w' (Lib.hid ?_) (Lib.hid ?_) (Lib.hid hgrow)
    · unfold OwnP
      rw [pcells_app, List.length_append]
      exact hown'
    · refine below_grown ((Below.refl base W).alloc hbase _) hgrow (by simp; omega) ?_
      intro g hg
      rcases hownA.2 with ⟨rfl, _⟩ | ⟨g', cap, cur, rfl, hb, _⟩
      · simp [Value.ownBlock] at hg
      · have : g' = g := by simpa [Value.ownBlock] using hg
        omega

/-- What Parse answers. -/
def PartsTo (o : Option (List M.Pt)) (w : World) (e : Ending) (w' : World) : Prop :=
  ∃ v, e = .returned (.tuple #[v, .bool o.isSome]) ∧ OwnP w' w.heap.size v (o.getD []) ∧ Below w.heap.size w w'

/-- Parse's variables in memory. -/
structure PB (w V : World) (v : Value) (pa pl : Int) (b : Bool) : Prop where
  res : Boxed V w.heap.size 24 (.slice none 0 0)
  ok : Boxed V (w.heap.size + 1) 4 (.bool false)
  box : Boxed V (w.heap.size + 2) 24 v
  part : BoxP V (w.heap.size + 3) pa pl
  whole : Boxed V (w.heap.size + 4) 4 (.bool b)
  turned : Turned (fun k => w.heap.size ≤ k) w V
theorem BoxP.turned {own : Nat → Prop} {A B : World} {g : Nat} {p q : Int} (h : BoxP A g p q) (ht : Turned own A B) (hn : ¬ own g) : BoxP B g p q := (ht.block g h.lt hn).trans h
theorem PB.on {w A B : World} {v : Value} {pa pl : Int} {b : Bool} (h : PB w A v pa pl b) {own : Nat → Prop} (ht : Turned own A B) (hn : ∀ k, own k → w.heap.size + 5 ≤ k) : PB w B v pa pl b :=
  ⟨boxed_turned h.res ht (fun ho => by have := hn _ ho; omega), boxed_turned h.ok ht (fun ho => by have := hn _ ho; omega), boxed_turned h.box ht (fun ho => by have := hn _ ho; omega), h.part.turned ht (fun ho => by have := hn _ ho; omega),
    boxed_turned h.whole ht (fun ho => by have := hn _ ho; omega), h.turned.trans (ht.mono (fun k hk => by have := hn k hk; omega))⟩
theorem BoxP.far {A : World} {g c : Nat} {p q : Int} (h : BoxP A g p q) (hne : g ≠ c) (i : Nat) (u : Value) : BoxP (A.setCell ⟨c, i, none⟩ u) g p q := (heap_setCell_other A ⟨c, i, none⟩ g u hne).trans h
theorem boxed_set_far2 {A : World} {b c i : Nat} {t : TypeId} {v u : Value} (h : Boxed A b t v) (hne : b ≠ c) : Boxed (A.setCell ⟨c, i, none⟩ u) b t v := (heap_setCell_other A ⟨c, i, none⟩ b u hne).trans h
theorem PB.setWhole {w A : World} {v : Value} {pa pl : Int} {b : Bool} (h : PB w A v pa pl b) (b' : Bool) : PB w (A.setCell ⟨w.heap.size + 4, 0, none⟩ (.bool b')) v pa pl b' :=
  ⟨boxed_set_far h.res (by omega), boxed_set_far h.ok (by omega), boxed_set_far h.box (by omega), h.part.far (by omega) 0 _, h.whole.set _, h.turned.trans (.setCell (p := ⟨w.heap.size + 4, 0, none⟩) (Nat.le_add_right _ _) _ _)⟩
theorem PB.setAt {w A : World} {v : Value} {pa pl : Int} {b : Bool} (h : PB w A v pa pl b) (x : Int) : PB w (A.setCell ⟨w.heap.size + 3, 0, none⟩ (.int .i64 x)) v x pl b :=
  ⟨boxed_set_far h.res (by omega), boxed_set_far h.ok (by omega), boxed_set_far h.box (by omega), h.part.set0 x, boxed_set_far h.whole (by omega), h.turned.trans (.setCell (p := ⟨w.heap.size + 3, 0, none⟩) (Nat.le_add_right _ _) _ _)⟩
theorem PB.setLen {w A : World} {v : Value} {pa pl : Int} {b : Bool} (h : PB w A v pa pl b) (x : Int) : PB w (A.setCell ⟨w.heap.size + 3, 1, none⟩ (.int .i64 x)) v pa x b :=
  ⟨boxed_set_far2 h.res (by omega), boxed_set_far2 h.ok (by omega), boxed_set_far2 h.box (by omega), h.part.set1 x, boxed_set_far2 h.whole (by omega), h.turned.trans (.setCell (p := ⟨w.heap.size + 3, 1, none⟩) (Nat.le_add_right _ _) _ _)⟩
theorem PB.setBox {w A : World} {v : Value} {pa pl : Int} {b : Bool} (h : PB w A v pa pl b) (x : Value) : PB w (A.setCell ⟨w.heap.size + 2, 0, none⟩ x) x pa pl b :=
  ⟨boxed_set_far h.res (by omega), boxed_set_far h.ok (by omega), h.box.set _, h.part.far (by omega) 0 _, boxed_set_far h.whole (by omega), h.turned.trans (.setCell (p := ⟨w.heap.size + 2, 0, none⟩) (Nat.le_add_right _ _) _ _)⟩
/-- A result is stored as it was. -/
theorem PB.setNo {w A : World} {v : Value} {pa pl : Int} {b : Bool} (h : PB w A v pa pl b) : PB w ((A.setCell ⟨w.heap.size, 0, none⟩ (.slice none 0 0)).setCell ⟨w.heap.size + 1, 0, none⟩ (.bool false)) v pa pl b :=
  ⟨boxed_set_far (h.res.set _) (by omega), (boxed_set_far h.ok (by omega)).set _, boxed_set_far (boxed_set_far h.box (by omega)) (by omega), (h.part.far (by omega) 0 _).far (by omega) 0 _, boxed_set_far (boxed_set_far h.whole (by omega)) (by omega),
    (h.turned.trans (.setCell (p := ⟨w.heap.size, 0, none⟩) (Nat.le_refl _) _ _)).trans (.setCell (p := ⟨w.heap.size + 1, 0, none⟩) (Nat.le_add_right _ _) _ _)⟩

theorem PB.new (w : World) : PB w (((((w.alloc (.cells #[.slice none 0 0] 24)).alloc (.cells #[.bool false] 4)).alloc (.cells #[.slice none 0 0] 24)).alloc (.cells #[.int .i64 0, .int .i64 0] 29)).alloc (.cells #[.bool true] 4)) (.slice none 0 0) 0 0 true := by
  have h1 := Boxed.new (w.alloc (.cells #[.slice none 0 0] 24)) 4 (.bool false)
  have h2 := Boxed.new ((w.alloc (.cells #[.slice none 0 0] 24)).alloc (.cells #[.bool false] 4)) 24 (.slice none 0 0)
  have h3 := BoxP.new (((w.alloc (.cells #[.slice none 0 0] 24)).alloc (.cells #[.bool false] 4)).alloc (.cells #[.slice none 0 0] 24)) 0 0
  have h4 := Boxed.new ((((w.alloc (.cells #[.slice none 0 0] 24)).alloc (.cells #[.bool false] 4)).alloc (.cells #[.slice none 0 0] 24)).alloc (.cells #[.int .i64 0, .int .i64 0] 29)) 4 (.bool true)
  simp only [World.size_alloc] at h1 h2 h3 h4
  exact ⟨((((Boxed.new w 24 (.slice none 0 0)).alloc _).alloc _).alloc _).alloc _, ((h1.alloc _).alloc _).alloc _, (h2.alloc _).alloc _, (Below.heap_alloc _ _ _ (by simp)).trans h3, h4,
    ((((Turned.alloc _ _ _).trans (.alloc _ _ _)).trans (.alloc _ _ _)).trans (.alloc _ _ _)).trans (.alloc _ _ _)⟩

/-- Between two rounds. -/
def ParseAt (w : World) (pre : List ByteArray) (V : World) : Prop :=
  ∃ (ns : List Int) (v : Value) (pa pl : Int) (b : Bool), M.nums (pre.map tl) = some ns ∧ ns.length ≤ 2000 ∧ PB w V v pa pl b ∧ ((b = true ∧ ns.length % 2 = 0) ∨ (b = false ∧ ∃ ms, ns = ms ++ [pa] ∧ ms.length % 2 = 0)) ∧ OwnP V (w.heap.size + 10) v (M.pairs ns)
/-- Behind a round that stopped. -/
def ParseNo (w : World) (pre : List ByteArray) (V : World) : Prop :=
  (∃ v pa pl b, PB w V v pa pl b) ∧ (M.nums (pre.map tl) = none ∨ 2000 < pre.length)

theorem results_parse {tmps : Array Value} {a b : Nat} {u v : Value} {w : World} (h2 : tmps.getD 2 undef = .pointer (some ⟨a, 0, none⟩)) (h3 : tmps.getD 3 undef = .pointer (some ⟨b, 0, none⟩))
    (c1 : w.cell? ⟨a, 0, none⟩ = some u) (c2 : w.cell? ⟨b, 0, none⟩ = some v) : (results Tryd.f14 tmps).run Tryd.prog w = .ok (.tuple #[u, v]) w := by
  simp only [results, show Tryd.f14.results = #[ResultVar.cell 2 24, ResultVar.cell 3 4] from rfl]
  rw [Array.getD_eq_getD_getElem?] at h2 h3
  simp [go_sem, h2, h3, c1, c2]

set_option maxRecDepth 100000 in
set_option maxHeartbeats 2000000 in
theorem parse_in (s : ByteArray) (hs : s.size ≤ 1000000) (B : Nat) (w : World) (n : Nat) (hB : B ≤ w.heap.size) (ht : EV B w) :
    CallsIn Fence.wide n Tryd.prog 14 #[.string s] w fun e w' => ∃ v, e = .returned (.tuple #[v, .bool (M.parse (tl s)).isSome]) ∧ OwnP w' (w.heap.size) v ((M.parse (tl s)).getD []) ∧ Turned (fun k => w.heap.size ≤ k) w w' := by
  have HT := hid ht
  clear ht
  refine callsIn_of_wp_marks Tryd.func14 rfl trivial ?_ rfl
  simp only [Tryd.ntmps14, List.size_toArray, List.length_cons, List.length_nil, Nat.reduceAdd, Nat.reduceSub, Array.replicate_succ, Array.replicate_zero, List.push_toArray, List.append_toArray, List.nil_append, List.cons_append]
  by_cases h0 : tl s = []
  · have HP := hid (show M.parse (tl s) = some [] by rw [h0]; rfl)
    have he : s.toList.isEmpty = true := by rw [tl_eq, h0]; rfl
    clear h0
    gi_wp2
    have hb1 := ((Boxed.new w 24 (.slice none 0 0)).alloc (.cells #[.bool false] 4))
    have hb2 := Boxed.new (w.alloc (.cells #[.slice none 0 0] 24)) 4 (.bool true)
    rw [World.size_alloc] at hb2
    have ht2 : Turned (fun k => w.heap.size ≤ k) w ((w.alloc (.cells #[.slice none 0 0] 24)).alloc (.cells #[.bool true] 4)) := (Turned.alloc _ _ _).trans (.alloc _ _ _)
    refine ⟨_, results_parse rfl rfl (((Boxed.new w 24 (.slice none 0 0)).alloc _).cell) hb2.cell, _, by rw [HP.out]; rfl, ?_, ht2⟩
    rw [HP.out]
    exact OwnP.nil _ _
  have HN := hid h0
  have he : s.toList.isEmpty = false := by rw [tl_eq]; simpa using h0
  clear h0
  gi_wp2_with (first
    | (refine ⟨trivial, noDepth, ?_⟩; gi_at_call 27; refine (callsIn_wide.2 (seq_make _ _)).mono ?_; rintro e w' ⟨rfl, rfl⟩))
  have hPB := PB.new w
  obtain ⟨W5, hW5⟩ : ∃ W5, (((((w.alloc (.cells #[.slice none 0 0] 24)).alloc (.cells #[.bool false] 4)).alloc (.cells #[.slice none 0 0] 24)).alloc (.cells #[.int .i64 0, .int .i64 0] 29)).alloc (.cells #[.bool true] 4)) = W5 := ⟨_, rfl⟩
  have hs5 : W5.heap.size = w.heap.size + 5 := by rw [← hW5]; simp
  rw [hW5] at hPB
  rw [hW5]
  clear hW5
  rw [show w.heap.size + 1 + 1 + 1 + 1 + 1 = W5.heap.size from by omega, show w.heap.size + 1 + 1 + 1 + 1 = w.heap.size + 4 from rfl, show w.heap.size + 1 + 1 + 1 = w.heap.size + 3 from rfl, show w.heap.size + 1 + 1 = w.heap.size + 2 from rfl]
  have HZ := hid (show (((W5.alloc (.cells #[.string s] 9)).alloc (.cells #[.string sl] 9)).alloc (.cells #[.int .i64 0] 3)).heap.size = W5.heap.size + 3 by simp)
  have HS5 := hid hs5
  clear hs5
  have hown : ∀ k, ownOf (pvOf (W5.heap.size + 1) W5.heap.size (W5.heap.size + 2)) 2 (((W5.alloc (.cells #[.string s] 9)).alloc (.cells #[.string sl] 9)).alloc (.cells #[.int .i64 0] 3)) k → w.heap.size + 5 ≤ k ∧ k < w.heap.size + 10 := by
    have h1 := HZ.out; have h2 := HS5.out
    rintro k ((rfl | rfl | rfl) | ⟨h3, h4⟩) <;> omega
  have hne : tl s ≠ [] := HN.out
  have hNE := hid hne
  clear hne
  refine wpIn_range (gf := 44) (lb := #[.pointer (some ⟨W5.heap.size + 1, 0, none⟩), .pointer (some ⟨W5.heap.size, 0, none⟩), .pointer (some ⟨W5.heap.size + 2, 0, none⟩)]) rfl (enters_of Tryd.func44 (by kernel_rfl) rfl)
    (seq_iter s hs (W5.heap.size + 1) W5.heap.size (W5.heap.size + 2) (by omega) (by omega)) (fun o1 o2 => seq_ok s W5 o1 o2) ?pv (fun _ => rfl)
    (fun pre V => ParseAt w pre V) (fun j pre V => j = .ret ∧ ParseNo w pre V) ?hI ?hIx ?h0
    (fun x => { tmps := #[.string s, undef, .pointer (some ⟨w.heap.size, 0, none⟩), .pointer (some ⟨w.heap.size + 1, 0, none⟩), .pointer (some ⟨w.heap.size + 2, 0, none⟩), .pointer (some ⟨w.heap.size + 3, 0, none⟩), .pointer (some ⟨w.heap.size + 4, 0, none⟩), .string x, undef, undef, .string s, .bool false, .string s,
      .func (.func 44) #[] #[.pointer (some ⟨W5.heap.size + 1, 0, none⟩), .pointer (some ⟨W5.heap.size, 0, none⟩), .pointer (some ⟨W5.heap.size + 2, 0, none⟩)], .string x, undef, undef, undef, undef, undef, undef, undef, undef, undef, undef, undef, undef, undef, undef, undef, undef, undef, undef, undef, undef, undef, undef, undef, undef, undef, undef], defers := [] }) ?assign ?body ?done ?stop
  case pv =>
    have := HZ.out
    rintro k (rfl | rfl | rfl) <;> omega
  case hI =>
    rintro pre A B ⟨ns, v, pa, pl, b, h1, h2, h3, h4, h5⟩ ht
    exact ⟨ns, v, pa, pl, b, h1, h2, h3.on ht (fun k hk => (hown k hk).1), h4, ownsRow_turned h5 ht (fun k hk ho => by have := hown k ho; omega)⟩
  case hIx =>
    rintro j pre A B ⟨h0, ⟨v, pa, pl, b, h3⟩, h4⟩ ht
    exact ⟨h0, ⟨v, pa, pl, b, h3.on ht (fun k hk => (hown k hk).1)⟩, h4⟩
  case h0 =>
    have h : PB w (((W5.alloc (.cells #[.string s] 9)).alloc (.cells #[.string sl] 9)).alloc (.cells #[.int .i64 0] 3)) (.slice none 0 0) 0 0 true :=
      hPB.on (own := fun _ => False) (((Turned.alloc _ _ _).trans (.alloc _ _ _)).trans (.alloc _ _ _)) (fun _ h => h.elim)
    exact ⟨[], _, 0, 0, true, rfl, Nat.zero_le _, h, .inl ⟨rfl, rfl⟩, OwnP.nil _ _⟩
  case assign =>
    intro l' m x V K hK
    gi_wp2
    exact hK
  case body =>
    rintro l' m pre x V ⟨ns, v, pa, pl, b, hn, hnl, hpb, hpar, hown2⟩ hsz hR
    have hxl : x.size ≤ 1000000 := by
      obtain ⟨q, hq⟩ := hR
      have := M.joinlen_cuts (tl s)
      rw [← hq] at this
      simp at this
      have h6 : (tl x).length = x.size := rfl
      have h7 : (tl s).length = s.size := rfl
      omega
    have hbv : Below w.heap.size w V := hpb.turned.below (fun _ hk => hk) (Nat.le_refl _)
    have HC := hid (number_any x hxl B V (Nat.le_trans hB hbv.size) (HT.out.on (hbv.mono hB)))
    have hbase : w.heap.size + 10 ≤ V.heap.size := by have h1 := HZ.out; have h2 := HS5.out; omega
    have HON := hid hown2
    have HPB := hid hpb
    have HNS := hid (M.nums_snoc (t := tl x) hn)
    have hpl := M.pairs_len ns
    clear hown2 hR hbv hn
    gi_wp2_with fail
    refine ⟨trivial, noDepth, ?_⟩
    refine (CallsIn.inRound _ (callsIn_wide.2 HC.out)).mono ?_
    rintro e V1 ⟨rfl, hb1⟩
    have htn : Turned (fun k => V.heap.size ≤ k) V V1 := .of_below hb1 (fun k hk h => absurd hk (by omega))
    have hpb1 := HPB.out.on htn (fun k hk => by omega)
    have hon1 : OwnP V1 (w.heap.size + 10) v (M.pairs ns) := HON.out.later hb1
    have hsp1 : Spared (ownOf (pvOf (W5.heap.size + 1) W5.heap.size (W5.heap.size + 2)) (0 + 2) (((W5.alloc (.cells #[.string s] 9)).alloc (.cells #[.string sl] 9)).alloc (.cells #[.int .i64 0] 3))) V V1 :=
      ⟨hb1.size, fun k ho hk => hb1.block k hk⟩
    have hbase1 : w.heap.size + 10 ≤ V1.heap.size := Nat.le_trans hbase hb1.size
    have HSP := hid hsp1
    have HON1 := hid hon1
    have HB1 := hid hb1
    have HPB1 := hid hpb1
    clear HON HPB HC htn hon1 hsp1 hb1
    obtain ⟨A0, c0, rfl, _, _⟩ := HON1.out.rd
    have cr0 := hpb1.res.cell
    have cr1 := hpb1.ok.cell
    have cr2 := hpb1.box.cell
    have cr3 := hpb1.part.cell0
    have cr4 := hpb1.part.cell1
    have cr5 := hpb1.whole.cell
    have fr0 := hpb1.res.frozen
    have fr1 := hpb1.ok.frozen
    have fr2 := hpb1.box.frozen
    have fr3 := hpb1.part.frozen 0
    have fr4 := hpb1.part.frozen 1
    have fr5 := hpb1.whole.frozen
    clear hpb1
    cases hnx : M.numOf (tl x) with
    | none =>
      rw [hnx] at HNS
      have HNO := hid (show M.nums ((pre ++ [x]).map tl) = none by rw [List.map_append, List.map_singleton]; exact HNS.out)
      unfold numV
      dsimp only
      clear hnx HNS hpar
      gi_wp2
      refine ⟨HSP.out.trans (Spared.turned ((Turned.setCell (own := fun k => k < w.heap.size + 5) (p := ⟨w.heap.size, 0, none⟩) (by show w.heap.size < _; omega) V1 _).trans (.setCell (p := ⟨w.heap.size + 1, 0, none⟩) (by show w.heap.size + 1 < _; omega) _ _)) (fun k hk ho => by have := hown k ho; omega)), rfl, ⟨_, _, _, _, HPB1.out.setNo⟩, .inl HNO.out⟩
    | some nx =>
      rw [hnx] at HNS
      have HNY := hid (show M.nums ((pre ++ [x]).map tl) = some (ns ++ [nx]) by rw [List.map_append, List.map_singleton]; exact HNS.out)
      unfold numV
      dsimp only
      clear hnx HNS
      by_cases hfull : (M.pairs ns).length = 1000
      · have HLG := hid (show 2000 < (pre ++ [x]).length by
          have h1 := M.nums_len HNY.out
          rw [List.length_map, List.length_append, List.length_singleton] at h1
          rw [← h1]; omega)
        have d1 : ((((M.pairs ns).length : Nat) : Int) == 1000) = true := by rw [beq_iff_eq]; omega
        clear hpar hpl
        gi_wp2
        refine ⟨HSP.out.trans (Spared.turned ((Turned.setCell (own := fun k => k < w.heap.size + 5) (p := ⟨w.heap.size, 0, none⟩) (by show w.heap.size < _; omega) V1 _).trans (.setCell (p := ⟨w.heap.size + 1, 0, none⟩) (by show w.heap.size + 1 < _; omega) _ _)) (fun k hk ho => by have := hown k ho; omega)), rfl, ⟨_, _, _, _, HPB1.out.setNo⟩, .inr HLG.out⟩
      · have d1 : ((((M.pairs ns).length : Nat) : Int) == 1000) = false := by rw [beq_eq_false_iff_ne]; omega
        rcases hpar with ⟨rfl, hev⟩ | ⟨rfl, ms, rfl, hev⟩
        · have HPR := hid (M.pairs_odd (a := nx) hev)
          have HEV := hid hev
          have h2k := hid (show ns.length + 1 ≤ 2000 by omega)
          clear hpl hev
          have g1 := HPB1.out.setWhole false
          have gf := g1.part.frozen 0
          have gc := g1.part.cell0
          generalize hpn : (M.pairs ns).length = pn at *
          gi_wp2
          refine ⟨HSP.out.trans (Spared.turned ((Turned.setCell (own := fun k => k < w.heap.size + 5) (p := ⟨w.heap.size + 4, 0, none⟩) (by show w.heap.size + 4 < _; omega) V1 _).trans (.setCell (p := ⟨w.heap.size + 3, 0, none⟩) (by show w.heap.size + 3 < _; omega) _ _)) (fun k hk ho => by have := hown k ho; omega)), ?_⟩
          refine ⟨ns ++ [nx], _, nx, pl, false, HNY.out, by rw [List.length_append, List.length_singleton]; exact h2k.out, g1.setAt nx, .inr ⟨rfl, ns, rfl, HEV.out⟩, ?_⟩
          rw [HPR.out]
          exact OwnP.set (OwnP.set HON1.out (by show w.heap.size + 4 < _; omega) _) (by show w.heap.size + 3 < _; omega) _
        · have HPR := hid (M.pairs_two (a := pa) (b := nx) hev)
          have HPQ := hid (M.pairs_odd (a := pa) hev)
          have h2k := hid (show (ms ++ [pa]).length + 1 ≤ 2000 by rw [List.length_append, List.length_singleton] at *; omega)
          have HEV := hid (show ((ms ++ [pa]) ++ [nx]).length % 2 = 0 by simp; omega)
          clear hpl hev
          have g1 := HPB1.out.setWhole true
          have g2 := g1.setLen nx
          have gf := g1.part.frozen 1
          have gc := g1.part.cell1
          have k0 := g2.part.cell0
          have k1 := g2.part.cell1
          have kb := g2.box.cell
          have fb := g2.box.frozen
          have HG2 := hid g2
          have ho2 : OwnP ((V1.setCell ⟨w.heap.size + 4, 0, none⟩ (.bool true)).setCell ⟨w.heap.size + 3, 1, none⟩ (.int .i64 nx)) (w.heap.size + 10) (.slice A0 (M.pairs (ms ++ [pa])).length c0) (M.pairs (ms ++ [pa])) :=
            OwnP.set (OwnP.set HON1.out (by show w.heap.size + 4 < _; omega) _) (by show w.heap.size + 3 < _; omega) _
          have hl2 : (M.pairs (ms ++ [pa])).length ≤ 1000000 := by rw [M.pairs_len]; omega
          have hbs2 : w.heap.size + 10 ≤ ((V1.setCell ⟨w.heap.size + 4, 0, none⟩ (.bool true)).setCell ⟨w.heap.size + 3, 1, none⟩ (.int .i64 nx)).heap.size := by simpa [World.setCell] using hbase1
          have HO2 := hid ho2
          clear g1 g2 ho2
          gi_wp2_with (gi_at_builtin; refine Hid.out ?_)
          refine Lib.hid ?_
          refine wpListIn_appP rfl _ _ rfl (w.heap.size + 10) (.slice A0 (M.pairs (ms ++ [pa])).length c0) (M.pairs (ms ++ [pa])) pa nx (by simp [Act.eval]) HO2.out hbs2 (by simp [Act.eval]) hl2 ?_
          intro v' w9 ho9 hb9 hg9
          have ht9 := Turned.grown (own := fun k => w.heap.size + 10 ≤ k) hg9.out (fun r e => ownsRow_block HO2.out r e)
          have ht8 := (Turned.alloc (fun k => w.heap.size + 10 ≤ k) ((V1.setCell ⟨w.heap.size + 4, 0, none⟩ (.bool true)).setCell ⟨w.heap.size + 3, 1, none⟩ (.int .i64 nx)) (.cells #[.int .i64 pa, .int .i64 nx] 29)).trans ht9
          have g9 := HG2.out.on ht8 (fun k hk => Nat.le_trans (by omega) hk)
          have c9 := g9.box.cell
          have f9 := g9.box.frozen
          obtain ⟨A9, cc9, hv9, _, _⟩ := ho9.out.rd
          subst hv9
          have G9 := hid g9
          have T8 := hid ht8
          clear g9 ht8 ht9
          gi_wp2
          refine ⟨HSP.out.trans (Spared.turned ((((Turned.setCell (own := fun k => k < w.heap.size + 5 ∨ w.heap.size + 10 ≤ k) (p := ⟨w.heap.size + 4, 0, none⟩) (.inl (by show w.heap.size + 4 < _; omega)) V1 _).trans (.setCell (p := ⟨w.heap.size + 3, 1, none⟩) (.inl (by show w.heap.size + 3 < _; omega)) _ _)).trans (T8.out.mono (fun k hk => .inr hk))).trans (.setCell (p := ⟨w.heap.size + 2, 0, none⟩) (.inl (by show w.heap.size + 2 < _; omega)) _ _)) (fun k hk ho => by have := hown k ho; omega)), ?_⟩
          refine ⟨_, _, pa, nx, true, HNY.out, by rw [List.length_append, List.length_singleton]; exact h2k.out, G9.out.setBox _, .inl ⟨rfl, HEV.out⟩, ?_⟩
          rw [HPR.out, ← HPQ.out]
          have ho10 := ho9.out
          rw [show (M.pairs (ms ++ [pa]) ++ [(pa, nx)]).length = (M.pairs (ms ++ [pa])).length + 1 by simp] at ho10
          exact OwnP.set (p := ⟨w.heap.size + 2, 0, none⟩) ho10 (by show w.heap.size + 2 < _; omega) _
  case done =>
    rintro xs V hS ⟨ns, v, pa, pl, b, hn, hnl, hpb, hpar, hown2⟩ hsz hk
    obtain ⟨A0, c0, rfl, _, _⟩ := hown2.rd
    have HON := hid hown2
    have HPB := hid hpb
    rw [hS] at hn
    obtain ⟨v, hv⟩ : ∃ v, v = Value.slice A0 (M.pairs ns).length c0 := ⟨_, rfl⟩
    have cr5 := hpb.whole.cell
    have cr2 := hpb.box.cell
    have fr0 := hpb.res.frozen
    have fr1 := hpb.ok.frozen
    have cr0 := hpb.res.cell
    have cr1 := hpb.ok.cell
    have hK : (((W5.alloc (.cells #[.string s] 9)).alloc (.cells #[.string sl] 9)).alloc (.cells #[.int .i64 0] 3)).heap.size = w.heap.size + 8 := by rw [HZ.out, HS5.out]
    have e0 : w.heap.size + 8 ≠ w.heap.size := by omega
    have e1 : w.heap.size + 8 ≠ w.heap.size + 1 := by omega
    rw [hK] at hk
    have HKD := hid hk
    have HKK := hid hK
    clear hk hK hpb hown2
    rcases hpar with ⟨rfl, hev⟩ | ⟨rfl, ms, rfl, hev⟩
    · have HY := hid (M.parse_yes hNE.out hn hev hnl)
      clear hn hev
      have HV := hid hv
      clear hv
      gi_wp2
      rw [← HV.out] at HPB HON ⊢
      have hk2 := ((Below.heap_setCell _ ⟨w.heap.size + 1, 0, none⟩ (.bool true) _ e1).trans (Below.heap_setCell V ⟨w.heap.size, 0, none⟩ v _ e0)).trans HKD.out
      refine ⟨by simp, .inl ⟨_, _, by rw [HKK.out], run_takeDeferred hk2, ?_⟩⟩
      have k2 := boxed_set_far (u := .bool true) (HPB.out.res.set v) (show w.heap.size ≠ w.heap.size + 1 by omega)
      have k3 := (boxed_set_far (u := v) HPB.out.ok (show w.heap.size + 1 ≠ w.heap.size by omega)).set (.bool true)
      have hp := Turned.putObj (own := fun k => k = w.heap.size + 8) rfl ((V.setCell ⟨w.heap.size, 0, none⟩ v).setCell ⟨w.heap.size + 1, 0, none⟩ (.bool true)) (.deferred none)
      refine ⟨_, results_parse rfl rfl (boxed_turned k2 hp (fun e => e0 e.symm)).cell (boxed_turned k3 hp (fun e => e1 e.symm)).cell, v, by rw [HY.out]; rfl, ?_, ?_⟩
      · rw [HY.out]
        exact OwnP.lower (ownsRow_turned (OwnP.set (OwnP.set HON.out (by show w.heap.size < _; omega) _) (by show w.heap.size + 1 < _; omega) _) hp (fun k hk ho => by omega)) (by omega)
      · exact ((HPB.out.turned.trans (.setCell (p := ⟨w.heap.size, 0, none⟩) (Nat.le_refl _) _ _)).trans (.setCell (p := ⟨w.heap.size + 1, 0, none⟩) (Nat.le_succ _) _ _)).trans (hp.mono (fun k hk => by omega))
    · have HY := hid (M.parse_odd hNE.out hn (by rw [List.length_append, List.length_singleton]; omega))
      clear hn hev
      gi_wp2
      have hk2 := ((Below.heap_setCell _ ⟨w.heap.size + 1, 0, none⟩ (.bool false) _ e1).trans (Below.heap_setCell V ⟨w.heap.size, 0, none⟩ (.slice none 0 0) _ e0)).trans HKD.out
      refine ⟨by simp, .inl ⟨_, _, by rw [HKK.out], run_takeDeferred hk2, ?_⟩⟩
      have k2 := boxed_set_far (u := .bool false) (HPB.out.res.set (.slice none 0 0)) (show w.heap.size ≠ w.heap.size + 1 by omega)
      have k3 := (boxed_set_far (u := .slice none 0 0) HPB.out.ok (show w.heap.size + 1 ≠ w.heap.size by omega)).set (.bool false)
      have hp := Turned.putObj (own := fun k => k = w.heap.size + 8) rfl ((V.setCell ⟨w.heap.size, 0, none⟩ (.slice none 0 0)).setCell ⟨w.heap.size + 1, 0, none⟩ (.bool false)) (.deferred none)
      refine ⟨_, results_parse rfl rfl (boxed_turned k2 hp (fun e => e0 e.symm)).cell (boxed_turned k3 hp (fun e => e1 e.symm)).cell, .slice none 0 0, by rw [HY.out]; rfl, ?_, ?_⟩
      · rw [HY.out]
        exact OwnP.nil _ _
      · exact ((HPB.out.turned.trans (.setCell (p := ⟨w.heap.size, 0, none⟩) (Nat.le_refl _) _ _)).trans (.setCell (p := ⟨w.heap.size + 1, 0, none⟩) (Nat.le_succ _) _ _)).trans (hp.mono (fun k hk => by omega))
  case stop =>
    rintro j pre V hS ⟨rfl, ⟨v, pa, pl, b, hpb⟩, hno⟩ hsz hk
    have HY := hid (M.parse_no hNE.out hS (by rw [List.length_map]; exact hno))
    have hK : (((W5.alloc (.cells #[.string s] 9)).alloc (.cells #[.string sl] 9)).alloc (.cells #[.int .i64 0] 3)).heap.size = w.heap.size + 8 := by rw [HZ.out, HS5.out]
    rw [hK] at hk
    clear hno hS
    gi_wp2
    refine ⟨by simp, .inl ⟨_, _, by rw [hK], run_takeDeferred hk, ?_⟩⟩
    have hp := Turned.putObj (own := fun k => k = w.heap.size + 8) rfl V (.deferred none)
    refine ⟨_, results_parse rfl rfl (boxed_turned hpb.res hp (by omega)).cell (boxed_turned hpb.ok hp (by omega)).cell, .slice none 0 0, by rw [HY.out]; rfl, ?_, ?_⟩
    · rw [HY.out]
      exact OwnP.nil _ _
    · exact hpb.turned.trans (hp.mono (fun k hk => by omega))

theorem parse_any (s : ByteArray) (hs : s.size ≤ 1000000) (B : Nat) (w : World) (hB : B ≤ w.heap.size) (ht : EV B w) :
    Calls Tryd.prog 14 #[.string s] w (PartsTo (M.parse (tl s)) w) :=
  (callsIn_wide.1 (parse_in s hs B w 0 hB ht)).mono fun _ _ ⟨v, he, ho, ht⟩ => ⟨v, he, ho, ht.below (fun _ hk => hk) (Nat.le_refl _)⟩
end Go.Proofs.YtjpflljmeaihgaaDoor
