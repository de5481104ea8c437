/-
  Texts of one chapter, merged.
-/
import Derived.Test.YtkpnhggpcpjddaaGreatDoorHMd
import Derived.Test.YtkpnhggpcpjddaaGreatDoorHdArr
import Derived.LoopTactic
import Derived.Deep.AppendLies
import Derived.Laws.OwnMore
import Derived.Laws.AppendOwn
import Derived.Deep.OwnRows
set_option linter.unusedVariables false
set_option linter.unusedSimpArgs false
/-! head.Parse: how it is left, by a stop or at its end. -/
namespace Go.Proofs.YtkpnhggpcpjddaaGreatDoor
open Go.RowKit Go.Lib

theorem results_parse {tmps : Array Value} {g eb : Nat} {n : Int} {h : M.Hdr} {pv : Value} {w : World} (hb : HB w g h pv) (he : w.cell? ⟨eb, 0, none⟩ = some (.int .u16 n))
    (h2 : tmps.getD 2 undef = .pointer (some ⟨g, 0, none⟩)) (h3 : tmps.getD 3 undef = .pointer (some ⟨eb, 0, none⟩)) :
    (results Tryz.f19 tmps).run Tryz.prog w = .ok (.tuple #[.agg (hcells h pv), .int .u16 n]) w := by
  rw [Array.getD_eq_getD_getElem?] at h2 h3
  have hl := run_loadVar_row (P := Tryz.prog) w g 33 33 (hcells h pv) (0, 0) _ hb Tryz.underlying33 rfl hdr_size
  have hle : (loadVar 42 ⟨eb, 0, none⟩).run Tryz.prog w = .ok (.int .u16 n) w := by simp [go_sem, he]
  simp [results, Tryz.results19, h2, h3, asAddr, hl, hle]

/-- A frame of Parse: the header so far in block g, no error in block eb. -/
structure PF (w0 w : World) (h : M.Hdr) (pv : Value) : Prop where
  box : HB w w0.heap.size h pv
  err : w.heap[w0.heap.size + 1]? = some (.cells #[.int .u16 0] 42 (0, 0))
  below : Below w0.heap.size w0 w
theorem PF.later {w0 w w' : World} {h : M.Hdr} {pv : Value} (p : PF w0 w h pv) (hb : Below w.heap.size w w') : PF w0 w' h pv :=
  ⟨p.box.below hb p.box.lt, (hb.block _ (Array.getElem?_eq_some_iff.1 p.err).1).trans p.err, p.below.trans (hb.mono p.below.size)⟩
theorem PF.set {w0 w : World} {h h' : M.Hdr} {pv pv' : Value} (p : PF w0 w h pv) (i : Nat) (v : Value) (e : (hcells h pv).set! i v = hcells h' pv') : PF w0 (w.setCell ⟨w0.heap.size, i, none⟩ v) h' pv' :=
  ⟨p.box.set i v e, (heap_setCell_other w ⟨w0.heap.size, i, none⟩ _ v (by simp)).trans p.err, p.below.setCell (p := ⟨w0.heap.size, i, none⟩) (Nat.le_refl _) v⟩

/-- A row of parts in memory, in a block that is not below base. -/
def PartsIs (w : World) (base : Nat) (pv : Value) (l : List (Int × Int)) : Prop :=
  ∃ A c, pv = .slice A l.length c ∧ l.length ≤ c ∧ (0 < l.length → ∃ b off, A = some ⟨b, off, none⟩ ∧ base ≤ b ∧ b < w.heap.size ∧ ∀ (j : Nat) (p : Int × Int), l[j]? = some p → w.cell? ⟨b, off + 2 * j, none⟩ = some (.int .i64 p.1) ∧ w.cell? ⟨b, off + 2 * j + 1, none⟩ = some (.int .i64 p.2))
theorem PartsIs.nil (w : World) (base : Nat) : PartsIs w base (.slice none 0 0) [] := ⟨none, 0, rfl, Nat.le_refl _, fun h => absurd h (by decide)⟩
theorem PartsIs.lower {w : World} {base base' : Nat} {pv : Value} {l : List (Int × Int)} (h : PartsIs w base pv l) (hb : base' ≤ base) : PartsIs w base' pv l := by
  obtain ⟨A, c, rfl, h1, h2⟩ := h
  exact ⟨A, c, rfl, h1, fun hl => let ⟨b, off, e, h3, h4, h5⟩ := h2 hl; ⟨b, off, e, Nat.le_trans hb h3, h4, h5⟩⟩
theorem PartsIs.keep {w w' : World} {base : Nat} {pv : Value} {l : List (Int × Int)} (h : PartsIs w base pv l) (hs : w.heap.size ≤ w'.heap.size) (hk : ∀ a : Addr, base ≤ a.block → a.block < w.heap.size → w'.cell? a = w.cell? a) : PartsIs w' base pv l := by
  obtain ⟨A, c, rfl, h1, h2⟩ := h
  refine ⟨A, c, rfl, h1, fun hl => ?_⟩
  obtain ⟨b, off, e, h3, h4, h5⟩ := h2 hl
  exact ⟨b, off, e, h3, Nat.lt_of_lt_of_le h4 hs, fun j p hp => ⟨(hk _ h3 h4).trans (h5 j p hp).1, (hk _ h3 h4).trans (h5 j p hp).2⟩⟩
theorem PartsIs.later {w w' : World} {base : Nat} {pv : Value} {l : List (Int × Int)} (h : PartsIs w base pv l) (hb : Below w.heap.size w w') : PartsIs w' base pv l := h.keep hb.size fun a _ ha => hb.cell ha
theorem PartsIs.set {w : World} {base : Nat} {pv : Value} {l : List (Int × Int)} (h : PartsIs w base pv l) (a : Addr) (ha : a.block < base) (v : Value) : PartsIs (w.setCell a v) base pv l :=
  h.keep (by simp) fun q hq _ => World.cell?_setCell_other w a q v (fun e => by subst e; omega)
theorem PartsIs.row {w : World} {base : Nat} {pv : Value} {l : List (Int × Int)} (h : PartsIs w base pv l) (g : Nat) (hg : g < base) (cs : Array Value) : PartsIs (w.setRow g cs) base pv l :=
  h.keep (by simp) fun q hq _ => cell_setRow_other w g cs q (by omega)
/-- What Parse answers: the error's number, the header. -/
def ParseIs (n : Int) (h : M.Hdr) (w0 : World) (e : Ending) (w' : World) : Prop :=
  ∃ pv, e = .returned (.tuple #[.agg (hcells h pv), .int .u16 n]) ∧ PartsIs w' w0.heap.size pv h.parts ∧ Below w0.heap.size w0 w'

theorem parse_stop {tmps : Array Value} {n : Int} {w0 w : World} {h : M.Hdr} {pv : Value} (p : PF w0 w h pv)
    (h2 : tmps.getD 2 undef = .pointer (some ⟨w0.heap.size, 0, none⟩)) (h3 : tmps.getD 3 undef = .pointer (some ⟨w0.heap.size + 1, 0, none⟩)) :
    bodyPostD Tryz.prog Tryz.f19 (ParseIs n {} w0) (.panic (boom n))
      { tmps := tmps, defers := [{ target := .fn (.func 47) #[.pointer (some ⟨w0.heap.size, 0, none⟩), .pointer (some ⟨w0.heap.size + 1, 0, none⟩)], args := #[] }] } w := by
  have hc : w.cell? ⟨w0.heap.size + 1, 0, none⟩ = some (.int .u16 0) := by rw [cell_of_row _ _ 0 _ _ _ p.err]; rfl
  refine leaves_cons (f := 47) (args := #[.pointer (some ⟨w0.heap.size, 0, none⟩), .pointer (some ⟨w0.heap.size + 1, 0, none⟩)]) (by simp) (by simp [go_sem]) ?_
  refine (parse_caught _ _ h pv n w p.box (by simp) hc (frozen_of_row _ _ 0 _ _ p.err)).mono ?_
  rintro e u' w'' ⟨rfl, rfl, rfl⟩
  have hb1 : HB (w.setRow w0.heap.size (hcells {} (.slice none 0 0))) w0.heap.size {} (.slice none 0 0) := setRow_heap w _ _ _ _ _ p.box
  have hb2 := hb1.other (a := ⟨w0.heap.size + 1, 0, none⟩) (by simp) (.int .u16 n)
  have he2 : ((w.setRow w0.heap.size (hcells {} (.slice none 0 0))).setCell ⟨w0.heap.size + 1, 0, none⟩ (.int .u16 n)).cell? ⟨w0.heap.size + 1, 0, none⟩ = some (.int .u16 n) := by
    have : (w.setRow w0.heap.size (hcells {} (.slice none 0 0))).heap[w0.heap.size + 1]? = _ := (setRow_other w w0.heap.size (w0.heap.size + 1) _ (by simp)).trans p.err
    rw [cell_of_row _ _ 0 _ _ _ (heap_setCell_same _ _ 0 _ _ _ this)]
    simp
  have hbl := (below_setRow p.below (Nat.le_refl _) (hcells {} (.slice none 0 0))).setCell (p := ⟨w0.heap.size + 1, 0, none⟩) (by simp) (.int .u16 n)
  have hres := results_parse hb2 he2 h2 h3
  show Leaves _ _ _ _ [] (settle _) _
  simp only [settle]
  exact ⟨_, hres, _, rfl, PartsIs.nil _ _, hbl⟩
end Go.Proofs.YtkpnhggpcpjddaaGreatDoor

/-! Variables that hold a header: laid at once, loaded whole. -/
namespace Go.Proofs.YtkpnhggpcpjddaaGreatDoor
open Go.RowKit Go.Lib

theorem store_row (w : World) (g : Nat) (C : Array Value) (t : TypeId) (D : List Value) (hb : w.heap[g]? = some (.cells C t (0, 0))) (hs : D.length = C.size) (h1 : ∀ v ∈ D, v.oneCell' = true) :
    Sem.run Tryz.prog (storeCells ⟨g, 0, none⟩ D) w = .ok () (w.setRow g D.toArray) := by
  have h := run_storeCells_at Tryz.prog g 0 t D 0 C w hb (by omega) h1
  have e : C.toList.take (0 + 0) ++ D ++ C.toList.drop (0 + 0 + D.length) = D := by
    rw [show (0 : Nat) + 0 = 0 from rfl, List.take_zero, Nat.zero_add, hs, List.drop_of_length_le (by simp)]
    simp
  rw [e] at h
  exact h
/-- A header is laid into its new variable. -/
theorem store_new (w : World) (h : M.Hdr) (A : Option Addr) (n c : Nat) :
    Sem.run Tryz.prog (storeCells ⟨w.heap.size, 0, none⟩ (hcells h (.slice A n c)).toList)
      (w.alloc (.cells #[.string ⟨#[]⟩, .int .i64 0, .int .i64 0, .int .i64 0, .int .i64 0, .int .i64 0, .int .u8 0, .string ⟨#[]⟩, .int .i64 0, .string ⟨#[]⟩, .string ⟨#[]⟩, .int .i64 0, .int .i64 0, .string ⟨#[]⟩, .slice none 0 0, .bool false, .int .i64 0] 33)) =
      .ok () (w.alloc (.cells (hcells h (.slice A n c)) 33)) := by
  have e := store_row (w.alloc (.cells (hcells {} (.slice none 0 0)) 33)) w.heap.size _ 33 (hcells h (.slice A n c)).toList (HB.new w {} (.slice none 0 0)) rfl (by
    intro v hv
    have := hcells_one h (pv := .slice A n c) rfl
    rw [Array.all_eq_true'] at this
    exact this v (by simpa using hv))
  rw [show (hcells h (.slice A n c)).toList.toArray = hcells h (.slice A n c) from rfl] at e
  rw [World.setRow_alloc_new] at e
  exact e
/-- A header loaded whole. -/
theorem HB.load {w : World} {g : Nat} {h : M.Hdr} {pv : Value} (hb : HB w g h pv) : Sem.run Tryz.prog (loadVar 33 ⟨g, 0, none⟩) w = .ok (.agg (hcells h pv)) w :=
  run_loadVar_row (P := Tryz.prog) w g 33 33 (hcells h pv) (0, 0) _ hb Tryz.underlying33 rfl hdr_size
end Go.Proofs.YtkpnhggpcpjddaaGreatDoor

/-! Rows of parts in memory; how Parts is left, by a stop or at its end. -/
namespace Go.Proofs.YtkpnhggpcpjddaaGreatDoor
open Go.RowKit Go.Lib

def pcells (l : List (Int × Int)) : List Value := l.flatMap fun p => [.int .i64 p.1, .int .i64 p.2]
theorem pcells_len (l : List (Int × Int)) : (pcells l).length = l.length * 2 := by
  induction l with
  | nil => rfl
  | cons p l ih => unfold pcells at ih ⊢; rw [List.flatMap_cons, List.length_append, ih, List.length_cons]; simp; omega
theorem pcells_app (a b : List (Int × Int)) : pcells (a ++ b) = pcells a ++ pcells b := by simp [pcells]
theorem pcells_at : ∀ {l : List (Int × Int)} {j : Nat} {p : Int × Int}, l[j]? = some p → (pcells l)[2 * j]? = some (.int .i64 p.1) ∧ (pcells l)[2 * j + 1]? = some (.int .i64 p.2)
  | [], j, p, h => by simp at h
  | q :: l, 0, p, h => by
    simp at h
    subst h
    exact ⟨rfl, rfl⟩
  | q :: l, j + 1, p, h => by
    have ih := pcells_at (l := l) (j := j) (p := p) (by simpa using h)
    have e : pcells (q :: l) = .int .i64 q.1 :: .int .i64 q.2 :: pcells l := rfl
    rw [e, show 2 * (j + 1) = 2 * j + 1 + 1 by omega, List.getElem?_cons_succ, List.getElem?_cons_succ, List.getElem?_cons_succ, List.getElem?_cons_succ]
    exact ih
/-- A row of parts of the call's own. -/
def OwnP (w : World) (base : Nat) (v : Value) (l : List (Int × Int)) : Prop := w.ownsRow base 62 2 v l.length (pcells l)
theorem part_parts : (Tryz.prog.info? 62).map (fun i => (i.zero, i.size, i.bytes)) = some (some (.agg #[.int .i64 0, .int .i64 0]), 2, 16) := by kernel_rfl
theorem OwnP.parts {w : World} {base : Nat} {v : Value} {l : List (Int × Int)} (h : OwnP w base v l) : PartsIs w base v l := by
  unfold OwnP at h
  by_cases hl : 0 < l.length
  · obtain ⟨g, cap, rfl, hbg, hlt⟩ := h.form hl
    refine ⟨_, cap, rfl, ?_, fun _ => ⟨g, 0, rfl, hbg, hlt, fun j p hp => ?_⟩⟩
    · rcases h.2 with ⟨e, _⟩ | ⟨g', cap', cur, e, _, _, hnc, _⟩
      · cases e
      · injection e with _ _ e
        omega
    · obtain ⟨h1, h2⟩ := pcells_at hp
      have c1 := h.cells (g := g) rfl _ _ h1
      have c2 := h.cells (g := g) rfl _ _ h2
      have e : ∀ k : Nat, (⟨g, 0, none⟩ : Addr).add k = ⟨g, 0 + k, none⟩ := by
        intro k
        unfold Addr.add
        split
        · rename_i h0; subst h0; rfl
        · rfl
      rw [e] at c1 c2
      exact ⟨c1, by rw [Nat.add_assoc]; exact c2⟩
  · have h0 : l = [] := List.eq_nil_of_length_eq_zero (by omega)
    subst h0
    rcases h.2 with ⟨rfl, _⟩ | ⟨g, cap, cur, rfl, _⟩
    · exact PartsIs.nil w base
    · exact ⟨_, cap, rfl, Nat.zero_le _, fun h => absurd h (by decide)⟩

theorem wpList_appP {W : World} {ops : Array Oper} {rest : List Oper} {o : Oper} {a : Act} {Q : Exit → Act → World → Prop} (hgd : o.guard = none) (s x : Operand)
    (ho : o.op = .call { callee := .builtin .append, args := #[s, x], argTypes := #[31, 31] })
    (base : Nat) (v : Value) (l : List (Int × Int)) (p q : Int) (hs : a.eval s = v) (hown : OwnP W base v l) (hbase : base ≤ W.heap.size)
    (hx : a.eval x = .slice (some ⟨W.heap.size, 0, none⟩) 1 1) (hl : l.length ≤ 1000000)
    (h : ∀ v' w', Hid (OwnP w' base v' (l ++ [(p, q)])) → Hid (Below base W w') → wpList Tryz.prog ops Q rest (a.put o.dst v') w') :
    wpList Tryz.prog ops Q (o :: rest) a (W.alloc (.cells #[.int .i64 p, .int .i64 q] 62)) := by
  obtain ⟨i0, hi, hz0, hz1, hz2⟩ := info_parts part_parts
  have hownA : (W.alloc (.cells #[.int .i64 p, .int .i64 q] 62)).ownsRow base 62 2 v l.length (pcells l) := World.ownsRow.alloc hown _
  refine wpList_append_own _ hgd s x 31 ho base 62 i0 (.agg #[.int .i64 0, .int .i64 0]) 2 16 Tryz.underlying31 hi hz0 hz1 hz2 rfl (by decide) v l.length (pcells l) hs hownA ⟨W.heap.size, 0, none⟩ 1 1 [.int .i64 p, .int .i64 q] hx rfl ?_ ?_ ?_ ?_ ?_ ?_
  · intro j u hj
    match j, hj with
    | 0, hj => simp at hj; subst hj; simp [Addr.add, World.cell?_alloc_mark]
    | 1, hj => simp at hj; subst hj; simp [Addr.add, World.cell?_alloc_mark]
  · intro u hu
    simp at hu
    rcases hu with rfl | rfl <;> rfl
  · unfold maxLen; omega
  · omega
  · simp; omega
  · intro v' w' hown' hgrow _
    refine h v' w' (hid ?_) (hid ?_)
    · unfold OwnP
      rw [pcells_app, List.length_append]
      exact hown'
    · refine below_grown ((Below.refl base W).alloc hbase _) hgrow (by simp; omega) ?_
      intro g hg
      rcases hownA.2 with ⟨rfl, _⟩ | ⟨g', cap, cur, rfl, hb, _⟩
      · simp [Value.ownBlock] at hg
      · have : g' = g := by simpa [Value.ownBlock] using hg
        omega

/-! Parts' deferred function. -/
theorem parts_idle (p q : Addr) (w : World) :
    CallsD Tryz.prog 76 #[.pointer (some p), .pointer (some q)] .returning w fun e u' w' => e = .returned (.tuple #[]) ∧ u' = .returning ∧ w' = w := by
  have hrep : Array.replicate 8 undef = #[undef, undef, undef, undef, undef, undef, undef, undef] := rfl
  refine callsD_of_wpS Tryz.func76 rfl fun c₀ cs hu => ?_
  apply wpS_seq
  apply wpS_region
  simp [wpOpsS, go_sem, recoverD, hu, Tryz.ntmps76, Exit.thenS, errno_nil, hrep]
  refine wpS_of_wp ?_
  go_wp2
  cases c₀
  simp_all [bodyPostS, results, Tryz.results76]
theorem parts_caught (g eb : Nat) (v : Value) (n : Int) (w : World) (hb : w.heap[g]? = some (.cells #[v] 31 (0, 0))) (hne : eb ≠ g) (he : w.heap[eb]? = some (.cells #[.bool false] 4 (0, 0))) :
    CallsD Tryz.prog 76 #[.pointer (some ⟨g, 0, none⟩), .pointer (some ⟨eb, 0, none⟩)] (.panicking (boom n)) w fun e u' w' =>
      e = .returned (.tuple #[]) ∧ u' = .panicking [{ v := .iface 42 (.int .u16 n), recovered := true }] ∧ w' = (w.setCell ⟨g, 0, none⟩ (.slice none 0 0)).setCell ⟨eb, 0, none⟩ (.bool false) := by
  have hrep : Array.replicate 8 undef = #[undef, undef, undef, undef, undef, undef, undef, undef] := rfl
  have c0 : w.cell? ⟨g, 0, none⟩ = some v := by rw [cell_of_row _ _ 0 _ _ _ hb]; rfl
  have c1 : w.cell? ⟨eb, 0, none⟩ = some (.bool false) := by rw [cell_of_row _ _ 0 _ _ _ he]; rfl
  have f0 := frozen_of_row _ _ 0 _ _ hb
  have f1 := frozen_of_row _ _ 0 _ _ he
  refine callsD_of_wpS Tryz.func76 rfl fun c₀ cs hu => ?_
  unfold boom at hu
  apply wpS_seq
  apply wpS_region
  simp [wpOpsS, go_sem, recoverD, hu, Tryz.ntmps76, Exit.thenS, errno_some, hrep]
  refine wpS_of_wp ?_
  go_wp2
  cases c₀
  simp_all [bodyPostS, results, Tryz.results76]

/-- A frame of Parts: what was found lies in block g, no yes in the block behind it. -/
structure PL (w0 w : World) (v : Value) (l : List (Int × Int)) : Prop where
  box : w.heap[w0.heap.size]? = some (.cells #[v] 31 (0, 0))
  ok : w.heap[w0.heap.size + 1]? = some (.cells #[.bool false] 4 (0, 0))
  own : OwnP w (w0.heap.size + 2) v l
  below : Below w0.heap.size w0 w
theorem results_parts {tmps : Array Value} {g eb : Nat} {v : Value} {b : Bool} {w : World} (hg : w.cell? ⟨g, 0, none⟩ = some v) (he : w.cell? ⟨eb, 0, none⟩ = some (.bool b))
    (h2 : tmps.getD 6 undef = .pointer (some ⟨g, 0, none⟩)) (h3 : tmps.getD 7 undef = .pointer (some ⟨eb, 0, none⟩)) :
    (results Tryz.f57 tmps).run Tryz.prog w = .ok (.tuple #[v, .bool b]) w := by
  rw [Array.getD_eq_getD_getElem?] at h2 h3
  have hl : (loadVar 31 ⟨g, 0, none⟩).run Tryz.prog w = .ok v w := by simp [go_sem, hg]
  have hle : (loadVar 4 ⟨eb, 0, none⟩).run Tryz.prog w = .ok (.bool b) w := by simp [go_sem, he]
  simp [results, Tryz.results57, h2, h3, asAddr, hl, hle]
/-- What Parts answers. -/
def PartsTo (o : Option (List (Int × Int))) (w : World) (e : Ending) (w' : World) : Prop :=
  (match o with
    | none => e = .returned (.tuple #[.slice none 0 0, .bool false])
    | some l => ∃ pv, e = .returned (.tuple #[pv, .bool true]) ∧ PartsIs w' w.heap.size pv l) ∧ Below w.heap.size w w'
theorem parts_stop {tmps : Array Value} {n : Int} {w0 w : World} {v : Value} {l : List (Int × Int)} {o : Option (List (Int × Int))} (ho : o = none) (p : PL w0 w v l)
    (h2 : tmps.getD 6 undef = .pointer (some ⟨w0.heap.size, 0, none⟩)) (h3 : tmps.getD 7 undef = .pointer (some ⟨w0.heap.size + 1, 0, none⟩)) :
    bodyPostD Tryz.prog Tryz.f57 (PartsTo o w0) (.panic (boom n))
      { tmps := tmps, defers := [{ target := .fn (.func 76) #[.pointer (some ⟨w0.heap.size, 0, none⟩), .pointer (some ⟨w0.heap.size + 1, 0, none⟩)], args := #[] }] } w := by
  subst ho
  refine leaves_cons (f := 76) (args := #[.pointer (some ⟨w0.heap.size, 0, none⟩), .pointer (some ⟨w0.heap.size + 1, 0, none⟩)]) (by simp) (by simp [go_sem]) ?_
  refine (parts_caught _ _ v n w p.box (by simp) p.ok).mono ?_
  rintro e u' w'' ⟨rfl, rfl, rfl⟩
  have hb1 := heap_setCell_same w _ 0 _ _ (.slice none 0 0) p.box
  have hb2 := (heap_setCell_other (w.setCell ⟨w0.heap.size, 0, none⟩ (.slice none 0 0)) ⟨w0.heap.size + 1, 0, none⟩ w0.heap.size (.bool false) (by simp)).trans hb1
  have he1 := (heap_setCell_other w ⟨w0.heap.size, 0, none⟩ (w0.heap.size + 1) (.slice none 0 0) (by simp)).trans p.ok
  have he2 := heap_setCell_same _ _ 0 _ _ (.bool false) he1
  have hres := results_parts (v := .slice none 0 0) (b := false) (by rw [cell_of_row _ _ 0 _ _ _ hb2]; simp) (by rw [cell_of_row _ _ 0 _ _ _ he2]; simp) h2 h3
  have hbl := (p.below.setCell (p := ⟨w0.heap.size, 0, none⟩) (Nat.le_refl _) (.slice none 0 0)).setCell (p := ⟨w0.heap.size + 1, 0, none⟩) (by simp) (.bool false)
  show Leaves _ _ _ _ [] (settle _) _
  simp only [settle]
  exact ⟨_, hres, rfl, hbl⟩
theorem parts_end {tmps : Array Value} {w0 w : World} {v : Value} {l : List (Int × Int)} {o : Option (List (Int × Int))} (ho : o = some l)
    (hb : w.heap[w0.heap.size]? = some (.cells #[v] 31 (0, 0))) (he : w.heap[w0.heap.size + 1]? = some (.cells #[.bool true] 4 (0, 0))) (hp : PartsIs w w0.heap.size v l) (hbl : Below w0.heap.size w0 w)
    (h2 : tmps.getD 6 undef = .pointer (some ⟨w0.heap.size, 0, none⟩)) (h3 : tmps.getD 7 undef = .pointer (some ⟨w0.heap.size + 1, 0, none⟩)) :
    bodyPostD Tryz.prog Tryz.f57 (PartsTo o w0) .ret
      { tmps := tmps, defers := [{ target := .fn (.func 76) #[.pointer (some ⟨w0.heap.size, 0, none⟩), .pointer (some ⟨w0.heap.size + 1, 0, none⟩)], args := #[] }] } w := by
  subst ho
  refine leaves_cons (f := 76) (args := #[.pointer (some ⟨w0.heap.size, 0, none⟩), .pointer (some ⟨w0.heap.size + 1, 0, none⟩)]) (by simp) (by simp [go_sem]) ?_
  refine (parts_idle _ _ w).mono ?_
  rintro e u' w'' ⟨rfl, rfl, rfl⟩
  have hres := results_parts (v := v) (b := true) (by rw [cell_of_row _ _ 0 _ _ _ hb]; rfl) (by rw [cell_of_row _ _ 0 _ _ _ he]; rfl) h2 h3
  show Leaves _ _ _ _ [] (settle _) _
  simp only [settle]
  exact ⟨_, hres, ⟨v, rfl, hp⟩, hbl⟩

theorem OwnP.later {w w' : World} {base : Nat} {v : Value} {l : List (Int × Int)} (h : OwnP w base v l) (hb : Below w.heap.size w w') : OwnP w' base v l :=
  World.ownsRow.kept (row := none) h ⟨hb.os, hb.tape, hb.output, hb.size, fun k hk _ => hb.block k hk⟩ (by
    cases hv : v.ownBlock with
    | none => exact .inl rfl
    | some g => exact .inr (fun e => nomatch e))
theorem PL.later {w0 w w' : World} {v : Value} {l : List (Int × Int)} (p : PL w0 w v l) (hb : Below w.heap.size w w') : PL w0 w' v l :=
  ⟨(hb.block _ (Array.getElem?_eq_some_iff.1 p.box).1).trans p.box, (hb.block _ (Array.getElem?_eq_some_iff.1 p.ok).1).trans p.ok, p.own.later hb, p.below.trans (hb.mono p.below.size)⟩
/-- What is appended is laid in the block. -/
theorem PL.next {w0 w w' : World} {v v' : Value} {l l' : List (Int × Int)} (p : PL w0 w v l) (ho : OwnP w' (w0.heap.size + 2) v' l') (hb : Below (w0.heap.size + 2) w w') : PL w0 (w'.setCell ⟨w0.heap.size, 0, none⟩ v') v' l' := by
  have hx := (hb.block w0.heap.size (by omega)).trans p.box
  have hy := (hb.block (w0.heap.size + 1) (by omega)).trans p.ok
  refine ⟨?_, (heap_setCell_other w' ⟨w0.heap.size, 0, none⟩ _ v' (by simp)).trans hy, ownsRow_setCell_below ho (by simp) _, (p.below.trans (hb.mono (by omega))).setCell (p := ⟨w0.heap.size, 0, none⟩) (Nat.le_refl _) v'⟩
  have := heap_setCell_same w' _ 0 _ _ v' hx
  simpa using this

/-- A part's variable, behind all that was there. -/
structure PS (wr W : World) (p q : Int) : Prop where
  box : W.heap[wr.heap.size]? = some (.cells #[.int .i64 p, .int .i64 q] 62 (0, 0))
  below : Below wr.heap.size wr W
theorem PS.new (wr : World) : PS wr (wr.alloc (.cells #[.int .i64 0, .int .i64 0] 62)) 0 0 := ⟨heap_alloc_new wr _, (Below.refl _ wr).alloc (Nat.le_refl _) _⟩
theorem PS.later {wr W W' : World} {p q : Int} (h : PS wr W p q) (hb : Below W.heap.size W W') : PS wr W' p q :=
  ⟨(hb.block _ (Array.getElem?_eq_some_iff.1 h.box).1).trans h.box, h.below.trans (hb.mono h.below.size)⟩
theorem PS.cell0 {wr W : World} {p q : Int} (h : PS wr W p q) : W.cell? ⟨wr.heap.size, 0, none⟩ = some (.int .i64 p) := by rw [cell_of_row _ _ 0 _ _ _ h.box]; rfl
theorem PS.cell1 {wr W : World} {p q : Int} (h : PS wr W p q) : W.cell? ⟨wr.heap.size, 1, none⟩ = some (.int .i64 q) := by rw [cell_of_row _ _ 1 _ _ _ h.box]; rfl
theorem PS.frozen {wr W : World} {p q : Int} (h : PS wr W p q) (i : Nat) : W.frozen? ⟨wr.heap.size, i, none⟩ = false := frozen_of_row _ _ i _ _ h.box
theorem PS.set0 {wr W : World} {p q : Int} (h : PS wr W p q) (x : Int) : PS wr (W.setCell ⟨wr.heap.size, 0, none⟩ (.int .i64 x)) x q :=
  ⟨by have := heap_setCell_same W _ 0 _ _ (.int .i64 x) h.box; simpa using this, h.below.setCell (p := ⟨wr.heap.size, 0, none⟩) (Nat.le_refl _) _⟩
theorem PS.set1 {wr W : World} {p q : Int} (h : PS wr W p q) (x : Int) : PS wr (W.setCell ⟨wr.heap.size, 1, none⟩ (.int .i64 x)) p x :=
  ⟨by have := heap_setCell_same W _ 1 _ _ (.int .i64 x) h.box; simpa using this, h.below.setCell (p := ⟨wr.heap.size, 1, none⟩) (Nat.le_refl _) _⟩
end Go.Proofs.YtkpnhggpcpjddaaGreatDoor
