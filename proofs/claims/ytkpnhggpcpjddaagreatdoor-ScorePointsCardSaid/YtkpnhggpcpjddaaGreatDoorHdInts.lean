/-
  Rows of numbers of the call's own; what is appended to them.
-/
import Derived.Test.YtkpnhggpcpjddaaGreatDoorHdApp
import Derived.Test.YtkpnhggpcpjddaaGreatDoorHMk
set_option linter.unusedVariables false
set_option linter.unusedSimpArgs false
namespace Go.Proofs.YtkpnhggpcpjddaaGreatDoor
open Go.RowKit Go.Lib

def icells (zs : List Int) : List Value := zs.map (Value.int .i64)
theorem icells_len (zs : List Int) : (icells zs).length = zs.length := by simp [icells]
theorem icells_app (a b : List Int) : icells (a ++ b) = icells a ++ icells b := by simp [icells]
theorem icells_one (zs : List Int) : ∀ v ∈ icells zs, v.oneCell' = true := by
  intro v hv
  obtain ⟨z, _, rfl⟩ := List.mem_map.1 hv
  rfl
theorem icells_at {zs : List Int} {j : Nat} {z : Int} (h : zs[j]? = some z) : (icells zs)[j]? = some (.int .i64 z) := by simp [icells, h]
theorem i64_parts : (Tryz.prog.info? 3).map (fun i => (i.zero, i.size, i.bytes)) = some (some (.int .i64 0), 1, 8) := by kernel_rfl
def OwnI (w : World) (base : Nat) (v : Value) (zs : List Int) : Prop := w.ownsRow base 3 1 v zs.length (icells zs)
/-- Two rows that lie in two blocks. -/
def Apt (v u : Value) : Prop := u.ownBlock = none ∨ u.ownBlock ≠ v.ownBlock
theorem Apt.swap {v u : Value} (h : Apt v u) : Apt u v := by
  unfold Apt at *
  cases hv : v.ownBlock with
  | none => exact .inl rfl
  | some k =>
    rcases h with h | h
    · exact .inr (by rw [h]; exact fun e => nomatch e)
    · exact .inr (fun e => h (by rw [← e, hv]))
theorem OwnI.keep {w w' : World} {base : Nat} {v u : Value} {zs : List Int} (h : OwnI w base u zs) (hg : w.grownBy w' v.ownBlock) (hn : Apt v u) : OwnI w' base u zs := World.ownsRow.kept h hg hn
theorem OwnI.alloc {w : World} {base : Nat} {u : Value} {zs : List Int} (h : OwnI w base u zs) (o : Obj) : OwnI (w.alloc o) base u zs := World.ownsRow.alloc h o
theorem OwnI.below {w w' : World} {base : Nat} {u : Value} {zs : List Int} (h : OwnI w base u zs) (hb : Below w.heap.size w w') : OwnI w' base u zs :=
  World.ownsRow.kept (row := none) h ⟨hb.os, hb.tape, hb.output, hb.size, fun k hk _ => hb.block k hk⟩ (by
    cases hv : u.ownBlock with
    | none => exact .inl rfl
    | some g => exact .inr (fun e => nomatch e))
theorem OwnI.but {w w' : World} {g base : Nat} {u : Value} {zs : List Int} (h : OwnI w base u zs) (hb : But g w w') (hg : g < base) : OwnI w' base u zs :=
  World.ownsRow.kept (row := some g) h ⟨hb.os, hb.tape, hb.output, hb.size, fun k hk hn => hb.block k hk (fun e => hn (by rw [e]))⟩ (by
    cases hv : u.ownBlock with
    | none => exact .inl rfl
    | some k => exact .inr (fun e => by injection e with e; have := (World.ownsRow.lt h k hv).1; omega))
theorem Apt.next {w : World} {base : Nat} {v v' u : Value} {zs : List Int} (hu : OwnI w base u zs) (ho : v'.ownBlock = v.ownBlock ∨ v'.ownBlock = some (w.heap.size + 1)) (hn : Apt v u) : Apt v' u := by
  unfold Apt
  rcases ho with ho | ho
  · rw [ho]; exact hn
  · cases hv : u.ownBlock with
    | none => exact .inl rfl
    | some k => exact .inr (fun e => by rw [ho] at e; injection e with e; have := (World.ownsRow.lt hu k hv).2; omega)
theorem OwnI.form {w : World} {base : Nat} {v : Value} {zs : List Int} (h : OwnI w base v zs) (hl : 0 < zs.length) : ∃ g c, v = .slice (some ⟨g, 0, none⟩) zs.length c ∧ g < w.heap.size ∧ base ≤ g ∧ ∀ j z, zs[j]? = some z → w.cell? ⟨g, j, none⟩ = some (.int .i64 z) := by
  obtain ⟨g, cap, rfl, hb, hlt⟩ := World.ownsRow.form h hl
  refine ⟨g, cap, rfl, hlt, hb, fun j z hj => ?_⟩
  have hj1 : j < zs.length := (List.getElem?_eq_some_iff.1 hj).1
  rw [World.ownsRow.cellAt h j (by omega)]
  exact icells_at hj
theorem OwnI.slice {w : World} {base : Nat} {v : Value} {zs : List Int} (h : OwnI w base v zs) : ∃ A c, v = .slice A zs.length c := by
  rcases h.2 with ⟨rfl, e⟩ | ⟨g, cap, cur, rfl, _⟩
  · exact ⟨none, 0, by rw [e]⟩
  · exact ⟨_, cap, rfl⟩
/-- A literal row. -/
theorem OwnI.lit {w : World} {base : Nat} (g : Nat) (zs : List Int) (cs : Array Value) (hcs : cs = (icells zs).toArray) (hb : w.heap[g]? = some (.cells cs 3 (0, 0))) (hg : base ≤ g) (hl : zs.length ≤ 1000000) : OwnI w base (.slice (some ⟨g, 0, none⟩) zs.length zs.length) zs := by
  refine ⟨by rw [icells_len, Nat.mul_one], .inr ⟨g, zs.length, cs, rfl, hg, hb, Nat.le_refl _, by unfold maxLen; omega, ?_⟩⟩
  subst hcs
  exact ⟨by simp [icells], by rw [Nat.mul_one]; exact List.take_of_length_le (by simp [icells])⟩

/-- append of some numbers, in any region. -/
theorem wp_appI {W : World} {o : Oper} {a : Act} {K : Act → World → Prop} {Q : Exit → Act → World → Prop} (s x : Operand)
    (ho : o.op = .call { callee := .builtin .append, args := #[s, x], argTypes := #[35, 35] })
    (base : Nat) (v : Value) (zs news : List Int) (cs : Array Value) (hcs : cs = (icells news).toArray) (m : Nat) (hm : m = news.length) (hs : a.eval s = v) (hown : OwnI W base v zs) (hbase : base ≤ W.heap.size)
    (hx : a.eval x = .slice (some ⟨W.heap.size, 0, none⟩) m m) (hl : zs.length + news.length ≤ 1000000)
    (h : ∀ v' w', Hid (OwnI w' base v' (zs ++ news)) → Hid ((W.alloc (.cells cs 3)).grownBy w' v.ownBlock) → Hid (v'.ownBlock = v.ownBlock ∨ v'.ownBlock = some (W.heap.size + 1)) → K (a.put o.dst v') w') :
    Oper.wp Tryz.prog o a (W.alloc (.cells cs 3)) K Q := by
  subst hcs hm
  obtain ⟨i0, hi, hz0, hz1, hz2⟩ := info_parts i64_parts
  refine Ap.wp_append_any _ s x 35 ho base 3 i0 (.int .i64 0) 1 8 Tryz.underlying35 hi hz0 hz1 hz2 rfl (by decide) v zs.length (icells zs) hs (OwnI.alloc hown _) (W.heap.size + 1) (some ⟨W.heap.size, 0, none⟩) news.length news.length (icells news) hx ?_ (icells_one _) (by unfold maxLen; omega) (by omega) (by simp; omega) ?_
  · refine ⟨by rw [icells_len, Nat.mul_one], fun _ => ⟨⟨W.heap.size, 0, none⟩, rfl, Nat.lt_succ_self _, fun j u hj => ?_⟩⟩
    have e : (⟨W.heap.size, 0, none⟩ : Addr).add j = ⟨W.heap.size, j, none⟩ := by
      unfold Addr.add
      split
      · rename_i h0; subst h0; rfl
      · simp
    rw [e, cell_of_row _ _ j _ _ (0, 0) (heap_alloc_new W _)]
    simpa using hj
  · intro v' w' h1 h2 h3
    refine h v' w' (hid ?_) (hid h2) (hid (by rw [World.size_alloc] at h3; exact h3))
    unfold OwnI
    rw [List.length_append, icells_app]
    exact h1

theorem wpList_appI {W : World} {ops : Array Oper} {rest : List Oper} {o : Oper} {a : Act} {Q : Exit → Act → World → Prop} (hgd : o.guard = none) (s x : Operand)
    (ho : o.op = .call { callee := .builtin .append, args := #[s, x], argTypes := #[35, 35] })
    (base : Nat) (v : Value) (zs news : List Int) (cs : Array Value) (hcs : cs = (icells news).toArray) (m : Nat) (hm : m = news.length) (hs : a.eval s = v) (hown : OwnI W base v zs) (hbase : base ≤ W.heap.size)
    (hx : a.eval x = .slice (some ⟨W.heap.size, 0, none⟩) m m) (hl : zs.length + news.length ≤ 1000000)
    (h : ∀ v' w', Hid (OwnI w' base v' (zs ++ news)) → Hid ((W.alloc (.cells cs 3)).grownBy w' v.ownBlock) → Hid (v'.ownBlock = v.ownBlock ∨ v'.ownBlock = some (W.heap.size + 1)) → wpList Tryz.prog ops Q rest (a.put o.dst v') w') :
    wpList Tryz.prog ops Q (o :: rest) a (W.alloc (.cells cs 3)) := by
  subst hcs hm
  obtain ⟨i0, hi, hz0, hz1, hz2⟩ := info_parts i64_parts
  refine Ap.wpList_append_any _ hgd s x 35 ho base 3 i0 (.int .i64 0) 1 8 Tryz.underlying35 hi hz0 hz1 hz2 rfl (by decide) v zs.length (icells zs) hs (OwnI.alloc hown _) (W.heap.size + 1) (some ⟨W.heap.size, 0, none⟩) news.length news.length (icells news) hx ?_ (icells_one _) (by unfold maxLen; omega) (by omega) (by simp; omega) ?_
  · refine ⟨by rw [icells_len, Nat.mul_one], fun _ => ⟨⟨W.heap.size, 0, none⟩, rfl, Nat.lt_succ_self _, fun j u hj => ?_⟩⟩
    have e : (⟨W.heap.size, 0, none⟩ : Addr).add j = ⟨W.heap.size, j, none⟩ := by
      unfold Addr.add
      split
      · rename_i h0; subst h0; rfl
      · simp
    rw [e, cell_of_row _ _ j _ _ (0, 0) (heap_alloc_new W _)]
    simpa using hj
  · intro v' w' h1 h2 h3
    refine h v' w' (hid ?_) (hid h2) (hid (by rw [World.size_alloc] at h3; exact h3))
    unfold OwnI
    rw [List.length_append, icells_app]
    exact h1
end Go.Proofs.YtkpnhggpcpjddaaGreatDoor
