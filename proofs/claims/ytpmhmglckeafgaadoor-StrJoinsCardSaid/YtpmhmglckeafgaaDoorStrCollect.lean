/-
  slices.Collect over an iterator: a new row of what came. str.Split: a new row of the path's names.
-/
import Derived.Test.YtpmhmglckeafgaaDoorStrNames
import Derived.Maps.AppendAt
import Derived.RangeFuncBox
namespace Go.Proofs.YtpmhmglckeafgaaDoor
open Go.RowKit Go.Shelf
attribute [local go_sem] Oper.semAt_some

theorem infoS : (Tryd.prog.info? 9).map (fun i => (i.zero, i.size, i.bytes)) = some (some (.string ⟨#[]⟩), 1, 16) := by kernel_rfl

def strs (xs : List ByteArray) : List Value := xs.map .string
theorem strs_snoc (xs : List ByteArray) (x : ByteArray) : strs (xs ++ [x]) = strs xs ++ [.string x] := by simp [strs]

theorem ownsRow_turned {own : Nat → Prop} {A B : World} {base : Nat} {e : TypeId} {size n : Nat} {v : Value} {xs : List Value} (h : A.ownsRow base e size v n xs) (ht : Turned own A B) (hn : ∀ k, base ≤ k → ¬ own k) : B.ownsRow base e size v n xs := by
  refine ⟨h.1, ?_⟩
  rcases h.2 with ⟨hv, h0⟩ | ⟨g, cap, cur, hv, hb, hg, h1⟩
  · exact .inl ⟨hv, h0⟩
  · exact .inr ⟨g, cap, cur, hv, hb, (ht.block g (Array.getElem?_eq_some_iff.1 hg).1 (hn g hb)).trans hg, h1⟩

theorem ownsRow_block {A : World} {base : Nat} {e : TypeId} {size n : Nat} {v : Value} {xs : List Value} (h : A.ownsRow base e size v n xs) : ∀ g, v.ownBlock = some g → base ≤ g := by
  intro g hg
  rcases h.2 with ⟨hv, _⟩ | ⟨g', cap, cur, hv, hb, _⟩
  · subst hv; simp [Value.ownBlock] at hg
  · subst hv
    have : g' = g := by simpa [Value.ownBlock] using hg
    omega

/-- What AppendSeq holds between two rounds. -/
def RowAt (B base : Nat) (pre : List ByteArray) (wr : World) : Prop :=
  ∃ v, Boxed wr B 24 v ∧ wr.ownsRow base 9 1 v pre.length (strs pre)

theorem row_turned {own : Nat → Prop} {B base : Nat} {pre : List ByteArray} {X Y : World} (h : RowAt B base pre X) (ht : Turned own X Y) (hB : ¬ own B) (hn : ∀ k, base ≤ k → ¬ own k) : RowAt B base pre Y := by
  obtain ⟨v, hv, hr⟩ := h
  exact ⟨v, boxed_turned hv ht hB, ownsRow_turned hr ht hn⟩

set_option maxRecDepth 100000 in
set_option maxHeartbeats 1000000 in
theorem appendSeq_any {gf : Nat} {lb : Array Value} (eg : ∀ args w, (callFunc gf args).run Tryd.prog w = .ok (.enter gf args) w) {pv : Nat → Prop} {c : Nat} {S Sp R : List ByteArray → Prop} (hN : ∀ xs, R xs → xs.length ≤ 1000001) {ok : World → Prop}
    (hseq : Iter Tryd.prog gf lb (fun x : ByteArray => #[.string x]) pv c S Sp R ok) (n : Nat) (w : World) (hok : ∀ o1 o2 o3, ok (((w.alloc o1).alloc o2).alloc o3)) (hpv : ∀ k, pv k → k < w.heap.size) :
    CallsIn Fence.wide n Tryd.prog 37 #[.slice none 0 0, .func (.func gf) #[] lb] w fun e w' =>
      ∃ v xs, e = .returned v ∧ S xs ∧ w'.ownsRow (w.heap.size + (c + 3)) 9 1 v xs.length (strs xs) ∧ Turned (fun k => pv k ∨ w.heap.size ≤ k) w w' := by
  refine callsIn_of_wp_marks Tryd.func37 rfl trivial ?_ rfl
  simp only [Tryd.ntmps37, List.size_toArray, List.length_cons, List.length_nil, Nat.reduceAdd, Nat.reduceSub, Array.replicate_succ, Array.replicate_zero, List.push_toArray, List.append_toArray, List.nil_append, List.cons_append]
  obtain ⟨i0, hi, hz0, hz1, hz2⟩ := info_parts infoS
  have hB := Boxed.new w 24 (.slice none 0 0)
  gi_wp2
  obtain ⟨W1, hW1⟩ : ∃ W1, w.alloc (.cells #[.slice none 0 0] 24) = W1 := ⟨_, rfl⟩
  have hs1 : W1.heap.size = w.heap.size + 1 := by rw [← hW1]; simp
  have ht1 : Turned (fun k => pv k ∨ w.heap.size ≤ k) w W1 := by rw [← hW1]; exact .alloc _ _ _
  have hok1 : ∀ o1 o2, ok ((W1.alloc o1).alloc o2) := by rw [← hW1]; exact fun o1 o2 => hok _ o1 o2
  rw [hW1] at hB ⊢
  clear hW1
  have HS := Lib.hid hs1
  have hown : ∀ k, ownOf pv (c + 2) W1 k → k ≠ w.heap.size ∧ ¬ w.heap.size + (c + 3) ≤ k ∧ (pv k ∨ w.heap.size ≤ k) := by
    rintro k (h | ⟨h1, h2⟩)
    · have := hpv k h
      exact ⟨by omega, by omega, .inl h⟩
    · exact ⟨by omega, by omega, .inr (by omega)⟩
  clear hs1
  refine wpIn_range (gf := gf) (lb := lb) rfl eg hseq hok1 (fun k h => by have := hpv k h; have := HS.out; omega) (fun _ => rfl)
    (fun pre wr => RowAt w.heap.size (w.heap.size + (c + 3)) pre wr ∧ Turned (fun k => pv k ∨ w.heap.size ≤ k) w wr) (fun _ _ _ => False) ?hI ?hIx ?h0
    (fun x => { tmps := #[.slice none 0 0, .func (.func gf) #[] lb, .pointer (some ⟨w.heap.size, 0, none⟩), undef, .slice none 0 0, .string x, .func (.func gf) #[] lb, .string x, undef, undef, undef, undef, undef], defers := [] }) ?assign ?body ?done ?stop
  case hI =>
    rintro pre A B ⟨h1, h2⟩ ht
    exact ⟨row_turned h1 ht (fun hk => (hown _ hk).1 rfl) (fun k hk ho => (hown k ho).2.1 hk), h2.trans (ht.mono (fun k hk => (hown k hk).2.2))⟩
  case hIx => intro j pre A B h _; exact h
  case h0 => exact ⟨⟨_, hB, World.ownsRow_nil _ _ _ _⟩, ht1⟩
  case assign =>
    intro l' m x V K hK
    gi_wp2
    exact hK
  case body =>
    rintro l' m pre x V ⟨⟨v, hv, hrow⟩, ht⟩ hsz hR
    have hlen := hN _ hR
    rw [List.length_append, List.length_singleton] at hlen
    have hc := hv.cell
    have hbase : w.heap.size + (c + 3) ≤ V.heap.size := by have := HS.out; omega
    gi_wp2_with (gi_at_builtin; refine wpListIn_append_own _ rfl _ _ 24 rfl (w.heap.size + (c + 3)) 9 i0 (.string ⟨#[]⟩) 1 16 Tryd.underlying24 hi hz0 hz1 hz2 rfl (by decide) _ _ _ rfl (hrow.alloc _) ⟨V.heap.size, 0, none⟩ 1 1 [.string x] rfl rfl (cell_one_new _ _ _) (by simp [Value.oneCell']) (by unfold maxLen; omega) (by omega) (by simp; omega) ?_; intro v' w1 hown' hgrow _; obtain ⟨g', cap', rfl⟩ := ownsRow_succ hown'; have hv1 : Boxed w1 w.heap.size 24 v := (hv.alloc _).kept hgrow (hv.not_row (by decide) hrow); have hc1 := hv1.cell; have hf1 := hv1.frozen)
    have hblk := ownsRow_block hrow
    refine ⟨?_, ⟨_, hv1.set _, ?_⟩, ?_⟩
    · exact ((Spared.grown (World.grownBy_alloc V _ none) (fun _ e => by cases e)).trans (Spared.grown hgrow (fun r e ho => (hown r ho).2.1 (hblk r e)))).trans (Spared.grown (grownBy_setCell' _ _ _) (fun r e ho => by cases e; exact (hown _ ho).1 rfl))
    · rw [strs_snoc, List.length_append]
      exact hown'.kept (grownBy_setCell' w1 _ _) (.inr (hv1.not_row (by decide) hown').symm)
    · exact ((ht.trans (.alloc _ _ _)).trans (.grown hgrow (fun r e => .inr (by have := hblk r e; omega)))).trans (.setCell (p := ⟨w.heap.size, 0, none⟩) (.inr (Nat.le_refl _)) _ _)
  case done =>
    rintro xs V hS ⟨⟨v, hv, hrow⟩, ht⟩ hsz hk
    have hc := hv.cell
    gi_wp2
    refine ⟨by simp, .inl ⟨_, _, rfl, run_takeDeferred hk, ?_⟩⟩
    exact ⟨_, results_tmp rfl _ _ _, v, xs, rfl, hS, ownsRow_putObj hrow _ hk rfl, ht.trans (.putObj (.inr (by have := HS.out; omega)) _ _)⟩
  case stop =>
    rintro j pre V hS h hsz hk
    exact h.elim

theorem seq_ok_names (s : ByteArray) (w : World) (o1 o2 o3 : Obj) : Boxed ((((w.alloc (.cells #[.string s] 9)).alloc o1).alloc o2).alloc o3) w.heap.size 9 (.string s) :=
  (((Boxed.new w 9 (.string s)).alloc _).alloc _).alloc _

set_option maxHeartbeats 1000000 in
theorem names_make (s : ByteArray) (w : World) :
    Calls Tryd.prog 26 #[.string s] w fun e w' => e = .returned (.func (.func 38) #[] #[.pointer (some ⟨w.heap.size, 0, none⟩)]) ∧ w' = w.alloc (.cells #[.string s] 9) := by
  go_enter Tryd.func26, Tryd.ntmps26
  go_wp2
  go_ret
  exact ⟨rfl, rfl⟩

/-- A row of texts: new, or nil. -/
def Texts (w : World) (B : Nat) (v : Value) (ts : List (List UInt8)) : Prop := ∃ xs : List ByteArray, xs.map tl = ts ∧ w.ownsRow B 9 1 v xs.length (strs xs)

set_option maxRecDepth 100000 in
set_option maxHeartbeats 1000000 in
/-- Collect over the names' function. -/
theorem collect_any (s : ByteArray) (hs : s.size ≤ 1000000) (w : World) :
    Calls Tryd.prog 25 #[.func (.func 38) #[] #[.pointer (some ⟨w.heap.size, 0, none⟩)]] (w.alloc (.cells #[.string s] 9)) fun e w' =>
      ∃ v, e = .returned v ∧ Texts w' w.heap.size v (M.names (tl s)) ∧ Below w.heap.size w w' := by
  have H := callsIn_wide.1 (appendSeq_any (enters_of Tryd.func38 (by kernel_rfl) rfl) (fun xs hx => by have h1 := hx.length_le; have h2 := M.names_length (tl s); have h3 : (tl s).length = s.size := rfl; rw [List.length_map] at h1; omega) (names_iter s hs w.heap.size) 0 (w.alloc (.cells #[.string s] 9))
    (fun o1 o2 o3 => seq_ok_names s w o1 o2 o3) (by rintro k rfl; simp))
  have HW : ∀ w', Turned (fun k => k = w.heap.size ∨ (w.alloc (.cells #[.string s] 9)).heap.size ≤ k) (w.alloc (.cells #[.string s] 9)) w' → Below w.heap.size w w' := fun w' h =>
    ((Below.refl w.heap.size w).alloc (Nat.le_refl _) _).trans (h.below (n := w.heap.size) (fun k hk => by rw [World.size_alloc] at hk; omega) (by simp))
  go_enter Tryd.func25, Tryd.ntmps25
  go_wp2_with (go_at_call 37; refine H.mono ?_; rintro e w' ⟨v, xs, rfl, hS, hrow, ht⟩; have HS := Lib.hid hS; clear hS)
  go_ret
  refine ⟨v, rfl, ⟨xs, HS.out, hrow.1, ?_⟩, HW w' ht⟩
  rcases hrow.2 with h | ⟨g, cap, cur, h1, h2, h3⟩
  · exact .inl h
  · exact .inr ⟨g, cap, cur, h1, by rw [World.size_alloc] at h2; omega, h3⟩

set_option maxHeartbeats 1000000 in
/-- str.Split. -/
theorem split_any (s : ByteArray) (hs : s.size ≤ 1000000) (w : World) :
    Calls Tryd.prog 11 #[.string s] w fun e w' => ∃ v, e = .returned v ∧ Texts w' w.heap.size v (M.names (tl s)) ∧ Below w.heap.size w w' := by
  go_enter Tryd.func11, Tryd.ntmps11
  go_wp2_with (first
    | (go_at_call 26; refine (names_make _ _).mono ?_; rintro e w' ⟨rfl, rfl⟩)
    | (go_at_call 25; refine (collect_any s hs w).mono ?_; rintro e w' ⟨v, rfl, hv, hb⟩))
  go_ret
  exact ⟨v, rfl, hv, hb⟩
end Go.Proofs.YtpmhmglckeafgaaDoor
