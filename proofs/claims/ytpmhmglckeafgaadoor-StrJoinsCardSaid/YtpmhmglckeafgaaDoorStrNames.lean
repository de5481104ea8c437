/-
  The names of a path, told by a function: what lies between slashes, but what leads nowhere.
-/
import Derived.Test.YtpmhmglckeafgaaDoorStrSeq
namespace Go.Proofs.YtpmhmglckeafgaaDoor
open Go.RowKit Go.Shelf
attribute [local go_sem] Oper.semAt_some

/-- Those that lead somewhere. -/
def lead (xs : List ByteArray) : List ByteArray := xs.filter fun x => M.leads (tl x)
theorem lead_map (xs : List ByteArray) : (lead xs).map tl = (xs.map tl).filter M.leads := by
  unfold lead; rw [List.filter_map]; rfl
theorem lead_length (xs : List ByteArray) : (lead xs).length ≤ xs.length := List.length_filter_le _ _
theorem lead_yes (pre : List ByteArray) (x : ByteArray) (h : M.leads (tl x) = true) : lead (pre ++ [x]) = lead pre ++ [x] := by simp [lead, h]
theorem lead_no (pre : List ByteArray) (x : ByteArray) (h : M.leads (tl x) = false) : lead (pre ++ [x]) = lead pre := by simp [lead, h]

theorem tl_eq (x : ByteArray) : x.toList = tl x := ByteArray.toList_eq x
theorem leads_yes {x : ByteArray} (h : M.leads (tl x) = true) : x.toList.isEmpty = false ∧ (x.toList == [46]) = false := by
  obtain ⟨h1, h2⟩ := M.leads_iff.1 h
  rw [tl_eq]; exact ⟨by simpa using h1, by simpa using h2⟩
theorem leads_no {x : ByteArray} (h : M.leads (tl x) = false) : x.toList.isEmpty = true ∨ (x.toList.isEmpty = false ∧ (x.toList == [46]) = true) := by
  rw [tl_eq]
  unfold M.leads at h
  by_cases h1 : tl x = []
  · exact .inl (by simp [h1])
  · refine .inr ⟨by simpa using h1, ?_⟩
    have h2 : (tl x == []) = false := by simpa using h1
    rw [h2] at h
    simpa using h

def NamesAt (J : List ByteArray → World → Prop) (B l : Nat) (pre : List ByteArray) (wr : World) : Prop := J (lead pre) wr ∧ Boxed wr B 28 (.func (.yield l) #[] #[])

theorem size_seq (w : World) (o1 o2 o3 : Obj) : (((w.alloc o1).alloc o2).alloc o3).heap.size = w.heap.size + 3 := by simp

set_option maxRecDepth 100000 in
set_option maxHeartbeats 1000000 in
theorem names_iter (s : ByteArray) (hs : s.size ≤ 1000000) (b : Nat) :
    Iter Tryd.prog 38 #[.pointer (some ⟨b, 0, none⟩)] (fun x : ByteArray => #[.string x]) (fun k => k = b) 6
      (fun xs => xs.map tl = M.names (tl s)) (fun pre => pre.map tl <+: M.names (tl s)) (fun xs => xs.map tl <+: M.names (tl s)) (fun W => Boxed W b 9 (.string s)) := by
  intro n l J Jx W hok hJ hJx hY h0
  refine callsIn_of_wp_marks Tryd.func38 rfl trivial ?_ rfl
  simp only [Tryd.ntmps38, List.size_toArray, List.length_cons, List.length_nil, Nat.reduceAdd, Nat.reduceSub, Array.replicate_succ, Array.replicate_zero, List.push_toArray, List.append_toArray, List.nil_append, List.cons_append]
  have hc := hok.cell
  have hB := Boxed.new W 28 (.func (.yield l) #[] #[])
  have hb1 := hok.alloc (.cells #[.func (.yield l) #[] #[]] 28)
  have hc1 := hb1.cell
  gi_wp2_with (first
    | (refine ⟨trivial, noDepth, ?_⟩; gi_at_call 39; refine (callsIn_wide.2 (seq_make _ _)).mono ?_; rintro e w' ⟨rfl, rfl⟩))
  obtain ⟨W4, hW4⟩ : ∃ W4, W.alloc (.cells #[.func (.yield l) #[] #[]] 28) = W4 := ⟨_, rfl⟩
  have hs4 : W4.heap.size = W.heap.size + 1 := by rw [← hW4]; simp
  have hj4 : J [] W4 := by rw [← hW4]; exact hJ _ _ _ h0 (.alloc _ _ _)
  rw [hW4] at hB
  rw [hW4, ← hs4]
  have hlt := hok.lt
  have hz := size_seq W4 (.cells #[.string s] 9) (.cells #[.string sl] 9) (.cells #[.int .i64 0] 3)
  have hown : ∀ k, ownOf (pvOf (W4.heap.size + 1) W4.heap.size (W4.heap.size + 2)) 2 (((W4.alloc (.cells #[.string s] 9)).alloc (.cells #[.string sl] 9)).alloc (.cells #[.int .i64 0] 3)) k →
      ownOf (fun k => k = b) 6 W k ∧ k ≠ W.heap.size := by
    rintro k ((rfl | rfl | rfl) | ⟨h1, h2⟩)
    · exact ⟨.inr ⟨by omega, by omega⟩, by omega⟩
    · exact ⟨.inr ⟨by omega, by omega⟩, by omega⟩
    · exact ⟨.inr ⟨by omega, by omega⟩, by omega⟩
    · exact ⟨.inr ⟨by omega, by omega⟩, by omega⟩
  have hBo : ownOf (fun k => k = b) 6 W W.heap.size := .inr ⟨by omega, by omega⟩
  have HZ := Lib.hid hz; clear hz
  have HS4 := Lib.hid hs4; clear hs4
  clear hW4
  refine wpIn_range (gf := 53) (lb := #[.pointer (some ⟨W4.heap.size + 1, 0, none⟩), .pointer (some ⟨W4.heap.size, 0, none⟩), .pointer (some ⟨W4.heap.size + 2, 0, none⟩)]) rfl (enters_of Tryd.func53 (by kernel_rfl) rfl)
    (seq_iter s hs (W4.heap.size + 1) W4.heap.size (W4.heap.size + 2) (by omega) (by omega)) (fun o1 o2 => seq_ok s W4 o1 o2) ?pv (fun _ => rfl)
    (fun pre wr => NamesAt J W.heap.size l pre wr) (fun j pre wr => j = .ret ∧ Jx (lead pre) wr) ?hI ?hIx ?h0
    (fun x => { tmps := #[.func (.yield l) #[] #[], .pointer (some ⟨b, 0, none⟩), .pointer (some ⟨W.heap.size, 0, none⟩), .string x, .string s,
      .func (.func 53) #[] #[.pointer (some ⟨W4.heap.size + 1, 0, none⟩), .pointer (some ⟨W4.heap.size, 0, none⟩), .pointer (some ⟨W4.heap.size + 2, 0, none⟩)],
      .string x, undef, undef, undef, undef, undef, undef, undef, undef, undef, undef], defers := [] }) ?assign ?body ?done ?stop
  case pv =>
    rintro k (rfl | rfl | rfl)
    · rw [HZ.out]; omega
    · rw [HZ.out]; omega
    · rw [HZ.out]; omega
  case hI =>
    rintro pre A B ⟨h1, h2⟩ ht
    exact ⟨hJ _ _ _ h1 (ht.mono (fun k hk => (hown k hk).1)), boxed_turned h2 ht (fun hk => (hown _ hk).2 rfl)⟩
  case hIx =>
    rintro j pre A B ⟨h1, h2⟩ ht
    exact ⟨h1, hJx _ _ _ h2 (ht.mono (fun k hk => (hown k hk).1))⟩
  case h0 =>
    exact ⟨hJ _ _ _ (hJ _ _ _ (hJ _ _ _ hj4 (.alloc _ _ _)) (.alloc _ _ _)) (.alloc _ _ _), ((hB.alloc _).alloc _).alloc _⟩
  case assign =>
    intro l' m x V K hK
    gi_wp2
    exact hK
  case body =>
    rintro l' m pre x V ⟨hj, hbx⟩ hsz hlen
    rw [HZ.out] at hsz
    have hcx := hbx.cell
    by_cases hx : M.leads (tl x) = true
    · obtain ⟨fn, tmps, assign, body, hy, hR⟩ := hY (m - 1) (lead pre) x V hj (by have := HS4.out; omega) (by rw [← lead_yes _ _ hx, lead_map]; exact hlen.filter _)
      obtain ⟨e1, e2⟩ := leads_yes hx
      have HX := Lib.hid hx; clear hx
      gi_wp2
      refine ⟨noDepth, ?_⟩
      refine RoundIn.mono (F := Fence.wide) hR ?_
      rintro e W' ⟨hsp, ⟨rfl, hj'⟩ | ⟨rfl, hj'⟩⟩
      · have g := boxed_spared hbx hsp hBo
        gi_wp2
        exact ⟨hsp.mono (fun k hk => (hown k hk).1), by rw [lead_yes _ _ HX.out]; exact hj', g⟩
      · gi_wp2
        exact ⟨hsp.mono (fun k hk => (hown k hk).1), rfl, by rw [lead_yes _ _ HX.out]; exact hj'⟩
    · have HX := Lib.hid hx
      rcases leads_no (by simpa using hx) with e1 | ⟨e1, e2⟩
      all_goals
        clear hx
        gi_wp2
        exact ⟨Spared.refl _ _, by rw [lead_no _ _ (by simpa using HX.out)]; exact hj, hbx⟩
  case done =>
    rintro xs V hS ⟨hj, hbx⟩ hsz hk
    gi_wp2
    refine ⟨by simp, .inl ⟨_, _, rfl, run_takeDeferred hk, ?_⟩⟩
    refine ⟨_, results_none rfl _ _ _, ⟨_, rfl⟩, .inl ⟨lead xs, ?_, hJ _ _ _ hj (.putObj ?_ _ _)⟩⟩
    · rw [lead_map, hS]; rfl
    · exact (hown _ (.inr ⟨Nat.le_refl _, by omega⟩)).1
  case stop =>
    rintro j pre V ⟨q, hS⟩ ⟨rfl, hj⟩ hsz hk
    gi_wp2
    refine ⟨by simp, .inl ⟨_, _, rfl, run_takeDeferred hk, ?_⟩⟩
    refine ⟨_, results_none rfl _ _ _, ⟨_, rfl⟩, .inr ⟨lead pre, ?_, hJx _ _ _ hj (.putObj ?_ _ _)⟩⟩
    · rw [lead_map]; unfold M.names; rw [← hS, List.filter_append]; exact ⟨_, rfl⟩
    · exact (hown _ (.inr ⟨Nat.le_refl _, by omega⟩)).1
end Go.Proofs.YtpmhmglckeafgaaDoor
