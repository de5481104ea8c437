/-
  A field is printed: a text's, a number's.
-/
import Derived.Test.YtbjejgnfnpednaaDoorHdParseS
import Derived.Test.YtbjejgnfnpednaaDoorNumPutB
import Derived.Test.YtbjejgnfnpednaaDoorHMg
namespace Go.Proofs.YtbjejgnfnpednaaDoor
open Go.RowKit Go.Lib

/-- Block gb is a block of 512 bytes that is being laid. -/
def laid (W : World) (gb : Nat) (zs : List Int) : World := W.setRow gb (bcells zs).toArray
theorem Arr.laid {W : World} {gb : Nat} {t : TypeId} {zs : List Int} (h : Arr W gb t zs) (ys : List Int) : Arr (laid W gb ys) gb t ys := h.setRow ys

/-- What printing a text's field does. -/
def TxtPut (zs : List Int) (a m : Nat) (s : ByteArray) (gb : Nat) (w : World) (e : Ending) (w' : World) : Prop :=
  match S.M.put s.data.toList m with
  | none => e = .panicked (boom 33) ∧ Below w.heap.size w w'
  | some l => e = .returned (.tuple #[]) ∧ ∃ w1, Below w.heap.size w w1 ∧ w' = laid w1 gb (splice zs a (S.ints l))

theorem put_len {s l : List UInt8} {m : Nat} (h : S.M.put s (m : Int) = some l) : l.length = m := by
  unfold S.M.put at h
  split at h
  · rename_i h1
    injection h with h
    subst h
    rw [List.length_append, List.length_replicate]
    omega
  · cases h
theorem splice_cells (zs ys : List Int) (a : Nat) : ((bcells zs).toArray.toList.take a ++ (bcells ys ++ (bcells zs).toArray.toList.drop (a + (bcells ys).length))) = bcells (splice zs a ys) := by
  rw [← bcells_splice]
  rfl

set_option maxRecDepth 100000 in
set_option maxHeartbeats 1000000 in
theorem text_print (a m : Nat) (there : Bool) (g i gb : Nat) (zs : List Int) (s : ByteArray) (w : World) (ham : a + m ≤ 512) (hm : 0 < m) (hs : s.size ≤ 100000) (hz : zs.length = 512)
    (hA : Arr w gb 5 zs) (hcell : w.cell? ⟨g, i, none⟩ = some (.string s)) :
    Calls Tryd.prog 28 #[tfv a m there ⟨g, i, none⟩, .slice (some ⟨gb, 0, none⟩) 512 512] w (TxtPut zs a m s gb w) := by
  have hg : g < w.heap.size := World.block_lt_of_cell? _ _ hcell
  have hgb := hA.lt
  have HC0 := fun (W : World) => S.put_any s hs (m : Int) (by omega) (by omega) W
  unfold tfv
  go_enter Tryd.func28, Tryd.ntmps28
  go_wp2_with fail
  generalize hW1 : w.alloc _ = W1
  obtain ⟨hq, hb1, _⟩ := after_alloc hW1
  have CF := hid (fun (W : World) (hW : Below W1.heap.size W1 W) => (show W.cell? ⟨w.heap.size, 0, none⟩ = some (.int .i64 a) ∧ W.cell? ⟨w.heap.size, 1, none⟩ = some (.int .i64 m) ∧ W.cell? ⟨w.heap.size, 3, none⟩ = some (.pointer (some ⟨g, i, none⟩)) ∧ W.cell? ⟨g, i, none⟩ = some (.string s) ∧ Below w.heap.size w W by
    have h1 := hb1.trans (hW.mono hb1.size)
    have hlt : w.heap.size < W1.heap.size := (Array.getElem?_eq_some_iff.1 hq).1
    have hq2 : W.heap[w.heap.size]? = _ := (hW.block _ hlt).trans hq
    exact ⟨(cell_of_row _ _ 0 _ _ _ hq2).trans rfl, (cell_of_row _ _ 1 _ _ _ hq2).trans rfl, (cell_of_row _ _ 3 _ _ _ hq2).trans rfl, (h1.cell hg).trans hcell, h1⟩))
  have HC := hid HC0
  have HAA := hid hA
  clear HC0 hq hb1 hW1 hcell hA
  refine wp_region_held_drew (S := fun W => Below W1.heap.size W1 W) (by kernel_rfl) (below_drew' (Below.refl _ _)) (fun hS => ?_)
  refine takeH (i := 0) (v := ?_) 7 rfl rfl (by kernel_rfl) (by kernel_rfl) (by kernel_rfl) (fun _ _ _ h => h) (by rfl) ?hy0 hS ?rest0
  case hy0 => (intro W hW; have f0 := (CF.out W hW).1; have f1 := (CF.out W hW).2.1; have f2 := (CF.out W hW).2.2.1; have f3 := (CF.out W hW).2.2.2.1; clear hW; go_simp; first | done | with_reducible rfl)
  try simp only [Act.put, List.setIfInBounds_toArray, List.set_cons_zero, List.set_cons_succ]
  refine takeH (i := 1) (v := ?_) 8 rfl rfl (by kernel_rfl) (by kernel_rfl) (by kernel_rfl) (fun _ _ _ h => h) (by rfl) ?hy1 hS ?rest1
  case hy1 => (intro W hW; have f0 := (CF.out W hW).1; have f1 := (CF.out W hW).2.1; have f2 := (CF.out W hW).2.2.1; have f3 := (CF.out W hW).2.2.2.1; clear hW; go_simp; first | done | with_reducible rfl)
  try simp only [Act.put, List.setIfInBounds_toArray, List.set_cons_zero, List.set_cons_succ]
  refine takeH (i := 2) (v := ?_) 9 rfl rfl (by kernel_rfl) (by kernel_rfl) (by kernel_rfl) (fun _ _ _ h => h) (by rfl) ?hy2 hS ?rest2
  case hy2 => (intro W hW; have f0 := (CF.out W hW).1; have f1 := (CF.out W hW).2.1; have f2 := (CF.out W hW).2.2.1; have f3 := (CF.out W hW).2.2.2.1; clear hW; go_simp; first | done | with_reducible rfl)
  try simp only [Act.put, List.setIfInBounds_toArray, List.set_cons_zero, List.set_cons_succ]
  refine takeH (i := 3) (v := ?_) 10 rfl rfl (by kernel_rfl) (by kernel_rfl) (by kernel_rfl) (fun _ _ _ h => h) (by rfl) ?hy3 hS ?rest3
  case hy3 => (intro W hW; have f0 := (CF.out W hW).1; have f1 := (CF.out W hW).2.1; have f2 := (CF.out W hW).2.2.1; have f3 := (CF.out W hW).2.2.2.1; clear hW; go_simp; first | done | with_reducible rfl)
  try simp only [Act.put, List.setIfInBounds_toArray, List.set_cons_zero, List.set_cons_succ]
  refine takeH (i := 4) (v := ?_) 11 rfl rfl (by kernel_rfl) (by kernel_rfl) (by kernel_rfl) (fun _ _ _ h => h) (by rfl) ?hy4 hS ?rest4
  case hy4 => (intro W hW; have f0 := (CF.out W hW).1; have f1 := (CF.out W hW).2.1; have f2 := (CF.out W hW).2.2.1; have f3 := (CF.out W hW).2.2.2.1; clear hW; go_simp; first | done | with_reducible rfl)
  try simp only [Act.put, List.setIfInBounds_toArray, List.set_cons_zero, List.set_cons_succ]
  refine takeH (i := 5) (v := ?_) 12 rfl rfl (by kernel_rfl) (by kernel_rfl) (by kernel_rfl) (fun _ _ _ h => h) (by rfl) ?hy5 hS ?rest5
  case hy5 => (intro W hW; have f0 := (CF.out W hW).1; have f1 := (CF.out W hW).2.1; have f2 := (CF.out W hW).2.2.1; have f3 := (CF.out W hW).2.2.2.1; clear hW; go_simp; first | done | with_reducible rfl)
  try simp only [Act.put, List.setIfInBounds_toArray, List.set_cons_zero, List.set_cons_succ]
  refine loneH (i := 6) 13 rfl rfl (by kernel_rfl) (by rfl) (fun K hK => ?_)
  go_simp
  (with_reducible refine (HC.out _).mono ?_)
  rintro e w2 ⟨A2, n2, c2, rfl, hn2, hc2, hr2, b2, _⟩
  have B2 := hS.trans (b2.mono hS.size)
  have HR2 := hid hr2
  clear hS b2 hr2
  refine hK.out _ _ B2 (fun hS => ?_)
  clear hK K
  try simp only [Act.put, List.setIfInBounds_toArray, List.set_cons_zero, List.set_cons_succ]
  refine takeH (i := 7) (v := ?_) 6 rfl rfl (by kernel_rfl) (by kernel_rfl) (by kernel_rfl) (fun _ _ _ h => h) (by rfl) ?hy7 hS ?rest7
  case hy7 => (intro W hW; clear hW; go_simp; first | done | with_reducible rfl)
  try simp only [Act.put, List.setIfInBounds_toArray, List.set_cons_zero, List.set_cons_succ]
  refine takeH (i := 8) (v := ?_) 14 rfl rfl (by kernel_rfl) (by kernel_rfl) (by kernel_rfl) (fun _ _ _ h => h) (by rfl) ?hy8 hS ?rest8
  case hy8 => (intro W hW; clear hW; go_simp; first | done | with_reducible rfl)
  try simp only [Act.put, List.setIfInBounds_toArray, List.set_cons_zero, List.set_cons_succ]
  refine takeH (i := 9) (v := ?_) 15 rfl rfl (by kernel_rfl) (by kernel_rfl) (by kernel_rfl) (fun _ _ _ h => h) (by rfl) ?hy9 hS ?rest9
  case hy9 => (intro W hW; clear hW; go_simp; first | done | with_reducible rfl)
  try simp only [Act.put, List.setIfInBounds_toArray, List.set_cons_zero, List.set_cons_succ]
  refine takeH (i := 10) (v := ?_) 4 rfl rfl (by kernel_rfl) (by kernel_rfl) (by kernel_rfl) (fun _ _ _ h => h) (by rfl) ?hy10 hS ?rest10
  case hy10 => (intro W hW; clear hW; go_simp; first | done | with_reducible rfl)
  try simp only [Act.put, List.setIfInBounds_toArray, List.set_cons_zero, List.set_cons_succ]
  refine takeH (i := 11) (v := ?_) 5 rfl rfl (by kernel_rfl) (by kernel_rfl) (by kernel_rfl) (fun _ _ _ h => h) (by rfl) ?hy11 hS ?rest11
  case hy11 => (intro W hW; clear hW; go_simp; first | done | with_reducible rfl)
  try simp only [Act.put, List.setIfInBounds_toArray, List.set_cons_zero, List.set_cons_succ]
  refine wpAnyH_done (by kernel_rfl) ?_ _
  obtain ⟨y0, _, _, _, yb⟩ := CF.out _ B2
  have HYB := hid yb
  clear yb CF HC
  cases hput : S.M.put s.data.toList (m : Int) with
  | none =>
    rw [hput] at HR2
    rw [show (none : Option (List UInt8)).isSome = false from rfl]
    go_wp2_with (go_at_call 25; (with_reducible refine (demand_no _ _).mono ?_); rintro e w9 ⟨rfl, rfl⟩)
    exact ⟨rfl, (by unfold TxtPut; rw [hput]; exact ⟨rfl, HYB.out⟩)⟩
  | some l =>
    rw [hput] at HR2
    rw [show (some l : Option (List UInt8)).isSome = true from rfl]
    have hl : l.length = m := put_len hput
    have hn2l := HR2.out.len
    rw [Option.getD_some, S.ints_length] at hn2l
    obtain ⟨bf, of_, rfl, _, hfc⟩ := HR2.out.2.2 (by omega)
    rw [Option.getD_some] at hfc
    have HFC := hid (fun j v (hv : (bcells (S.ints l))[j]? = some v) => (show w2.cell? ((⟨bf, of_, none⟩ : Addr).add j) = some v by
      obtain ⟨z, hz, rfl⟩ := bcells_at' hv
      rw [add_lit']
      exact hfc j z hz))
    have HA2 := hid (HAA.out.below HYB.out hgb)
    have HSP := hid (splice_cells zs (S.ints l) a)
    have e9 : ¬ 512 = a := by omega
    have HLn := hid (show (bcells (S.ints l)).length = Nat.min n2 (512 - a) by rw [bcells_len, S.ints_length]; have : Nat.min n2 (512 - a) = n2 := Nat.min_eq_left (by omega); omega)
    have HFt := hid (show a + (bcells (S.ints l)).length ≤ (bcells zs).toArray.size by rw [bcells_len, S.ints_length, bcells_size]; omega)
    have HPU := hid hput
    clear hput hl hn2l hfc HR2 HAA
    go_wp2_with (first
      | (go_at_call 25; (with_reducible refine (demand_yes _ _).mono ?_); rintro e w9 ⟨rfl, rfl⟩)
      | (refine wpList_copy_own rfl (.tmp 21) (.tmp 22) 22 22 rfl 5 Tryd.underlying22 u8_size gb a (512 - a) (512 - a) ⟨bf, of_, none⟩ n2 c2 (by rfl) (by rfl) (bcells zs).toArray 5 HA2.out (bcells (S.ints l)) HLn.out HFC.out HFt.out (bcells_one _) ?_; rw [HSP.out]))
    go_end0
    all_goals exact (by unfold TxtPut; rw [HPU.out]; exact ⟨rfl, w2, HYB.out, rfl⟩)

theorem putR_len {x : Int} {m : Nat} (h : M.putFits x m = true) : (M.putR x m).length = m := by
  unfold M.putR
  cases ho : M.octFits x m with
  | true =>
    rw [if_pos rfl]
    unfold M.oct
    rw [M.listOf_len]
    rfl
  | false =>
    have hb : M.binFits x m = true := by
      unfold M.putFits at h
      rw [ho] at h
      exact h
    rw [if_neg (by decide), M.binR_yes hb]
    unfold M.bin
    rw [M.listOf_len]
    rfl
/-- May a number be printed? -/
def M.putOk (x : Int) (m : Nat) (lo up : Int) : Bool := M.putFits x m && (decide (lo ≤ x) && decide (x ≤ up))
/-- What printing a number's field does. -/
def NumPut (zs : List Int) (a m : Nat) (there : Bool) (lo up x : Int) (gb : Nat) (w : World) (e : Ending) (w' : World) : Prop :=
  if there = true then
    if M.putOk x m lo up = true then e = .returned (.tuple #[]) ∧ ∃ w1, Below w.heap.size w w1 ∧ w' = laid w1 gb (splice zs a (M.putR x m))
    else e = .panicked (boom 32) ∧ Below w.heap.size w w'
  else if x = 0 then e = .returned (.tuple #[]) ∧ Below w.heap.size w w' else e = .panicked (boom 32) ∧ Below w.heap.size w w'

set_option maxRecDepth 100000 in
set_option maxHeartbeats 1000000 in
theorem number_print (a m : Nat) (there : Bool) (lo up : Int) (g i gb : Nat) (zs : List Int) (x : Int) (w : World) (ham : a + m ≤ 512) (hm : 0 < m) (hx : -9223372036854775808 ≤ x ∧ x ≤ 9223372036854775807) (hz : zs.length = 512)
    (hA : Arr w gb 5 zs) (hcell : w.cell? ⟨g, i, none⟩ = some (.int .i64 x)) :
    Calls Tryd.prog 30 #[nfv a m there lo up ⟨g, i, none⟩, .slice (some ⟨gb, 0, none⟩) 512 512] w (NumPut zs a m there lo up x gb w) := by
  have hg : g < w.heap.size := World.block_lt_of_cell? _ _ hcell
  have hgb := hA.lt
  cases there with
  | false =>
    by_cases h0 : x = 0
    · subst h0
      unfold nfv
      go_enter Tryd.func30, Tryd.ntmps30
      go_wp2_with (go_at_call 25; (with_reducible refine (demand_yes _ _).mono ?_); rintro e w9 ⟨rfl, rfl⟩)
      go_end0
      all_goals exact (by unfold NumPut; rw [if_neg (by decide), if_pos rfl]; exact ⟨rfl, (Below.refl _ _).alloc (Nat.le_refl _) _⟩)
    · have e0 : (x == 0) = false := by simpa using h0
      have HN := hid h0
      clear h0
      unfold nfv
      go_enter Tryd.func30, Tryd.ntmps30
      go_wp2_with (go_at_call 25; (with_reducible refine (demand_no _ _).mono ?_); rintro e w9 ⟨rfl, rfl⟩)
      exact ⟨rfl, (by unfold NumPut; rw [if_neg (by decide), if_neg HN.out]; exact ⟨rfl, (Below.refl _ _).alloc (Nat.le_refl _) _⟩)⟩
  | true =>
    have HC0 := fun (W : World) => put_any x (m : Int) W hx
    have HM := fun W => mayTell_any a m true lo up ⟨g, i, none⟩ x W
    unfold nfv at HM
    have HMM := hid HM
    clear HM
    unfold nfv
    go_enter Tryd.func30, Tryd.ntmps30
    go_wp2_with fail
    generalize hW1 : w.alloc _ = W1
    obtain ⟨hq, hb1, _⟩ := after_alloc hW1
    have CF := hid (fun (W : World) (hW : Below W1.heap.size W1 W) => (show W.cell? ⟨w.heap.size, 0, none⟩ = some (.int .i64 a) ∧ W.cell? ⟨w.heap.size, 1, none⟩ = some (.int .i64 m) ∧ W.cell? ⟨w.heap.size, 2, none⟩ = some (.bool true) ∧ W.cell? ⟨w.heap.size, 3, none⟩ = some (.int .i64 lo) ∧ W.cell? ⟨w.heap.size, 4, none⟩ = some (.int .i64 up) ∧ W.cell? ⟨w.heap.size, 5, none⟩ = some (.pointer (some ⟨g, i, none⟩)) ∧ W.cell? ⟨g, i, none⟩ = some (.int .i64 x) ∧ Below w.heap.size w W by
      have h1 := hb1.trans (hW.mono hb1.size)
      have hlt : w.heap.size < W1.heap.size := (Array.getElem?_eq_some_iff.1 hq).1
      have hq2 : W.heap[w.heap.size]? = _ := (hW.block _ hlt).trans hq
      exact ⟨(cell_of_row _ _ 0 _ _ _ hq2).trans rfl, (cell_of_row _ _ 1 _ _ _ hq2).trans rfl, (cell_of_row _ _ 2 _ _ _ hq2).trans rfl, (cell_of_row _ _ 3 _ _ _ hq2).trans rfl, (cell_of_row _ _ 4 _ _ _ hq2).trans rfl, (cell_of_row _ _ 5 _ _ _ hq2).trans rfl, (h1.cell hg).trans hcell, h1⟩))
    have HC := hid HC0
    have HAA := hid hA
    clear HC0 hq hb1 hW1 hcell hA
    refine wp_region_held_drew (S := fun W => Below W1.heap.size W1 W) (by kernel_rfl) (below_drew' (Below.refl _ _)) (fun hS => ?_)
    refine takeH (i := 0) (v := ?_) 16 rfl rfl (by kernel_rfl) (by kernel_rfl) (by kernel_rfl) (fun _ _ _ h => h) (by rfl) ?hy0 hS ?rest0
    case hy0 => (intro W hW; have f0 := (CF.out W hW).1; have f1 := (CF.out W hW).2.1; have f2 := (CF.out W hW).2.2.1; have f3 := (CF.out W hW).2.2.2.1; have f4 := (CF.out W hW).2.2.2.2.1; have f5 := (CF.out W hW).2.2.2.2.2.1; have f6 := (CF.out W hW).2.2.2.2.2.2.1; clear hW; go_simp; first | done | with_reducible rfl)
    try simp only [Act.put, List.setIfInBounds_toArray, List.set_cons_zero, List.set_cons_succ]
    refine takeH (i := 1) (v := ?_) 17 rfl rfl (by kernel_rfl) (by kernel_rfl) (by kernel_rfl) (fun _ _ _ h => h) (by rfl) ?hy1 hS ?rest1
    case hy1 => (intro W hW; have f0 := (CF.out W hW).1; have f1 := (CF.out W hW).2.1; have f2 := (CF.out W hW).2.2.1; have f3 := (CF.out W hW).2.2.2.1; have f4 := (CF.out W hW).2.2.2.2.1; have f5 := (CF.out W hW).2.2.2.2.2.1; have f6 := (CF.out W hW).2.2.2.2.2.2.1; clear hW; go_simp; first | done | with_reducible rfl)
    try simp only [Act.put, List.setIfInBounds_toArray, List.set_cons_zero, List.set_cons_succ]
    refine takeH (i := 2) (v := ?_) 18 rfl rfl (by kernel_rfl) (by kernel_rfl) (by kernel_rfl) (fun _ _ _ h => h) (by rfl) ?hy2 hS ?rest2
    case hy2 => (intro W hW; have f0 := (CF.out W hW).1; have f1 := (CF.out W hW).2.1; have f2 := (CF.out W hW).2.2.1; have f3 := (CF.out W hW).2.2.2.1; have f4 := (CF.out W hW).2.2.2.2.1; have f5 := (CF.out W hW).2.2.2.2.2.1; have f6 := (CF.out W hW).2.2.2.2.2.2.1; clear hW; go_simp; first | done | with_reducible rfl)
    try simp only [Act.put, List.setIfInBounds_toArray, List.set_cons_zero, List.set_cons_succ]
    refine takeH (i := 3) (v := ?_) 19 rfl rfl (by kernel_rfl) (by kernel_rfl) (by kernel_rfl) (fun _ _ _ h => h) (by rfl) ?hy3 hS ?rest3
    case hy3 => (intro W hW; have f0 := (CF.out W hW).1; have f1 := (CF.out W hW).2.1; have f2 := (CF.out W hW).2.2.1; have f3 := (CF.out W hW).2.2.2.1; have f4 := (CF.out W hW).2.2.2.2.1; have f5 := (CF.out W hW).2.2.2.2.2.1; have f6 := (CF.out W hW).2.2.2.2.2.2.1; clear hW; go_simp; first | done | with_reducible rfl)
    try simp only [Act.put, List.setIfInBounds_toArray, List.set_cons_zero, List.set_cons_succ]
    refine takeH (i := 4) (v := ?_) 20 rfl rfl (by kernel_rfl) (by kernel_rfl) (by kernel_rfl) (fun _ _ _ h => h) (by rfl) ?hy4 hS ?rest4
    case hy4 => (intro W hW; have f0 := (CF.out W hW).1; have f1 := (CF.out W hW).2.1; have f2 := (CF.out W hW).2.2.1; have f3 := (CF.out W hW).2.2.2.1; have f4 := (CF.out W hW).2.2.2.2.1; have f5 := (CF.out W hW).2.2.2.2.2.1; have f6 := (CF.out W hW).2.2.2.2.2.2.1; clear hW; go_simp; first | done | with_reducible rfl)
    try simp only [Act.put, List.setIfInBounds_toArray, List.set_cons_zero, List.set_cons_succ]
    refine takeH (i := 5) (v := ?_) 21 rfl rfl (by kernel_rfl) (by kernel_rfl) (by kernel_rfl) (fun _ _ _ h => h) (by rfl) ?hy5 hS ?rest5
    case hy5 => (intro W hW; have f0 := (CF.out W hW).1; have f1 := (CF.out W hW).2.1; have f2 := (CF.out W hW).2.2.1; have f3 := (CF.out W hW).2.2.2.1; have f4 := (CF.out W hW).2.2.2.2.1; have f5 := (CF.out W hW).2.2.2.2.2.1; have f6 := (CF.out W hW).2.2.2.2.2.2.1; clear hW; go_simp; first | done | with_reducible rfl)
    try simp only [Act.put, List.setIfInBounds_toArray, List.set_cons_zero, List.set_cons_succ]
    refine loneH (i := 6) 22 rfl rfl (by kernel_rfl) (by rfl) (fun K hK => ?_)
    go_simp
    (with_reducible refine (HC.out _).mono ?_)
    rintro e w2 ⟨A2, N2, rfl, hr2, b2⟩
    have B2 := hS.trans (b2.mono hS.size)
    have HR2 := hid hr2
    clear hS b2 hr2
    refine hK.out _ _ B2 (fun hS => ?_)
    clear hK K
    try simp only [Act.put, List.setIfInBounds_toArray, List.set_cons_zero, List.set_cons_succ]
    refine takeH (i := 7) (v := ?_) 15 rfl rfl (by kernel_rfl) (by kernel_rfl) (by kernel_rfl) (fun _ _ _ h => h) (by rfl) ?hy7 hS ?rest7
    case hy7 => (intro W hW; clear hW; go_simp; first | done | with_reducible rfl)
    try simp only [Act.put, List.setIfInBounds_toArray, List.set_cons_zero, List.set_cons_succ]
    refine takeH (i := 8) (v := ?_) 23 rfl rfl (by kernel_rfl) (by kernel_rfl) (by kernel_rfl) (fun _ _ _ h => h) (by rfl) ?hy8 hS ?rest8
    case hy8 => (intro W hW; clear hW; go_simp; first | done | with_reducible rfl)
    try simp only [Act.put, List.setIfInBounds_toArray, List.set_cons_zero, List.set_cons_succ]
    refine takeH (i := 9) (v := ?_) 24 rfl rfl (by kernel_rfl) (by kernel_rfl) (by kernel_rfl) (fun _ _ _ h => h) (by rfl) ?hy9 hS ?rest9
    case hy9 => (intro W hW; clear hW; go_simp; first | done | with_reducible rfl)
    try simp only [Act.put, List.setIfInBounds_toArray, List.set_cons_zero, List.set_cons_succ]
    refine takeH (i := 10) (v := ?_) 4 rfl rfl (by kernel_rfl) (by kernel_rfl) (by kernel_rfl) (fun _ _ _ h => h) (by rfl) ?hy10 hS ?rest10
    case hy10 => (intro W hW; clear hW; go_simp; first | done | with_reducible rfl)
    try simp only [Act.put, List.setIfInBounds_toArray, List.set_cons_zero, List.set_cons_succ]
    refine takeH (i := 11) (v := ?_) 5 rfl rfl (by kernel_rfl) (by kernel_rfl) (by kernel_rfl) (fun _ _ _ h => h) (by rfl) ?hy11 hS ?rest11
    case hy11 => (intro W hW; clear hW; go_simp; first | done | with_reducible rfl)
    try simp only [Act.put, List.setIfInBounds_toArray, List.set_cons_zero, List.set_cons_succ]
    refine wpAnyH_done (by kernel_rfl) ?_ _
    have HSZ := hid (show W1.heap.size ≤ w2.heap.size from B2.size)
    have HB2 := hid B2
    clear hS
    cases hfit : M.putFits x (m : Int) with
    | false =>
      have HPO := hid (show M.putOk x m lo up = false by unfold M.putOk; rw [hfit]; rfl)
      clear HR2 hfit
      go_wp2_with fail
      refine wp_region_held_drew (S := fun W => Below W1.heap.size W1 W) (by kernel_rfl) (below_drew' HB2.out) (fun hS => ?_)
      refine takeH (i := 0) (v := ?_) 25 rfl rfl (by kernel_rfl) (by kernel_rfl) (by kernel_rfl) (fun _ _ _ h => h) (by rfl) ?hy0f hS ?rest0f
      case hy0f => (intro W hW; clear hW; go_simp; first | done | with_reducible rfl)
      try simp only [Act.put, List.setIfInBounds_toArray, List.set_cons_zero, List.set_cons_succ]
      refine takeH (i := 1) (v := ?_) 26 rfl rfl (by kernel_rfl) (by kernel_rfl) (by kernel_rfl) (fun _ _ _ h => h) (by rfl) ?hy1f hS ?rest1f
      case hy1f => (intro W hW; clear hW; go_simp; first | done | with_reducible rfl)
      try simp only [Act.put, List.setIfInBounds_toArray, List.set_cons_zero, List.set_cons_succ]
      refine skipH (i := 2) 27 rfl rfl (by kernel_rfl) (by kernel_rfl) (by kernel_rfl) (fun _ _ _ h => h) (by rfl) hS ?_
      try simp only [Act.put, List.setIfInBounds_toArray, List.set_cons_zero, List.set_cons_succ]
      refine skipH (i := 3) 28 rfl rfl (by kernel_rfl) (by kernel_rfl) (by kernel_rfl) (fun _ _ _ h => h) (by rfl) hS ?_
      try simp only [Act.put, List.setIfInBounds_toArray, List.set_cons_zero, List.set_cons_succ]
      refine skipH (i := 4) 29 rfl rfl (by kernel_rfl) (by kernel_rfl) (by kernel_rfl) (fun _ _ _ h => h) (by rfl) hS ?_
      try simp only [Act.put, List.setIfInBounds_toArray, List.set_cons_zero, List.set_cons_succ]
      refine skipH (i := 5) 30 rfl rfl (by kernel_rfl) (by kernel_rfl) (by kernel_rfl) (fun _ _ _ h => h) (by rfl) hS ?_
      try simp only [Act.put, List.setIfInBounds_toArray, List.set_cons_zero, List.set_cons_succ]
      refine skipH (i := 6) 31 rfl rfl (by kernel_rfl) (by kernel_rfl) (by kernel_rfl) (fun _ _ _ h => h) (by rfl) hS ?_
      try simp only [Act.put, List.setIfInBounds_toArray, List.set_cons_zero, List.set_cons_succ]
      refine skipH (i := 7) 32 rfl rfl (by kernel_rfl) (by kernel_rfl) (by kernel_rfl) (fun _ _ _ h => h) (by rfl) hS ?_
      try simp only [Act.put, List.setIfInBounds_toArray, List.set_cons_zero, List.set_cons_succ]
      refine takeH (i := 8) (v := ?_) 33 rfl rfl (by kernel_rfl) (by kernel_rfl) (by kernel_rfl) (fun _ _ _ h => h) (by rfl) ?hy8f hS ?rest8f
      case hy8f => (intro W hW; clear hW; go_simp; first | done | with_reducible rfl)
      try simp only [Act.put, List.setIfInBounds_toArray, List.set_cons_zero, List.set_cons_succ]
      refine loneH (i := 9) 34 rfl rfl (by kernel_rfl) (by rfl) (fun K hK => ?_)
      go_simp
      (with_reducible refine (demand_no _ _).mono ?_)
      rintro e w9 ⟨rfl, rfl⟩
      exact ⟨rfl, (by unfold NumPut; rw [if_pos rfl, if_neg (by rw [HPO.out]; decide)]; exact ⟨rfl, below_drew' (CF.out _ HB2.out).2.2.2.2.2.2.2⟩)⟩
    | true =>
      cases hlu : (decide (lo ≤ x) && decide (x ≤ up)) with
      | false =>
        rw [hlu] at HMM
        have HPO := hid (show M.putOk x m lo up = false by unfold M.putOk; rw [hfit, hlu]; rfl)
        clear HR2 hfit hlu
        go_wp2_with fail
        refine wp_region_held_drew (S := fun W => Below W1.heap.size W1 W) (by kernel_rfl) (below_drew' HB2.out) (fun hS => ?_)
        refine takeH (i := 0) (v := ?_) 25 rfl rfl (by kernel_rfl) (by kernel_rfl) (by kernel_rfl) (fun _ _ _ h => h) (by rfl) ?hy0n hS ?rest0n
        case hy0n => (intro W hW; clear hW; go_simp; first | done | with_reducible rfl)
        try simp only [Act.put, List.setIfInBounds_toArray, List.set_cons_zero, List.set_cons_succ]
        refine takeH (i := 1) (v := ?_) 26 rfl rfl (by kernel_rfl) (by kernel_rfl) (by kernel_rfl) (fun _ _ _ h => h) (by rfl) ?hy1n hS ?rest1n
        case hy1n => (intro W hW; clear hW; go_simp; first | done | with_reducible rfl)
        try simp only [Act.put, List.setIfInBounds_toArray, List.set_cons_zero, List.set_cons_succ]
        refine takeH (i := 2) (v := ?_) 27 rfl rfl (by kernel_rfl) (by kernel_rfl) (by kernel_rfl) (fun _ _ _ h => h) (by rfl) ?hy2n hS ?rest2n
        case hy2n => (intro W hW; have f0 := (CF.out W hW).1; have f1 := (CF.out W hW).2.1; have f2 := (CF.out W hW).2.2.1; have f3 := (CF.out W hW).2.2.2.1; have f4 := (CF.out W hW).2.2.2.2.1; have f5 := (CF.out W hW).2.2.2.2.2.1; have f6 := (CF.out W hW).2.2.2.2.2.2.1; clear hW; go_simp; first | done | with_reducible rfl)
        try simp only [Act.put, List.setIfInBounds_toArray, List.set_cons_zero, List.set_cons_succ]
        refine takeH (i := 3) (v := ?_) 28 rfl rfl (by kernel_rfl) (by kernel_rfl) (by kernel_rfl) (fun _ _ _ h => h) (by rfl) ?hy3n hS ?rest3n
        case hy3n => (intro W hW; have f0 := (CF.out W hW).1; have f1 := (CF.out W hW).2.1; have f2 := (CF.out W hW).2.2.1; have f3 := (CF.out W hW).2.2.2.1; have f4 := (CF.out W hW).2.2.2.2.1; have f5 := (CF.out W hW).2.2.2.2.2.1; have f6 := (CF.out W hW).2.2.2.2.2.2.1; clear hW; go_simp; first | done | with_reducible rfl)
        try simp only [Act.put, List.setIfInBounds_toArray, List.set_cons_zero, List.set_cons_succ]
        refine takeH (i := 4) (v := ?_) 29 rfl rfl (by kernel_rfl) (by kernel_rfl) (by kernel_rfl) (fun _ _ _ h => h) (by rfl) ?hy4n hS ?rest4n
        case hy4n => (intro W hW; have f0 := (CF.out W hW).1; have f1 := (CF.out W hW).2.1; have f2 := (CF.out W hW).2.2.1; have f3 := (CF.out W hW).2.2.2.1; have f4 := (CF.out W hW).2.2.2.2.1; have f5 := (CF.out W hW).2.2.2.2.2.1; have f6 := (CF.out W hW).2.2.2.2.2.2.1; clear hW; go_simp; first | done | with_reducible rfl)
        try simp only [Act.put, List.setIfInBounds_toArray, List.set_cons_zero, List.set_cons_succ]
        refine takeH (i := 5) (v := ?_) 30 rfl rfl (by kernel_rfl) (by kernel_rfl) (by kernel_rfl) (fun _ _ _ h => h) (by rfl) ?hy5n hS ?rest5n
        case hy5n => (intro W hW; have f0 := (CF.out W hW).1; have f1 := (CF.out W hW).2.1; have f2 := (CF.out W hW).2.2.1; have f3 := (CF.out W hW).2.2.2.1; have f4 := (CF.out W hW).2.2.2.2.1; have f5 := (CF.out W hW).2.2.2.2.2.1; have f6 := (CF.out W hW).2.2.2.2.2.2.1; clear hW; go_simp; first | done | with_reducible rfl)
        try simp only [Act.put, List.setIfInBounds_toArray, List.set_cons_zero, List.set_cons_succ]
        refine takeH (i := 6) (v := ?_) 31 rfl rfl (by kernel_rfl) (by kernel_rfl) (by kernel_rfl) (fun _ _ _ h => h) (by rfl) ?hy6n hS ?rest6n
        case hy6n => (intro W hW; have f0 := (CF.out W hW).1; have f1 := (CF.out W hW).2.1; have f2 := (CF.out W hW).2.2.1; have f3 := (CF.out W hW).2.2.2.1; have f4 := (CF.out W hW).2.2.2.2.1; have f5 := (CF.out W hW).2.2.2.2.2.1; have f6 := (CF.out W hW).2.2.2.2.2.2.1; clear hW; go_simp; first | done | with_reducible rfl)
        try simp only [Act.put, List.setIfInBounds_toArray, List.set_cons_zero, List.set_cons_succ]
        refine loneH (i := 7) 32 rfl rfl (by kernel_rfl) (by rfl) (fun K hK => ?_)
        go_simp
        (with_reducible refine (HMM.out _).mono ?_)
        rintro e w5 ⟨rfl, b5⟩
        have B5R := hid (show Below w2.heap.size w2 w5 from (below_drew' (Below.refl _ w2)).trans (b5.mono (Nat.le_refl _)))
        have B5 := HB2.out.trans (B5R.out.mono HSZ.out)
        clear hS b5
        refine hK.out _ _ B5 (fun hS => ?_)
        clear hK K
        try simp only [Act.put, List.setIfInBounds_toArray, List.set_cons_zero, List.set_cons_succ]
        refine takeH (i := 8) (v := ?_) 33 rfl rfl (by kernel_rfl) (by kernel_rfl) (by kernel_rfl) (fun _ _ _ h => h) (by rfl) ?hy8n hS ?rest8n
        case hy8n => (intro W hW; clear hW; go_simp; first | done | with_reducible rfl)
        try simp only [Act.put, List.setIfInBounds_toArray, List.set_cons_zero, List.set_cons_succ]
        refine loneH (i := 9) 34 rfl rfl (by kernel_rfl) (by rfl) (fun K hK => ?_)
        go_simp
        (with_reducible refine (demand_no _ _).mono ?_)
        rintro e w9 ⟨rfl, rfl⟩
        exact ⟨rfl, (by unfold NumPut; rw [if_pos rfl, if_neg (by rw [HPO.out]; decide)]; exact ⟨rfl, (CF.out _ B5).2.2.2.2.2.2.2⟩)⟩
      | true =>
        rw [hlu] at HMM
        have HPO := hid (show M.putOk x m lo up = true by unfold M.putOk; rw [hfit, hlu]; rfl)
        have hl : (M.putR x m).length = m := putR_len hfit
        have HRR := HR2
        clear HR2 hfit hlu
        go_wp2_with fail
        refine wp_region_held_drew (S := fun W => Below W1.heap.size W1 W) (by kernel_rfl) (below_drew' HB2.out) (fun hS => ?_)
        refine takeH (i := 0) (v := ?_) 25 rfl rfl (by kernel_rfl) (by kernel_rfl) (by kernel_rfl) (fun _ _ _ h => h) (by rfl) ?hy0y hS ?rest0y
        case hy0y => (intro W hW; clear hW; go_simp; first | done | with_reducible rfl)
        try simp only [Act.put, List.setIfInBounds_toArray, List.set_cons_zero, List.set_cons_succ]
        refine takeH (i := 1) (v := ?_) 26 rfl rfl (by kernel_rfl) (by kernel_rfl) (by kernel_rfl) (fun _ _ _ h => h) (by rfl) ?hy1y hS ?rest1y
        case hy1y => (intro W hW; clear hW; go_simp; first | done | with_reducible rfl)
        try simp only [Act.put, List.setIfInBounds_toArray, List.set_cons_zero, List.set_cons_succ]
        refine takeH (i := 2) (v := ?_) 27 rfl rfl (by kernel_rfl) (by kernel_rfl) (by kernel_rfl) (fun _ _ _ h => h) (by rfl) ?hy2y hS ?rest2y
        case hy2y => (intro W hW; have f0 := (CF.out W hW).1; have f1 := (CF.out W hW).2.1; have f2 := (CF.out W hW).2.2.1; have f3 := (CF.out W hW).2.2.2.1; have f4 := (CF.out W hW).2.2.2.2.1; have f5 := (CF.out W hW).2.2.2.2.2.1; have f6 := (CF.out W hW).2.2.2.2.2.2.1; clear hW; go_simp; first | done | with_reducible rfl)
        try simp only [Act.put, List.setIfInBounds_toArray, List.set_cons_zero, List.set_cons_succ]
        refine takeH (i := 3) (v := ?_) 28 rfl rfl (by kernel_rfl) (by kernel_rfl) (by kernel_rfl) (fun _ _ _ h => h) (by rfl) ?hy3y hS ?rest3y
        case hy3y => (intro W hW; have f0 := (CF.out W hW).1; have f1 := (CF.out W hW).2.1; have f2 := (CF.out W hW).2.2.1; have f3 := (CF.out W hW).2.2.2.1; have f4 := (CF.out W hW).2.2.2.2.1; have f5 := (CF.out W hW).2.2.2.2.2.1; have f6 := (CF.out W hW).2.2.2.2.2.2.1; clear hW; go_simp; first | done | with_reducible rfl)
        try simp only [Act.put, List.setIfInBounds_toArray, List.set_cons_zero, List.set_cons_succ]
        refine takeH (i := 4) (v := ?_) 29 rfl rfl (by kernel_rfl) (by kernel_rfl) (by kernel_rfl) (fun _ _ _ h => h) (by rfl) ?hy4y hS ?rest4y
        case hy4y => (intro W hW; have f0 := (CF.out W hW).1; have f1 := (CF.out W hW).2.1; have f2 := (CF.out W hW).2.2.1; have f3 := (CF.out W hW).2.2.2.1; have f4 := (CF.out W hW).2.2.2.2.1; have f5 := (CF.out W hW).2.2.2.2.2.1; have f6 := (CF.out W hW).2.2.2.2.2.2.1; clear hW; go_simp; first | done | with_reducible rfl)
        try simp only [Act.put, List.setIfInBounds_toArray, List.set_cons_zero, List.set_cons_succ]
        refine takeH (i := 5) (v := ?_) 30 rfl rfl (by kernel_rfl) (by kernel_rfl) (by kernel_rfl) (fun _ _ _ h => h) (by rfl) ?hy5y hS ?rest5y
        case hy5y => (intro W hW; have f0 := (CF.out W hW).1; have f1 := (CF.out W hW).2.1; have f2 := (CF.out W hW).2.2.1; have f3 := (CF.out W hW).2.2.2.1; have f4 := (CF.out W hW).2.2.2.2.1; have f5 := (CF.out W hW).2.2.2.2.2.1; have f6 := (CF.out W hW).2.2.2.2.2.2.1; clear hW; go_simp; first | done | with_reducible rfl)
        try simp only [Act.put, List.setIfInBounds_toArray, List.set_cons_zero, List.set_cons_succ]
        refine takeH (i := 6) (v := ?_) 31 rfl rfl (by kernel_rfl) (by kernel_rfl) (by kernel_rfl) (fun _ _ _ h => h) (by rfl) ?hy6y hS ?rest6y
        case hy6y => (intro W hW; have f0 := (CF.out W hW).1; have f1 := (CF.out W hW).2.1; have f2 := (CF.out W hW).2.2.1; have f3 := (CF.out W hW).2.2.2.1; have f4 := (CF.out W hW).2.2.2.2.1; have f5 := (CF.out W hW).2.2.2.2.2.1; have f6 := (CF.out W hW).2.2.2.2.2.2.1; clear hW; go_simp; first | done | with_reducible rfl)
        try simp only [Act.put, List.setIfInBounds_toArray, List.set_cons_zero, List.set_cons_succ]
        refine loneH (i := 7) 32 rfl rfl (by kernel_rfl) (by rfl) (fun K hK => ?_)
        go_simp
        (with_reducible refine (HMM.out _).mono ?_)
        rintro e w5 ⟨rfl, b5⟩
        have B5R := hid (show Below w2.heap.size w2 w5 from (below_drew' (Below.refl _ w2)).trans (b5.mono (Nat.le_refl _)))
        have B5 := HB2.out.trans (B5R.out.mono HSZ.out)
        clear hS b5
        refine hK.out _ _ B5 (fun hS => ?_)
        clear hK K
        try simp only [Act.put, List.setIfInBounds_toArray, List.set_cons_zero, List.set_cons_succ]
        refine takeH (i := 8) (v := ?_) 33 rfl rfl (by kernel_rfl) (by kernel_rfl) (by kernel_rfl) (fun _ _ _ h => h) (by rfl) ?hy8y hS ?rest8y
        case hy8y => (intro W hW; clear hW; go_simp; first | done | with_reducible rfl)
        try simp only [Act.put, List.setIfInBounds_toArray, List.set_cons_zero, List.set_cons_succ]
        refine loneH (i := 9) 34 rfl rfl (by kernel_rfl) (by rfl) (fun K hK => ?_)
        go_simp
        (with_reducible refine (demand_yes _ _).mono ?_)
        rintro e w9 ⟨rfl, rfl⟩
        refine hK.out _ _ B5 (fun hS => ?_)
        clear hK K
        try simp only [Act.put, List.setIfInBounds_toArray, List.set_cons_zero, List.set_cons_succ]
        refine wpAnyH_done (by kernel_rfl) ?_ _
        obtain ⟨y0, _, _, _, _, _, _, yb⟩ := CF.out _ B5
        have HYB := hid yb
        have hn2l := HRR.out.len
        have HR3 := HRR.out.keep (w' := w5) fun p hp => B5R.out.cell hp
        obtain ⟨bf, of_, rfl, _, hfc⟩ := HR3.2.2 (by omega)
        have HFC := hid (fun j v (hv : (bcells (M.putR x m))[j]? = some v) => (show w5.cell? ((⟨bf, of_, none⟩ : Addr).add j) = some v by
          obtain ⟨z, hz, rfl⟩ := bcells_at' hv
          rw [add_lit']
          exact hfc j z hz))
        have HA2 := hid (HAA.out.below HYB.out hgb)
        have HSP := hid (splice_cells zs (M.putR x m) a)
        have e9 : ¬ 512 = a := by omega
        have HLn := hid (show (bcells (M.putR x m)).length = Nat.min N2 (512 - a) by rw [bcells_len]; have : Nat.min N2 (512 - a) = N2 := Nat.min_eq_left (by omega); omega)
        have HFt := hid (show a + (bcells (M.putR x m)).length ≤ (bcells zs).toArray.size by rw [bcells_len, bcells_size]; omega)
        clear hl hn2l hfc HRR HAA yb HR3 CF HMM HC
        go_wp2_with (refine wpList_copy_own rfl (.tmp 38) (.tmp 39) 22 22 rfl 5 Tryd.underlying22 u8_size gb a (512 - a) (512 - a) ⟨bf, of_, none⟩ N2 N2 (by rfl) (by rfl) (bcells zs).toArray 5 HA2.out (bcells (M.putR x m)) HLn.out HFC.out HFt.out (bcells_one _) ?_; rw [HSP.out])
        go_end0
        all_goals exact (by unfold NumPut; rw [if_pos rfl, if_pos HPO.out]; exact ⟨rfl, w5, HYB.out, rfl⟩)
end Go.Proofs.YtbjejgnfnpednaaDoor
