/-
  Does a header agree with records: the document's answer.
-/
import Derived.Test.YtcedcfagfklohaaTieA
import Derived.Test.YtcedcfagfklohaaMtQuiet
set_option linter.unusedVariables false
set_option linter.unusedSimpArgs false
namespace Go.Proofs.Ytcedcfagfklohaa
open Go.RowKit Go.Lib
open Px (R2 tl below_drew')

theorem extract_min' (s : ByteArray) (n : Nat) : s.extract 0 (min s.size n) = s.extract 0 n := by
  have h : tl (s.extract 0 (min s.size n)) = tl (s.extract 0 n) := by
    rw [tl_take, tl_take]
    exact take_min_len (tl s) n
  exact Px.tl_inj h
theorem front_any (s : ByteArray) (w : World) : Calls Try.prog 18 #[.string s] w fun e w' => e = .returned (.string (s.extract 0 100)) ∧ w = w' := by
  go_enter Try.func18, Try.ntmps18
  go_wp2_with fail
  go_ret
  have e2 : ((min (s.size : Int) 100).toNat) = min s.size 100 := by omega
  refine ⟨?_, rfl⟩
  show Ending.returned (.string (s.extract 0 (min (s.size : Int) 100).toNat)) = _
  rw [e2, extract_min']

set_option maxRecDepth 100000 in
set_option maxHeartbeats 4000000 in
theorem refAgrees_any (h : Hd.M.Hdr) (Ap : Option Addr) (np cp : Nat) (A0 : Option Addr) (c0 : Nat) (l : List R2) (w : World) (hr : Px.RdR w w.heap.size A0 l) (hl : l.length ≤ 400000) :
    Calls Try.prog 9 #[.agg (Hd.hcells h (.slice Ap np cp)), .slice A0 l.length c0] w fun e w' => e = .returned (.bool (M.agr (tl h.pre) (tl h.name) (tl h.link) (Px.rcs l))) ∧ Below w.heap.size w w' := by
  have H1 := hid (Hd.HB.new w h (.slice Ap np cp))
  have hb1 : Below w.heap.size w (w.alloc (.cells (Hd.hcells h (.slice Ap np cp)) 28)) := (Below.refl _ w).alloc (Nat.le_refl _) _
  have HW := hid hb1
  have hsz := World.size_alloc w (.cells (Hd.hcells h (.slice Ap np cp)) 28)
  have HR := hid (fun V (hV : Below w.heap.size w V) => (hr.below hV).more hV.size)
  clear hb1 hr
  go_enter Try.func9, Try.ntmps9
  go_upto_region 1 with fail
  generalize World.alloc w _ = W at *
  go_wp2_with fail
  refine (Px.refMerge_any A0 c0 l none 0 [] hl (by simp) W (HR.out W HW.out) Px.RdR.none_).mono ?_
  rintro e w1 ⟨A, c, rs, rfl, hr1, hc1, hc2, hrs, hlen, hb1⟩
  have HW1 := hid (HW.out.trans (hb1.mono HW.out.size))
  have H2 := hid (H1.out.below hb1 (by omega))
  have RS := hid hrs
  have R1 := hid hr1
  have hw1s : w.heap.size + 1 ≤ w1.heap.size := by rw [← hsz]; exact hb1.size
  have hlr : rs.length ≤ 1000000 := Nat.le_trans hlen (by simp; omega)
  clear HW H1 hrs hr1 hb1 hc1 hlen HR hsz
  go_wp2_with fail
  refine (Px.refFind_any A c rs ⟨#[112, 97, 116, 104]⟩ hlr w1 R1.out).mono ?_
  rintro e w2 ⟨t1, b1, rfl, ht1, hb1, hw2⟩
  have T1 := hid ht1
  have E1 := hid hb1
  have R2 := hid ((R1.out.below hw2).more hw2.size)
  have HW2 := hid (HW1.out.trans (hw2.mono (Nat.le_trans (Nat.le_succ _) hw1s)))
  have H3 := hid (H2.out.below hw2 hw1s)
  have hw2s : w.heap.size + 1 ≤ w2.heap.size := Nat.le_trans hw1s hw2.size
  clear ht1 hb1 hw2 R1 HW1 H2 hw1s
  go_wp2_with fail
  refine (Px.refFind_any A c rs ⟨#[108, 105, 110, 107, 112, 97, 116, 104]⟩ hlr w2 R2.out).mono ?_
  rintro e w3 ⟨t2, b2, rfl, ht1, hb1, hw3⟩
  have T2 := hid ht1
  have E2 := hid hb1
  have HW3 := hid (HW2.out.trans (hw3.mono (Nat.le_trans (Nat.le_succ _) hw2s)))
  have H4 := hid (H3.out.below hw3 hw2s)
  have hw3s : w.heap.size + 1 ≤ w3.heap.size := Nat.le_trans hw2s hw3.size
  clear ht1 hb1 hw3 R2 HW2 H3 hw2s
  go_upto_region 4 with fail
  have HDC := hid (fun (V : World) (hV : Below w3.heap.size w3 V) => H4.out.below hV hw3s)
  have HF := hid front_any
  clear H4
  obtain ⟨v26, hv26⟩ : ∃ g : Bool, g = (!(h.pre.toList == [])) := ⟨_, rfl⟩
  have V26 := hid hv26
  clear hv26
  obtain ⟨v32, hv32⟩ : ∃ g : Bool, g = (!(h.name.toList == (t1.extract 0 100).toList)) := ⟨_, rfl⟩
  have V32 := hid hv32
  clear hv32
  obtain ⟨v33, hv33⟩ : ∃ g : Bool, g = (v26 || v32) := ⟨_, rfl⟩
  have V33 := hid hv33
  clear hv33
  obtain ⟨v34, hv34⟩ : ∃ g : Bool, g = (b1 && v33) := ⟨_, rfl⟩
  have V34 := hid hv34
  clear hv34
  obtain ⟨v42, hv42⟩ : ∃ g : Bool, g = (!(h.link.toList == (t2.extract 0 100).toList)) := ⟨_, rfl⟩
  have V42 := hid hv42
  clear hv42
  obtain ⟨v43, hv43⟩ : ∃ g : Bool, g = (b2 && v42) := ⟨_, rfl⟩
  have V43 := hid hv43
  clear hv43
  obtain ⟨v44, hv44⟩ : ∃ g : Bool, g = (v34 || v43) := ⟨_, rfl⟩
  have V44 := hid hv44
  clear hv44
  have HV := hid (show v44 = (b1 && (!(h.pre.toList == []) || !(h.name.toList == (t1.extract 0 100).toList)) || b2 && !(h.link.toList == (t2.extract 0 100).toList)) by rw [V44.out, V43.out, V42.out, V34.out, V33.out, V32.out, V26.out])
  refine wp_region_class (fun V => Below w3.heap.size w3 V) (by kernel_rfl) (by kernel_rfl) (below_drew' (Below.refl _ _)) ?_
  refine quiet_yes 22 (v := ?_) rfl (by kernel_rfl) ?hy22 ?rest22
  case hy22 => (intro W hW; clear hW; go_simp; first | done | with_reducible rfl)
  try simp only [Act.put, List.setIfInBounds_toArray, List.set_cons_zero, List.set_cons_succ]
  refine quiet_yes 23 (v := ?_) rfl (by kernel_rfl) ?hy23 ?rest23
  case hy23 => (intro W hW; clear hW; go_simp; first | done | with_reducible rfl)
  try simp only [Act.put, List.setIfInBounds_toArray, List.set_cons_zero, List.set_cons_succ]
  refine quiet_if 24 b1 (v := ?_) rfl (by cases b1 <;> kernel_rfl) ?hy24 ?rest24
  case hy24 => (intro hg W hW; obtain rfl : b1 = true := (by exact hg); clear hW; (try simp only [cond_true]); go_simp; first | done | with_reducible rfl)
  try simp only [Act.put, List.setIfInBounds_toArray, List.set_cons_zero, List.set_cons_succ]
  refine quiet_if 25 b1 (v := ?_) rfl (by cases b1 <;> kernel_rfl) ?hy25 ?rest25
  case hy25 => (intro hg W hW; obtain rfl : b1 = true := (by exact hg); have c13 := (HDC.out W hW).cell (i := 13) (v := .string h.pre) rfl; clear hW; (try simp only [cond_true]); go_simp; first | done | with_reducible rfl)
  try simp only [Act.put, List.setIfInBounds_toArray, List.set_cons_zero, List.set_cons_succ]
  refine quiet_if 26 b1 (v := .bool v26) rfl (by cases b1 <;> kernel_rfl) ?hy26 ?rest26
  case hy26 => (intro hg W hW; obtain rfl : b1 = true := (by exact hg); clear hW; (try simp only [cond_true]); rw [V26.out]; (go_simp; first | done | with_reducible rfl))
  try simp only [Act.put, List.setIfInBounds_toArray, List.set_cons_zero, List.set_cons_succ]
  refine quiet_if 27 b1 (v := ?_) rfl (by cases b1 <;> kernel_rfl) ?hy27 ?rest27
  case hy27 => (intro hg W hW; obtain rfl : b1 = true := (by exact hg); clear hW; (try simp only [cond_true]); go_simp; first | done | with_reducible rfl)
  try simp only [Act.put, List.setIfInBounds_toArray, List.set_cons_zero, List.set_cons_succ]
  refine quiet_if 28 (b1 && !v26) (v := ?_) rfl (by cases b1 <;> cases v26 <;> kernel_rfl) ?hy28 ?rest28
  case hy28 => (intro hg W hW; obtain ⟨rfl, rfl⟩ : b1 = true ∧ v26 = false := (by revert hg; cases b1 <;> cases v26 <;> simp); clear hW; (try simp only [cond_true]); go_simp; first | done | with_reducible rfl)
  try simp only [Act.put, List.setIfInBounds_toArray, List.set_cons_zero, List.set_cons_succ]
  refine quiet_if 29 (b1 && !v26) (v := ?_) rfl (by cases b1 <;> cases v26 <;> kernel_rfl) ?hy29 ?rest29
  case hy29 => (intro hg W hW; obtain ⟨rfl, rfl⟩ : b1 = true ∧ v26 = false := (by revert hg; cases b1 <;> cases v26 <;> simp); have c0 := (HDC.out W hW).cell (i := 0) (v := .string h.name) rfl; clear hW; (try simp only [cond_true]); go_simp; first | done | with_reducible rfl)
  try simp only [Act.put, List.setIfInBounds_toArray, List.set_cons_zero, List.set_cons_succ]
  refine quiet_if 30 (b1 && !v26) (v := ?_) rfl (by cases b1 <;> cases v26 <;> kernel_rfl) ?hy30 ?rest30
  case hy30 => (intro hg W hW; obtain ⟨rfl, rfl⟩ : b1 = true ∧ v26 = false := (by revert hg; cases b1 <;> cases v26 <;> simp); clear hW; (try simp only [cond_true]); go_simp; first | done | with_reducible rfl)
  try simp only [Act.put, List.setIfInBounds_toArray, List.set_cons_zero, List.set_cons_succ]
  refine quiet_if 31 (b1 && !v26) (v := .string (t1.extract 0 100)) rfl (by cases b1 <;> cases v26 <;> kernel_rfl) ?hy31 ?rest31
  case hy31 => (intro hg W hW; obtain ⟨rfl, rfl⟩ : b1 = true ∧ v26 = false := (by revert hg; cases b1 <;> cases v26 <;> simp); (try simp only [cond_true]); (go_simp; go_at_call 18; (with_reducible refine (HF.out _ W).mono ?_); rintro e w' ⟨rfl, rfl⟩; exact ⟨rfl, hW⟩))
  try simp only [Act.put, List.setIfInBounds_toArray, List.set_cons_zero, List.set_cons_succ]
  refine quiet_if 32 (b1 && !v26) (v := .bool v32) rfl (by cases b1 <;> cases v26 <;> kernel_rfl) ?hy32 ?rest32
  case hy32 => (intro hg W hW; obtain ⟨rfl, rfl⟩ : b1 = true ∧ v26 = false := (by revert hg; cases b1 <;> cases v26 <;> simp); clear hW; (try simp only [cond_true]); rw [V32.out]; (go_simp; first | done | with_reducible rfl))
  try simp only [Act.put, List.setIfInBounds_toArray, List.set_cons_zero, List.set_cons_succ]
  refine quiet_if 33 b1 (v := .bool v33) rfl (by cases b1 <;> kernel_rfl) ?hy33 ?rest33
  case hy33 => (intro hg W hW; obtain rfl : b1 = true := (by exact hg); clear hW; (try simp only [cond_true]); rw [V33.out]; cases v26 <;> (go_simp; first | done | with_reducible rfl))
  try simp only [Act.put, List.setIfInBounds_toArray, List.set_cons_zero, List.set_cons_succ]
  refine quiet_yes 34 (v := .bool v34) rfl (by kernel_rfl) ?hy34 ?rest34
  case hy34 => (intro W hW; clear hW; rw [V34.out]; cases b1 <;> (go_simp; first | done | with_reducible rfl))
  try simp only [Act.put, List.setIfInBounds_toArray, List.set_cons_zero, List.set_cons_succ]
  refine quiet_yes 35 (v := ?_) rfl (by kernel_rfl) ?hy35 ?rest35
  case hy35 => (intro W hW; clear hW; go_simp; first | done | with_reducible rfl)
  try simp only [Act.put, List.setIfInBounds_toArray, List.set_cons_zero, List.set_cons_succ]
  refine quiet_if 36 (!v34) (v := ?_) rfl (by cases v34 <;> kernel_rfl) ?hy36 ?rest36
  case hy36 => (intro hg W hW; obtain rfl : v34 = false := (by simpa using hg); clear hW; (try simp only [cond_true]); go_simp; first | done | with_reducible rfl)
  try simp only [Act.put, List.setIfInBounds_toArray, List.set_cons_zero, List.set_cons_succ]
  refine quiet_if 37 (!v34) (v := ?_) rfl (by cases v34 <;> kernel_rfl) ?hy37 ?rest37
  case hy37 => (intro hg W hW; obtain rfl : v34 = false := (by simpa using hg); clear hW; (try simp only [cond_true]); go_simp; first | done | with_reducible rfl)
  try simp only [Act.put, List.setIfInBounds_toArray, List.set_cons_zero, List.set_cons_succ]
  refine quiet_if 38 (!v34 && b2) (v := ?_) rfl (by cases v34 <;> cases b2 <;> kernel_rfl) ?hy38 ?rest38
  case hy38 => (intro hg W hW; obtain ⟨rfl, rfl⟩ : v34 = false ∧ b2 = true := (by revert hg; cases v34 <;> cases b2 <;> simp); clear hW; (try simp only [cond_true]); go_simp; first | done | with_reducible rfl)
  try simp only [Act.put, List.setIfInBounds_toArray, List.set_cons_zero, List.set_cons_succ]
  refine quiet_if 39 (!v34 && b2) (v := ?_) rfl (by cases v34 <;> cases b2 <;> kernel_rfl) ?hy39 ?rest39
  case hy39 => (intro hg W hW; obtain ⟨rfl, rfl⟩ : v34 = false ∧ b2 = true := (by revert hg; cases v34 <;> cases b2 <;> simp); have c7 := (HDC.out W hW).cell (i := 7) (v := .string h.link) rfl; clear hW; (try simp only [cond_true]); go_simp; first | done | with_reducible rfl)
  try simp only [Act.put, List.setIfInBounds_toArray, List.set_cons_zero, List.set_cons_succ]
  refine quiet_if 40 (!v34 && b2) (v := ?_) rfl (by cases v34 <;> cases b2 <;> kernel_rfl) ?hy40 ?rest40
  case hy40 => (intro hg W hW; obtain ⟨rfl, rfl⟩ : v34 = false ∧ b2 = true := (by revert hg; cases v34 <;> cases b2 <;> simp); clear hW; (try simp only [cond_true]); go_simp; first | done | with_reducible rfl)
  try simp only [Act.put, List.setIfInBounds_toArray, List.set_cons_zero, List.set_cons_succ]
  refine quiet_if 41 (!v34 && b2) (v := .string (t2.extract 0 100)) rfl (by cases v34 <;> cases b2 <;> kernel_rfl) ?hy41 ?rest41
  case hy41 => (intro hg W hW; obtain ⟨rfl, rfl⟩ : v34 = false ∧ b2 = true := (by revert hg; cases v34 <;> cases b2 <;> simp); (try simp only [cond_true]); (go_simp; go_at_call 18; (with_reducible refine (HF.out _ W).mono ?_); rintro e w' ⟨rfl, rfl⟩; exact ⟨rfl, hW⟩))
  try simp only [Act.put, List.setIfInBounds_toArray, List.set_cons_zero, List.set_cons_succ]
  refine quiet_if 42 (!v34 && b2) (v := .bool v42) rfl (by cases v34 <;> cases b2 <;> kernel_rfl) ?hy42 ?rest42
  case hy42 => (intro hg W hW; obtain ⟨rfl, rfl⟩ : v34 = false ∧ b2 = true := (by revert hg; cases v34 <;> cases b2 <;> simp); clear hW; (try simp only [cond_true]); rw [V42.out]; (go_simp; first | done | with_reducible rfl))
  try simp only [Act.put, List.setIfInBounds_toArray, List.set_cons_zero, List.set_cons_succ]
  refine quiet_if 43 (!v34) (v := .bool v43) rfl (by cases v34 <;> kernel_rfl) ?hy43 ?rest43
  case hy43 => (intro hg W hW; obtain rfl : v34 = false := (by simpa using hg); clear hW; (try simp only [cond_true]); rw [V43.out]; cases b2 <;> (go_simp; first | done | with_reducible rfl))
  try simp only [Act.put, List.setIfInBounds_toArray, List.set_cons_zero, List.set_cons_succ]
  refine quiet_yes 44 (v := .bool v44) rfl (by kernel_rfl) ?hy44 ?rest44
  case hy44 => (intro W hW; clear hW; rw [V44.out]; cases v34 <;> (go_simp; first | done | with_reducible rfl))
  try simp only [Act.put, List.setIfInBounds_toArray, List.set_cons_zero, List.set_cons_succ]
  refine wpQuiet_nil ?_
  intro w5 hb5
  have HB5 := hid (HW3.out.trans (hb5.mono (Nat.le_trans (Nat.le_succ _) hw3s)))
  have e1 := hid (show M.agr (tl h.pre) (tl h.name) (tl h.link) (Px.rcs l) = ((b1 || b2) && !v44) by
    have f1 : Px.M.find (Px.M.merge Px.ltB (Px.rcs l) []) M.kPath = Px.M.find (Px.rcs rs) (tl ⟨#[112, 97, 116, 104]⟩) := by rw [show Px.rcs rs = _ from RS.out]; rfl
    have f2 : Px.M.find (Px.M.merge Px.ltB (Px.rcs l) []) M.kLink = Px.M.find (Px.rcs rs) (tl ⟨#[108, 105, 110, 107, 112, 97, 116, 104]⟩) := by rw [show Px.rcs rs = _ from RS.out]; rfl
    unfold M.agr
    rw [f1, f2, HV.out]
    have g1 := T1.out
    have g2 := T2.out
    have i1 := E1.out
    have i2 := E2.out
    generalize Px.M.find (Px.rcs rs) (tl ⟨#[112, 97, 116, 104]⟩) = o1 at *
    generalize Px.M.find (Px.rcs rs) (tl ⟨#[108, 105, 110, 107, 112, 97, 116, 104]⟩) = o2 at *
    have j1 : ∀ v, o1 = some v → (h.name.toList == (t1.extract 0 100).toList) = (tl h.name == v.take 100) := fun v hv => by subst hv; rw [Px.tl_eq, Px.tl_eq, tl_take, g1]; rfl
    have j2 : ∀ v, o2 = some v → (h.link.toList == (t2.extract 0 100).toList) = (tl h.link == v.take 100) := fun v hv => by subst hv; rw [Px.tl_eq, Px.tl_eq, tl_take, g2]; rfl
    have j3 : (h.pre.toList == []) = (tl h.pre == []) := by rw [Px.tl_eq]
    rw [j3]
    cases o1 with
    | none =>
      obtain rfl : b1 = false := i1
      cases o2 with
      | none =>
        obtain rfl : b2 = false := i2
        rfl
      | some v =>
        obtain rfl : b2 = true := i2
        rw [j2 v rfl]
        simp [M.fit1]
    | some u =>
      obtain rfl : b1 = true := i1
      rw [j1 u rfl]
      cases o2 with
      | none =>
        obtain rfl : b2 = false := i2
        simp [M.fit1]
      | some v =>
        obtain rfl : b2 = true := i2
        rw [j2 v rfl]
        simp [M.fit1, Bool.and_assoc])
  clear HW3 hb5 HDC HF T1 T2 E1 E2 HV
  cases v44 with
  | true =>
    go_wp2_with fail
    go_ret
    exact ⟨ret_boolT' (by rw [e1.out]; simp), HB5.out⟩
  | false =>
    cases b1 <;> cases b2 <;> (go_wp2_with fail; go_ret; exact ⟨ret_boolT' (by rw [e1.out]; rfl), HB5.out⟩)
end Go.Proofs.Ytcedcfagfklohaa
