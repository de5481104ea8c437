/-
  Texts of one chapter, merged.
-/
import Derived.Test.YtkpnhggpcpjddaaGreatDoorHMk
import Derived.Test.YtkpnhggpcpjddaaGreatDoorHMb
import Derived.Test.YtkpnhggpcpjddaaGreatDoorHMe
set_option linter.unusedVariables false
set_option linter.unusedSimpArgs false
/-! The document's texts, as far as its bytes are bytes. -/
namespace Go.Proofs.YtkpnhggpcpjddaaGreatDoor
open Go.RowKit Go.Lib

/-- What lays fields answers: the block, or nothing. -/
def LaidTo (g : Nat) (w : World) (e : Ending) (w' : World) : Prop :=
  (e = .returned (.tuple #[.slice none 0 0, .bool false]) ∨ e = .returned (.tuple #[.slice (some ⟨g, 0, none⟩) 512 512, .bool true])) ∧ B512 w' g ∧ But g w w'
/-- Four new blocks. -/
theorem four_new (w : World) (o1 o2 o3 o4 : Obj) : ((((w.alloc o1).alloc o2).alloc o3).alloc o4).heap[w.heap.size]? = some o1 ∧ ((((w.alloc o1).alloc o2).alloc o3).alloc o4).heap[w.heap.size + 1]? = some o2 ∧
    ((((w.alloc o1).alloc o2).alloc o3).alloc o4).heap[w.heap.size + 1 + 1]? = some o3 ∧ ((((w.alloc o1).alloc o2).alloc o3).alloc o4).heap[w.heap.size + 1 + 1 + 1]? = some o4 ∧
    Below w.heap.size w ((((w.alloc o1).alloc o2).alloc o3).alloc o4) ∧ ((((w.alloc o1).alloc o2).alloc o3).alloc o4).heap.size = w.heap.size + 4 := by
  refine ⟨?_, ?_, ?_, ?_, ((((Below.refl _ _).alloc (Nat.le_refl _) _).alloc (by simp) _).alloc (by simp; omega) _).alloc (by simp; omega) _, by simp⟩
  · rw [Below.heap_alloc _ _ _ (by simp only [World.size_alloc]; omega), Below.heap_alloc _ _ _ (by simp only [World.size_alloc]; omega), Below.heap_alloc _ _ _ (by simp only [World.size_alloc]; omega)]; exact heap_alloc_new w _
  · rw [Below.heap_alloc _ _ _ (by simp only [World.size_alloc]; omega), Below.heap_alloc _ _ _ (by simp only [World.size_alloc]; omega)]; have := heap_alloc_new (w.alloc o1) o2; rwa [World.size_alloc] at this
  · rw [Below.heap_alloc _ _ _ (by simp only [World.size_alloc]; omega)]; have := heap_alloc_new ((w.alloc o1).alloc o2) o3; rwa [World.size_alloc, World.size_alloc] at this
  · have := heap_alloc_new (((w.alloc o1).alloc o2).alloc o3) o4; rwa [World.size_alloc, World.size_alloc, World.size_alloc] at this
theorem cell_of {w : World} {b i : Nat} {C : Array Value} {t : TypeId} {v : Value} (h : w.heap[b]? = some (.cells C t)) (hv : C[i]? = some v) : w.cell? ⟨b, i, none⟩ = some v := by
  rw [cell_of_row w b i _ _ (0, 0) h]; exact hv
theorem But.drew {g : Nat} {a w : World} (h : But g a w) : But g a w.drew := ⟨h.os, h.tape, h.output, h.size, h.block⟩
theorem B512.drew {w : World} {g : Nat} (h : B512 w g) : B512 w.drew g := h

theorem texts_rows (w : World) (g : Nat) (hg : g < w.heap.size) (h : M.Hdr) (o : Obj) (ht : h.name.size ≤ 100000 ∧ h.link.size ≤ 100000 ∧ h.user.size ≤ 100000 ∧ h.group.size ≤ 100000 ∧ h.pre.size ≤ 100000) :
    ∀ k, k < 5 → ∃ (s : ByteArray) (a m : Nat), s.size ≤ 100000 ∧ a + m ≤ 512 ∧ m ≤ 200 ∧ Hid (∀ V, But g ((((w.alloc o).alloc (.cells #[.string h.name, .string h.link, .string h.user, .string h.group, .string h.pre] 9)).alloc
      (.cells #[.int .i64 0, .int .i64 157, .int .i64 265, .int .i64 297, .int .i64 345] 3)).alloc (.cells #[.int .i64 100, .int .i64 100, .int .i64 32, .int .i64 32, .int .i64 155] 3)) V →
      V.cell? ⟨w.heap.size + 1, k, none⟩ = some (.string s) ∧ V.cell? ⟨w.heap.size + 1 + 1, k, none⟩ = some (.int .i64 a) ∧ V.cell? ⟨w.heap.size + 1 + 1 + 1, k, none⟩ = some (.int .i64 m)) := by
  intro k hk
  obtain ⟨_, r2, r3, r4, _, hs⟩ := four_new w o (.cells #[.string h.name, .string h.link, .string h.user, .string h.group, .string h.pre] 9) (.cells #[.int .i64 0, .int .i64 157, .int .i64 265, .int .i64 297, .int .i64 345] 3)
    (.cells #[.int .i64 100, .int .i64 100, .int .i64 32, .int .i64 32, .int .i64 155] 3)
  have h5 : k = 0 ∨ k = 1 ∨ k = 2 ∨ k = 3 ∨ k = 4 := by omega
  obtain ⟨t0, t1, t2, t3, t4⟩ := ht
  rcases h5 with rfl | rfl | rfl | rfl | rfl
  · exact ⟨_, 0, 100, t0, by decide, by decide, hid fun V hV => ⟨cell_of ((hV.block _ (by omega) (by omega)).trans r2) rfl, cell_of ((hV.block _ (by omega) (by omega)).trans r3) rfl, cell_of ((hV.block _ (by omega) (by omega)).trans r4) rfl⟩⟩
  · exact ⟨_, 157, 100, t1, by decide, by decide, hid fun V hV => ⟨cell_of ((hV.block _ (by omega) (by omega)).trans r2) rfl, cell_of ((hV.block _ (by omega) (by omega)).trans r3) rfl, cell_of ((hV.block _ (by omega) (by omega)).trans r4) rfl⟩⟩
  · exact ⟨_, 265, 32, t2, by decide, by decide, hid fun V hV => ⟨cell_of ((hV.block _ (by omega) (by omega)).trans r2) rfl, cell_of ((hV.block _ (by omega) (by omega)).trans r3) rfl, cell_of ((hV.block _ (by omega) (by omega)).trans r4) rfl⟩⟩
  · exact ⟨_, 297, 32, t3, by decide, by decide, hid fun V hV => ⟨cell_of ((hV.block _ (by omega) (by omega)).trans r2) rfl, cell_of ((hV.block _ (by omega) (by omega)).trans r3) rfl, cell_of ((hV.block _ (by omega) (by omega)).trans r4) rfl⟩⟩
  · exact ⟨_, 345, 155, t4, by decide, by decide, hid fun V hV => ⟨cell_of ((hV.block _ (by omega) (by omega)).trans r2) rfl, cell_of ((hV.block _ (by omega) (by omega)).trans r3) rfl, cell_of ((hV.block _ (by omega) (by omega)).trans r4) rfl⟩⟩
theorem put_lenR {l r : List UInt8} {m : Nat} (h : S.M.put l m = some r) : r.length = m := by
  unfold S.M.put at h
  split at h
  · rename_i hc
    injection h with h
    subst h
    rw [List.length_append, List.length_replicate]
    omega
  · cases h

set_option maxRecDepth 100000 in
set_option maxHeartbeats 2000000 in
theorem refTexts_any (g : Nat) (h : M.Hdr) (A : Option Addr) (n c : Nat) (w : World) (hb : B512 w g) (ht : h.name.size ≤ 100000 ∧ h.link.size ≤ 100000 ∧ h.user.size ≤ 100000 ∧ h.group.size ≤ 100000 ∧ h.pre.size ≤ 100000) :
    Calls Tryz.prog 30 #[.slice (some ⟨g, 0, none⟩) 512 512, .agg (hcells h (.slice A n c))] w (LaidTo g w) := by
  have HG := hid hb.lt
  have B1 := hid (HB.new w h (.slice A n c))
  have k0 := HB.cell B1.out (i := 0) (v := .string h.name) rfl
  have k7 := HB.cell B1.out (i := 7) (v := .string h.link) rfl
  have k9 := HB.cell B1.out (i := 9) (v := .string h.user) rfl
  have k10 := HB.cell B1.out (i := 10) (v := .string h.group) rfl
  have k13 := HB.cell B1.out (i := 13) (v := .string h.pre) rfl
  have HL := hid (texts_rows w g hb.lt h (.cells (hcells h (.slice A n c)) 33) ht)
  have HW := hid (four_new w (.cells (hcells h (.slice A n c)) 33) (.cells #[.string h.name, .string h.link, .string h.user, .string h.group, .string h.pre] 9) (.cells #[.int .i64 0, .int .i64 157, .int .i64 265, .int .i64 297, .int .i64 345] 3)
    (.cells #[.int .i64 100, .int .i64 100, .int .i64 32, .int .i64 32, .int .i64 155] 3)).2.2.2.2.1
  have HX := hid (hb.below HW.out hb.lt)
  clear hb ht
  go_enter Tryz.func30, Tryz.ntmps30
  go_wp2_with fail
  clear k0 k7 k9 k10 k13 B1
  generalize World.alloc (World.alloc (World.alloc (World.alloc w _) _) _) _ = W at *
  go_loopw [0, 9] (fun b i wr => ∃ k : Nat, b = .slice (some ⟨g, 0, none⟩) 512 512 ∧ i = .int .i64 k ∧ k ≤ 5 ∧ Hid (B512 wr g) ∧ Hid (But g W wr)) (fun _ i _ => 5 - (RowKit.intOf i).toNat)
  case atStart => exact ⟨0, rfl, rfl, Nat.zero_le _, HX, hid (But.refl _ _)⟩
  case round =>
    clear HX
    obtain ⟨k, rfl, rfl, hk, HX, HU⟩ := hrel
    by_cases hlt : k < 5
    · obtain ⟨s, a, m, hs, ham, hm, HC⟩ := HL.out k hlt
      have E5 := hid (show decide ((k : Int) < 5) = true by rw [decide_eq_true_eq]; omega)
      have HLT := hid hlt
      go_wp2_with fail
      simp only [E5.out]
      clear E5 hlt
      have HXd := hid HX.out.drew
      have HUd := hid HU.out.drew
      clear HX HU
      have HC1 := hid (fun V (hV : But g W V ∧ B512 V g) => (HC.out V hV.1).1)
      have HC2 := hid (fun V (hV : But g W V ∧ B512 V g) => (HC.out V hV.1).2.2)
      refine wp_region_held_drew (S := fun V => But g W V ∧ B512 V g) (by kernel_rfl) ⟨HUd.out, HXd.out⟩ (fun hS => ?_)
      refine takeH (i := 0) (v := ?_) 30 rfl rfl (by kernel_rfl) (by kernel_rfl) (by kernel_rfl) (fun _ _ _ h => h) (by rfl) ?hy0 hS ?rest0
      case hy0 => (intro W hW; clear hW; go_simp; first | done | with_reducible rfl)
      try simp only [Act.put, List.setIfInBounds_toArray, List.set_cons_zero, List.set_cons_succ]
      refine takeH (i := 1) (v := ?_) 31 rfl rfl (by kernel_rfl) (by kernel_rfl) (by kernel_rfl) (fun _ _ _ h => h) (by rfl) ?hy1 hS ?rest1
      case hy1 => (intro W hW; clear hW; go_simp; first | done | with_reducible rfl)
      try simp only [Act.put, List.setIfInBounds_toArray, List.set_cons_zero, List.set_cons_succ]
      refine takeH (i := 2) (v := ?_) 32 rfl rfl (by kernel_rfl) (by kernel_rfl) (by kernel_rfl) (fun _ _ _ h => h) (by rfl) ?hy2 hS ?rest2
      case hy2 => (intro W hW; clear hW; go_simp; first | done | with_reducible rfl)
      try simp only [Act.put, List.setIfInBounds_toArray, List.set_cons_zero, List.set_cons_succ]
      refine takeH (i := 3) (v := ?_) 33 rfl rfl (by kernel_rfl) (by kernel_rfl) (by kernel_rfl) (fun _ _ _ h => h) (by rfl) ?hy3 hS ?rest3
      case hy3 => (intro W hW; have f0 := HC1.out W hW; clear hW; go_simp; first | done | with_reducible rfl)
      try simp only [Act.put, List.setIfInBounds_toArray, List.set_cons_zero, List.set_cons_succ]
      refine takeH (i := 4) (v := ?_) 34 rfl rfl (by kernel_rfl) (by kernel_rfl) (by kernel_rfl) (fun _ _ _ h => h) (by rfl) ?hy4 hS ?rest4
      case hy4 => (intro W hW; clear hW; go_simp; first | done | with_reducible rfl)
      try simp only [Act.put, List.setIfInBounds_toArray, List.set_cons_zero, List.set_cons_succ]
      refine takeH (i := 5) (v := ?_) 35 rfl rfl (by kernel_rfl) (by kernel_rfl) (by kernel_rfl) (fun _ _ _ h => h) (by rfl) ?hy5 hS ?rest5
      case hy5 => (intro W hW; clear hW; go_simp; first | done | with_reducible rfl)
      try simp only [Act.put, List.setIfInBounds_toArray, List.set_cons_zero, List.set_cons_succ]
      refine takeH (i := 6) (v := ?_) 36 rfl rfl (by kernel_rfl) (by kernel_rfl) (by kernel_rfl) (fun _ _ _ h => h) (by rfl) ?hy6 hS ?rest6
      case hy6 => (intro W hW; clear hW; go_simp; first | done | with_reducible rfl)
      try simp only [Act.put, List.setIfInBounds_toArray, List.set_cons_zero, List.set_cons_succ]
      refine takeH (i := 7) (v := ?_) 37 rfl rfl (by kernel_rfl) (by kernel_rfl) (by kernel_rfl) (fun _ _ _ h => h) (by rfl) ?hy7 hS ?rest7
      case hy7 => (intro W hW; have f0 := HC2.out W hW; clear hW; go_simp; first | done | with_reducible rfl)
      try simp only [Act.put, List.setIfInBounds_toArray, List.set_cons_zero, List.set_cons_succ]
      refine loneH (i := 8) 38 rfl rfl (by kernel_rfl) (by rfl) (fun K hK => ?_)
      go_simp
      generalize hSV : World.drew wr = V at *
      (with_reducible refine (S.refPut_any s hs m (by omega) (by omega) _).mono ?_)
      rintro e w1 ⟨A1, n1, d1, rfl, _, _, hrd, b1, _⟩
      have HX1 := hid (B512.below hS.2 b1 hS.2.lt)
      have HU1 := hid (hS.1.trans (But.of_below b1))
      clear hS
      refine hK.out _ _ ⟨HU1.out, HX1.out⟩ (fun hS => ?_)
      clear hK K
      try simp only [Act.put, List.setIfInBounds_toArray, List.set_cons_zero, List.set_cons_succ]
      refine takeH (i := 9) (v := ?_) 29 rfl rfl (by kernel_rfl) (by kernel_rfl) (by kernel_rfl) (fun _ _ _ h => h) (by rfl) ?hy9 hS ?rest9
      case hy9 => (intro W hW; clear hW; go_simp; first | done | with_reducible rfl)
      try simp only [Act.put, List.setIfInBounds_toArray, List.set_cons_zero, List.set_cons_succ]
      refine takeH (i := 10) (v := ?_) 39 rfl rfl (by kernel_rfl) (by kernel_rfl) (by kernel_rfl) (fun _ _ _ h => h) (by rfl) ?hy10 hS ?rest10
      case hy10 => (intro W hW; clear hW; go_simp; first | done | with_reducible rfl)
      try simp only [Act.put, List.setIfInBounds_toArray, List.set_cons_zero, List.set_cons_succ]
      refine takeH (i := 11) (v := ?_) 40 rfl rfl (by kernel_rfl) (by kernel_rfl) (by kernel_rfl) (fun _ _ _ h => h) (by rfl) ?hy11 hS ?rest11
      case hy11 => (intro W hW; clear hW; go_simp; first | done | with_reducible rfl)
      try simp only [Act.put, List.setIfInBounds_toArray, List.set_cons_zero, List.set_cons_succ]
      refine takeH (i := 12) (v := ?_) 10 rfl rfl (by kernel_rfl) (by kernel_rfl) (by kernel_rfl) (fun _ _ _ h => h) (by rfl) ?hy12 hS ?rest12
      case hy12 => (intro W hW; clear hW; go_simp; first | done | with_reducible rfl)
      try simp only [Act.put, List.setIfInBounds_toArray, List.set_cons_zero, List.set_cons_succ]
      refine takeH (i := 13) (v := ?_) 11 rfl rfl (by kernel_rfl) (by kernel_rfl) (by kernel_rfl) (fun _ _ _ h => h) (by rfl) ?hy13 hS ?rest13
      case hy13 => (intro W hW; clear hW; go_simp; first | done | with_reducible rfl)
      try simp only [Act.put, List.setIfInBounds_toArray, List.set_cons_zero, List.set_cons_succ]
      refine wpAnyH_done (by kernel_rfl) ?_ _
      try simp only [Act.put, List.setIfInBounds_toArray, List.set_cons_zero, List.set_cons_succ]
      cases hp : S.M.put s.data.toList m with
      | none =>
        clear hrd
        rw [show (none : Option (List UInt8)).isSome = false from rfl]
        go_wp2
        go_ret2
        exact ⟨.inl rfl, HX1.out, (But.of_below HW.out).trans HU1.out⟩
      | some l =>
        rw [hp] at hrd
        have hn1 : n1 = m := by have := hrd.len; rw [show (some l : Option (List UInt8)).getD [] = l from rfl, S.ints_length, put_lenR hp] at this; exact this.symm
        subst hn1
        have HR := hid (RdW.of_rd hrd)
        clear hrd hp
        obtain ⟨c1, c2, c3⟩ := HC.out w1 HU1.out
        clear c3
        rw [show (some l : Option (List UInt8)).isSome = true from rfl]
        by_cases hs0 : s = ⟨#[]⟩
        · subst hs0
          go_wp2_with fail
          go_roundw
          case rel => exact ⟨k + 1, rfl, (by go_num), HLT.out, HX1, HU1⟩
          case measure => have := HLT.out; simp [RowKit.intOf]; omega
        · have e1 : (s.toList == []) = false := by
            rw [beq_eq_false_iff_ne]
            exact fun e => hs0 (toList_inj (e.trans (by decide +kernel)))
          go_wp2_with fail
          have HCL := hid (lay_any g a A1 n1 d1 w1 HX1.out HR.out (by omega))
          (with_reducible refine HCL.out.mono ?_)
          rintro e w2 ⟨rfl, hx2, hu2⟩
          have HX2 := hid hx2
          have HU2 := hid (HU1.out.trans hu2)
          clear hx2 hu2 c1 c2 HX1 HU1 HCL HR
          go_wp2_with fail
          go_roundw
          case rel => exact ⟨k + 1, rfl, (by go_num), HLT.out, HX2, HU2⟩
          case measure => have := HLT.out; simp [RowKit.intOf]; omega
    · obtain rfl : k = 5 := by omega
      go_wp2
      go_ret2
      exact ⟨.inr rfl, HX.out, (But.of_below HW.out).trans HU.out⟩
end Go.Proofs.YtkpnhggpcpjddaaGreatDoor

/-! The document's Put of a text: in a block of its own. -/
namespace Go.Proofs.YtkpnhggpcpjddaaGreatDoor.S
open Go.RowKit Go.Shelf

/-- As PutIs; the bytes lie in a block that is new. -/
def PutOwnS (w : World) (r : Option (List UInt8)) (e : Ending) (w' : World) : Prop :=
  ∃ A n c, e = .returned (.tuple #[.slice A n c, .bool r.isSome]) ∧ n ≤ c ∧ c ≤ 100000 ∧ Rd w' w'.heap.size A n (ints (r.getD [])) ∧ Below w.heap.size w w' ∧ (∀ b off, A = some ⟨b, off, none⟩ → w.heap.size ≤ b)
theorem PutOwnS.no {w w' : World} (h : Below w.heap.size w w') : PutOwnS w none (.returned (.tuple #[.slice none 0 0, .bool false])) w' :=
  ⟨none, 0, 0, rfl, Nat.le_refl _, by omega, Rd.none_, h, fun _ _ h => nomatch h⟩
set_option maxRecDepth 100000 in
set_option maxHeartbeats 1000000 in
theorem refPut_own (s : ByteArray) (hs : s.size ≤ 100000) (n : Int) (h1 : -9223372036854775808 ≤ n) (h2 : n ≤ 100000) (w : World) :
    Calls Tryz.prog 65 #[.string s, .int .i64 n] w (PutOwnS w (M.put s.data.toList n)) := by
  by_cases hw : (s.size : Int) ≤ n
  · obtain ⟨N, rfl⟩ : ∃ N : Nat, n = N := ⟨n.toNat, by omega⟩
    have hN : s.size ≤ N := by omega
    have hmk := run_make_row' (P := Tryz.prog) 22 5 (.int .u8 0) 1 Tryz.underlying22 u8_info rfl .i64 .i64 N (by omega) (by omega)
    go_enter Tryz.func65, Tryz.ntmps65
    go_wp2
    clear hmk
    go_loopw [7] (fun i wr => ∃ k : Nat, i = .int .i64 k ∧ k ≤ s.size ∧ ¬ (0 : UInt8) ∈ s.data.toList.take k ∧ RowB wr w.heap.size N (rowTo s.data.toList k) ∧ Below w.heap.size w wr) (fun i _ => s.size - (intOf i).toNat)
    case atStart => exact ⟨0, rfl, Nat.zero_le _, by simp, (RowB.made w N).to (fun i _ => by simp [rowTo]), (Below.refl _ _).alloc (Nat.le_refl _) _⟩
    case round =>
      obtain ⟨k, rfl, hk, hno, hrow, hbel⟩ := hrel
      by_cases hlt : k < s.size
      · have hat := at_eq s k hlt
        have hl : k < s.data.toList.length := hlt
        have hb : (s[k]'hlt).toNat < 256 := UInt8.toNat_lt _
        by_cases h0 : M.at' s.data.toList k = 0
        · have hr : M.put s.data.toList N = none := by
            unfold M.put
            rw [if_neg]
            rintro ⟨_, h⟩
            exact h ((zero_mem hl).1 h0 ▸ List.getElem_mem hl)
          rw [hat] at h0
          have he : (((s[k]'hlt).toNat : Int) == 0) = true := by simp; omega
          have HR := Lib.hid hr
          clear h0 hat hno hr hl
          go_wp2
          go_ret2
          rw [HR.out]
          exact PutOwnS.no hbel
        · have hno2 := not_mem_take_succ hl hno h0
          have hne : (((s[k]'hlt).toNat : Int) == 0) = false := by rw [hat] at h0; simp; omega
          have hc := hrow.cell (i := k) (by omega)
          have hf := hrow.frozen k
          have hset := hrow.set k ((s[k]'hlt).toNat : Int)
          have hset2 : RowB (wr.setCell ⟨w.heap.size, k, none⟩ (.int .u8 ((s[k]'hlt).toNat : Int))) w.heap.size N (rowTo s.data.toList (k + 1)) := hset.to (fun i _ => by
            unfold rowTo
            by_cases e : i = k
            · subst e; rw [if_pos rfl, if_pos (by omega), hat]
            · rw [if_neg e]
              by_cases e2 : i < k
              · rw [if_pos e2, if_pos (by omega)]
              · rw [if_neg e2, if_neg (by omega)])
          have HN := Lib.hid hno2
          clear hno hno2 h0 hat hl hset hrow
          by_cases hk0 : k = 0
          · subst hk0
            go_wp2
            go_roundw
            case rel => exact ⟨1, by go_num, by omega, HN.out, hset2, hbel.setCell (p := ⟨w.heap.size, 0, none⟩) (Nat.le_refl _) _⟩
            case measure => simp [intOf]; omega
          · have hk1 : 0 < k := by omega
            clear hk0
            go_wp2
            go_roundw
            case rel => exact ⟨k + 1, by go_num, by omega, HN.out, hset2, hbel.setCell (p := ⟨w.heap.size, k, none⟩) (Nat.le_refl _) _⟩
            case measure => simp [intOf]; omega
      · obtain rfl : k = s.size := by omega
        have hno' : ¬ (0 : UInt8) ∈ s.data.toList := by rw [← List.take_length (l := s.data.toList)]; exact hno
        have hr : M.put s.data.toList N = some (s.data.toList ++ List.replicate (N - s.size) 0) := by
          unfold M.put; rw [if_pos ⟨by rw [len_eq]; exact hw, hno'⟩, len_eq, Int.toNat_natCast]
        have hrd : Rd wr wr.heap.size (some ⟨w.heap.size, 0, none⟩) N (ints (s.data.toList ++ List.replicate (N - s.size) 0)) := RowB.rd (hrow.to (fun i _ => by rw [at_append_replicate, len_eq])) (by rw [List.length_append, len_eq, List.length_replicate]; omega)
        have HR := Lib.hid hr
        have HH := Lib.hid hrd
        clear hno hno' hr hrow hrd
        go_wp2
        go_ret2
        rw [HR.out]
        exact ⟨_, N, N, rfl, Nat.le_refl _, by omega, by simpa using HH.out, hbel, fun b off h => by injection h with h; injection h with h; exact Nat.le_of_eq h⟩
  · have hr : M.put s.data.toList n = none := by unfold M.put; rw [if_neg (fun h => by have := h.1; rw [len_eq] at this; omega)]
    rw [hr]
    clear hr
    have hw' : n < (s.size : Int) := by omega
    clear hw
    go_enter Tryz.func65, Tryz.ntmps65
    go_wp2
    go_ret2
    exact PutOwnS.no (Below.refl _ _)
end Go.Proofs.YtkpnhggpcpjddaaGreatDoor.S

/-! The document's texts, byte by byte. -/
namespace Go.Proofs.YtkpnhggpcpjddaaGreatDoor
open Go.RowKit Go.Lib

/-- What lays fields answers: the block with its bytes, or nothing. -/
def LaidX (g : Nat) (o : Option (List Int)) (w : World) (e : Ending) (w' : World) : Prop :=
  (match o with
    | none => e = .returned (.tuple #[.slice none 0 0, .bool false])
    | some zs => e = .returned (.tuple #[.slice (some ⟨g, 0, none⟩) 512 512, .bool true]) ∧ BX w' g zs) ∧ But g w w'
theorem texts_rowsX (w : World) (g : Nat) (hg : g < w.heap.size) (h : M.Hdr) (o : Obj) (ht : h.name.size ≤ 100000 ∧ h.link.size ≤ 100000 ∧ h.user.size ≤ 100000 ∧ h.group.size ≤ 100000 ∧ h.pre.size ≤ 100000) :
    ∀ k, k < 5 → ∃ (s : ByteArray) (a m : Nat), (M.tq h)[k]? = some (s, a, m) ∧ s.size ≤ 100000 ∧ a + m ≤ 512 ∧ m ≤ 200 ∧ Hid (∀ V, But g ((((w.alloc o).alloc (.cells #[.string h.name, .string h.link, .string h.user, .string h.group, .string h.pre] 9)).alloc
      (.cells #[.int .i64 0, .int .i64 157, .int .i64 265, .int .i64 297, .int .i64 345] 3)).alloc (.cells #[.int .i64 100, .int .i64 100, .int .i64 32, .int .i64 32, .int .i64 155] 3)) V →
      V.cell? ⟨w.heap.size + 1, k, none⟩ = some (.string s) ∧ V.cell? ⟨w.heap.size + 1 + 1, k, none⟩ = some (.int .i64 a) ∧ V.cell? ⟨w.heap.size + 1 + 1 + 1, k, none⟩ = some (.int .i64 m)) := by
  intro k hk
  obtain ⟨_, r2, r3, r4, _, hs⟩ := four_new w o (.cells #[.string h.name, .string h.link, .string h.user, .string h.group, .string h.pre] 9) (.cells #[.int .i64 0, .int .i64 157, .int .i64 265, .int .i64 297, .int .i64 345] 3)
    (.cells #[.int .i64 100, .int .i64 100, .int .i64 32, .int .i64 32, .int .i64 155] 3)
  have h5 : k = 0 ∨ k = 1 ∨ k = 2 ∨ k = 3 ∨ k = 4 := by omega
  obtain ⟨t0, t1, t2, t3, t4⟩ := ht
  rcases h5 with rfl | rfl | rfl | rfl | rfl
  · exact ⟨_, 0, 100, rfl, t0, by decide, by decide, hid fun V hV => ⟨cell_of ((hV.block _ (by omega) (by omega)).trans r2) rfl, cell_of ((hV.block _ (by omega) (by omega)).trans r3) rfl, cell_of ((hV.block _ (by omega) (by omega)).trans r4) rfl⟩⟩
  · exact ⟨_, 157, 100, rfl, t1, by decide, by decide, hid fun V hV => ⟨cell_of ((hV.block _ (by omega) (by omega)).trans r2) rfl, cell_of ((hV.block _ (by omega) (by omega)).trans r3) rfl, cell_of ((hV.block _ (by omega) (by omega)).trans r4) rfl⟩⟩
  · exact ⟨_, 265, 32, rfl, t2, by decide, by decide, hid fun V hV => ⟨cell_of ((hV.block _ (by omega) (by omega)).trans r2) rfl, cell_of ((hV.block _ (by omega) (by omega)).trans r3) rfl, cell_of ((hV.block _ (by omega) (by omega)).trans r4) rfl⟩⟩
  · exact ⟨_, 297, 32, rfl, t3, by decide, by decide, hid fun V hV => ⟨cell_of ((hV.block _ (by omega) (by omega)).trans r2) rfl, cell_of ((hV.block _ (by omega) (by omega)).trans r3) rfl, cell_of ((hV.block _ (by omega) (by omega)).trans r4) rfl⟩⟩
  · exact ⟨_, 345, 155, rfl, t4, by decide, by decide, hid fun V hV => ⟨cell_of ((hV.block _ (by omega) (by omega)).trans r2) rfl, cell_of ((hV.block _ (by omega) (by omega)).trans r3) rfl, cell_of ((hV.block _ (by omega) (by omega)).trans r4) rfl⟩⟩

set_option maxRecDepth 100000 in
set_option maxHeartbeats 2000000 in
theorem refTextsX_any (g : Nat) (zs0 : List Int) (h : M.Hdr) (A : Option Addr) (n c : Nat) (w : World) (hb : BX w g zs0) (ht : h.name.size ≤ 100000 ∧ h.link.size ≤ 100000 ∧ h.user.size ≤ 100000 ∧ h.group.size ≤ 100000 ∧ h.pre.size ≤ 100000) :
    Calls Tryz.prog 30 #[.slice (some ⟨g, 0, none⟩) 512 512, .agg (hcells h (.slice A n c))] w (LaidX g (M.dt zs0 (M.tq h)) w) := by
  have HG := hid hb.lt
  have B1 := hid (HB.new w h (.slice A n c))
  have k0 := HB.cell B1.out (i := 0) (v := .string h.name) rfl
  have k7 := HB.cell B1.out (i := 7) (v := .string h.link) rfl
  have k9 := HB.cell B1.out (i := 9) (v := .string h.user) rfl
  have k10 := HB.cell B1.out (i := 10) (v := .string h.group) rfl
  have k13 := HB.cell B1.out (i := 13) (v := .string h.pre) rfl
  have HL := hid (texts_rowsX w g hb.lt h (.cells (hcells h (.slice A n c)) 33) ht)
  have HW := hid (four_new w (.cells (hcells h (.slice A n c)) 33) (.cells #[.string h.name, .string h.link, .string h.user, .string h.group, .string h.pre] 9) (.cells #[.int .i64 0, .int .i64 157, .int .i64 265, .int .i64 297, .int .i64 345] 3)
    (.cells #[.int .i64 100, .int .i64 100, .int .i64 32, .int .i64 32, .int .i64 155] 3)).2.2.2.2.1
  have HX := hid (hb.below HW.out hb.lt)
  clear hb ht
  go_enter Tryz.func30, Tryz.ntmps30
  go_wp2_with fail
  clear k0 k7 k9 k10 k13 B1
  generalize World.alloc (World.alloc (World.alloc (World.alloc w _) _) _) _ = W at *
  go_loopw [0, 9] (fun b i wr => ∃ k : Nat, b = .slice (some ⟨g, 0, none⟩) 512 512 ∧ i = .int .i64 k ∧ k ≤ 5 ∧ (∃ zk, Hid (BX wr g zk) ∧ Hid (M.dt zs0 (M.tq h) = M.dt zk ((M.tq h).drop k))) ∧ Hid (But g W wr)) (fun _ i _ => 5 - (RowKit.intOf i).toNat)
  case atStart => exact ⟨0, rfl, rfl, Nat.zero_le _, ⟨zs0, HX, hid rfl⟩, hid (But.refl _ _)⟩
  case round =>
    clear HX
    obtain ⟨k, rfl, rfl, hk, ⟨zk, HX, HD⟩, HU⟩ := hrel
    by_cases hlt : k < 5
    · obtain ⟨s, a, m, htq, hs, ham, hm, HC⟩ := HL.out k hlt
      have HDk := hid (show M.dt zs0 (M.tq h) = M.dt zk ((s, a, m) :: (M.tq h).drop (k + 1)) by
        obtain ⟨hq1, hq2⟩ := List.getElem?_eq_some_iff.1 htq
        rw [HD.out, List.drop_eq_getElem_cons hq1, hq2])
      clear htq HD
      have E5 := hid (show decide ((k : Int) < 5) = true by rw [decide_eq_true_eq]; omega)
      have HLT := hid hlt
      go_wp2_with fail
      simp only [E5.out]
      clear E5 hlt
      have HXd := hid HX.out.drew
      have HUd := hid HU.out.drew
      clear HX HU
      have HC1 := hid (fun V (hV : But g W V ∧ BX V g zk) => (HC.out V hV.1).1)
      have HC2 := hid (fun V (hV : But g W V ∧ BX V g zk) => (HC.out V hV.1).2.2)
      refine wp_region_held_drew (S := fun V => But g W V ∧ BX V g zk) (by kernel_rfl) ⟨HUd.out, HXd.out⟩ (fun hS => ?_)
      refine takeH (i := 0) (v := ?_) 30 rfl rfl (by kernel_rfl) (by kernel_rfl) (by kernel_rfl) (fun _ _ _ h => h) (by rfl) ?hy0 hS ?rest0
      case hy0 => (intro W hW; clear hW; go_simp; first | done | with_reducible rfl)
      try simp only [Act.put, List.setIfInBounds_toArray, List.set_cons_zero, List.set_cons_succ]
      refine takeH (i := 1) (v := ?_) 31 rfl rfl (by kernel_rfl) (by kernel_rfl) (by kernel_rfl) (fun _ _ _ h => h) (by rfl) ?hy1 hS ?rest1
      case hy1 => (intro W hW; clear hW; go_simp; first | done | with_reducible rfl)
      try simp only [Act.put, List.setIfInBounds_toArray, List.set_cons_zero, List.set_cons_succ]
      refine takeH (i := 2) (v := ?_) 32 rfl rfl (by kernel_rfl) (by kernel_rfl) (by kernel_rfl) (fun _ _ _ h => h) (by rfl) ?hy2 hS ?rest2
      case hy2 => (intro W hW; clear hW; go_simp; first | done | with_reducible rfl)
      try simp only [Act.put, List.setIfInBounds_toArray, List.set_cons_zero, List.set_cons_succ]
      refine takeH (i := 3) (v := ?_) 33 rfl rfl (by kernel_rfl) (by kernel_rfl) (by kernel_rfl) (fun _ _ _ h => h) (by rfl) ?hy3 hS ?rest3
      case hy3 => (intro W hW; have f0 := HC1.out W hW; clear hW; go_simp; first | done | with_reducible rfl)
      try simp only [Act.put, List.setIfInBounds_toArray, List.set_cons_zero, List.set_cons_succ]
      refine takeH (i := 4) (v := ?_) 34 rfl rfl (by kernel_rfl) (by kernel_rfl) (by kernel_rfl) (fun _ _ _ h => h) (by rfl) ?hy4 hS ?rest4
      case hy4 => (intro W hW; clear hW; go_simp; first | done | with_reducible rfl)
      try simp only [Act.put, List.setIfInBounds_toArray, List.set_cons_zero, List.set_cons_succ]
      refine takeH (i := 5) (v := ?_) 35 rfl rfl (by kernel_rfl) (by kernel_rfl) (by kernel_rfl) (fun _ _ _ h => h) (by rfl) ?hy5 hS ?rest5
      case hy5 => (intro W hW; clear hW; go_simp; first | done | with_reducible rfl)
      try simp only [Act.put, List.setIfInBounds_toArray, List.set_cons_zero, List.set_cons_succ]
      refine takeH (i := 6) (v := ?_) 36 rfl rfl (by kernel_rfl) (by kernel_rfl) (by kernel_rfl) (fun _ _ _ h => h) (by rfl) ?hy6 hS ?rest6
      case hy6 => (intro W hW; clear hW; go_simp; first | done | with_reducible rfl)
      try simp only [Act.put, List.setIfInBounds_toArray, List.set_cons_zero, List.set_cons_succ]
      refine takeH (i := 7) (v := ?_) 37 rfl rfl (by kernel_rfl) (by kernel_rfl) (by kernel_rfl) (fun _ _ _ h => h) (by rfl) ?hy7 hS ?rest7
      case hy7 => (intro W hW; have f0 := HC2.out W hW; clear hW; go_simp; first | done | with_reducible rfl)
      try simp only [Act.put, List.setIfInBounds_toArray, List.set_cons_zero, List.set_cons_succ]
      refine loneH (i := 8) 38 rfl rfl (by kernel_rfl) (by rfl) (fun K hK => ?_)
      go_simp
      generalize hSV : World.drew wr = V at *
      (with_reducible refine (S.refPut_own s hs m (by omega) (by omega) _).mono ?_)
      rintro e w1 ⟨A1, n1, d1, rfl, _, _, hrd, b1, hown⟩
      have HNE := hid (fun b off (e : A1 = some ⟨b, off, none⟩) => (Nat.ne_of_gt (Nat.lt_of_lt_of_le hS.2.lt (hown b off e)) : b ≠ g))
      clear hown
      have HX1 := hid (BX.below hS.2 b1 hS.2.lt)
      have HU1 := hid (hS.1.trans (But.of_below b1))
      clear hS
      refine hK.out _ _ ⟨HU1.out, HX1.out⟩ (fun hS => ?_)
      clear hK K
      try simp only [Act.put, List.setIfInBounds_toArray, List.set_cons_zero, List.set_cons_succ]
      refine takeH (i := 9) (v := ?_) 29 rfl rfl (by kernel_rfl) (by kernel_rfl) (by kernel_rfl) (fun _ _ _ h => h) (by rfl) ?hy9 hS ?rest9
      case hy9 => (intro W hW; clear hW; go_simp; first | done | with_reducible rfl)
      try simp only [Act.put, List.setIfInBounds_toArray, List.set_cons_zero, List.set_cons_succ]
      refine takeH (i := 10) (v := ?_) 39 rfl rfl (by kernel_rfl) (by kernel_rfl) (by kernel_rfl) (fun _ _ _ h => h) (by rfl) ?hy10 hS ?rest10
      case hy10 => (intro W hW; clear hW; go_simp; first | done | with_reducible rfl)
      try simp only [Act.put, List.setIfInBounds_toArray, List.set_cons_zero, List.set_cons_succ]
      refine takeH (i := 11) (v := ?_) 40 rfl rfl (by kernel_rfl) (by kernel_rfl) (by kernel_rfl) (fun _ _ _ h => h) (by rfl) ?hy11 hS ?rest11
      case hy11 => (intro W hW; clear hW; go_simp; first | done | with_reducible rfl)
      try simp only [Act.put, List.setIfInBounds_toArray, List.set_cons_zero, List.set_cons_succ]
      refine takeH (i := 12) (v := ?_) 10 rfl rfl (by kernel_rfl) (by kernel_rfl) (by kernel_rfl) (fun _ _ _ h => h) (by rfl) ?hy12 hS ?rest12
      case hy12 => (intro W hW; clear hW; go_simp; first | done | with_reducible rfl)
      try simp only [Act.put, List.setIfInBounds_toArray, List.set_cons_zero, List.set_cons_succ]
      refine takeH (i := 13) (v := ?_) 11 rfl rfl (by kernel_rfl) (by kernel_rfl) (by kernel_rfl) (fun _ _ _ h => h) (by rfl) ?hy13 hS ?rest13
      case hy13 => (intro W hW; clear hW; go_simp; first | done | with_reducible rfl)
      try simp only [Act.put, List.setIfInBounds_toArray, List.set_cons_zero, List.set_cons_succ]
      refine wpAnyH_done (by kernel_rfl) ?_ _
      try simp only [Act.put, List.setIfInBounds_toArray, List.set_cons_zero, List.set_cons_succ]
      cases hp : S.M.put s.data.toList m with
      | none =>
        clear hrd
        rw [show (none : Option (List UInt8)).isSome = false from rfl]
        go_wp2
        go_ret2
        have ht : M.tOk m s = false := by unfold M.tOk; rw [hp]; rfl
        refine ⟨?_, (But.of_below HW.out).trans HU1.out⟩
        rw [HDk.out]
        show (match (if M.tOk m s = true then _ else none : Option (List Int)) with | none => _ | some zs => _)
        rw [ht, if_neg (by decide)]
        exact rfl
      | some l =>
        rw [hp] at hrd
        have hT : M.tOk m s = true := by unfold M.tOk; rw [hp]; rfl
        have HT := hid (show M.dt zs0 (M.tq h) = M.dt (if M.blank s = true then zk else splice zk a (S.ints l)) ((M.tq h).drop (k + 1)) by
          rw [HDk.out, M.put_eq hp]
          show (if M.tOk m s = true then _ else none) = _
          rw [if_pos hT])
        clear hT
        have hn1 : n1 = m := by have := hrd.len; rw [show (some l : Option (List UInt8)).getD [] = l from rfl, S.ints_length, put_len hp] at this; exact this.symm
        subst hn1
        have HR := hid (show Rd w1 w1.heap.size A1 n1 (S.ints l) from hrd)
        clear hrd hp HDk
        obtain ⟨c1, c2, c3⟩ := HC.out w1 HU1.out
        clear c3
        rw [show (some l : Option (List UInt8)).isSome = true from rfl]
        by_cases hs0 : s = ⟨#[]⟩
        · subst hs0
          go_wp2_with fail
          go_roundw
          case rel => exact ⟨k + 1, rfl, (by go_num), HLT.out, ⟨zk, HX1, hid (by rw [HT.out, if_pos (by decide +kernel)])⟩, HU1⟩
          case measure => have := HLT.out; simp [RowKit.intOf]; omega
        · have e1 : (s.toList == []) = false := by
            rw [beq_eq_false_iff_ne]
            exact fun e => hs0 (toList_inj (e.trans (by decide +kernel)))
          go_wp2_with fail
          have HCL := hid (layX_any g a A1 n1 d1 zk (S.ints l) w1 HX1.out HR.out HNE.out (by omega))
          have HT1 := hid (show M.dt zs0 (M.tq h) = M.dt (splice zk a (S.ints l)) ((M.tq h).drop (k + 1)) by rw [HT.out, if_neg (by unfold M.blank; rw [e1]; decide)])
          clear HT
          (with_reducible refine HCL.out.mono ?_)
          rintro e w2 ⟨rfl, hx2, hu2⟩
          have HX2 := hid hx2
          have HU2 := hid (HU1.out.trans hu2)
          clear hx2 hu2 c1 c2 HX1 HU1 HCL HR
          go_wp2_with fail
          go_roundw
          case rel => exact ⟨k + 1, rfl, (by go_num), HLT.out, ⟨_, HX2, HT1⟩, HU2⟩
          case measure => have := HLT.out; simp [RowKit.intOf]; omega
    · obtain rfl : k = 5 := by omega
      go_wp2
      go_ret2
      refine ⟨?_, (But.of_below HW.out).trans HU.out⟩
      rw [HD.out, show (M.tq h).drop 5 = [] from rfl]
      exact ⟨rfl, HX.out⟩
end Go.Proofs.YtkpnhggpcpjddaaGreatDoor
