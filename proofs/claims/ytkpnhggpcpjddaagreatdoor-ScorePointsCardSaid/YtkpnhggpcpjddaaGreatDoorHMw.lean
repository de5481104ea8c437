/-
  Texts of one chapter, merged.
-/
import Derived.Test.YtkpnhggpcpjddaaGreatDoorHMd
import Derived.Test.YtkpnhggpcpjddaaGreatDoorRows
import Derived.WalkKit
import Derived.ProofKit
import Derived.OpenShut
import Derived.ShutString
import Derived.ChangeOld
import Derived.ChangeSame
import Derived.LaidMore
import Derived.Lib.LaidTab
import Derived.MakeChecks
import Derived.Stop.LaidErr
import Derived.SizedLaws
set_option linter.unusedVariables false
set_option linter.unusedSimpArgs false
/-! What every frame of a tied row takes: the last step where all that was there reads as before, arguments that came in, and the table of texts out of what is laid. -/
namespace Go.Proofs.YtkpnhggpcpjddaaGreatDoor
open Go.RowKit Go.WideShapes Go.ChangeShapes

section
variable {H : Type} {enc : TypeId × Value → H} {P : Program}
/-- The row's last step, where the world below is as it was. -/
theorem post_of_below {f : Func} {s : ChangeSpec} {apart fresh handsOn again : Bool} {W W' : World} {args : Array Value} {v : Value} {ds gs : List (DataW H)} {before pa pv : List MemPlace}
    (hW : DataW.Whole enc P f.params.toList s.vars apart W args.toList ds gs before)
    (hres : ∀ (b : Nat) (sp : Nat → Bool) (hd : Bool), DataW.TrodAll enc P W' b sp hd f.resultTypes.toList (v.resultList f.resultTypes.size) (s.fn H (ds ++ gs)).results [])
    (hargs : ∀ sp : Nat → Bool, (∀ p ∈ before, sp p.block = true) → DataW.TrodAll enc P W' 0 sp true f.params.toList args.toList (s.fn H (ds ++ gs)).args pa)
    (hvars : ∀ sp : Nat → Bool, (∀ p ∈ before, sp p.block = true) → DataW.TrodVars enc P W' sp s.vars (s.fn H (ds ++ gs)).vars pv)
    (hps : before = pa ++ pv) (hb : Below W.heap.size W W')
    (hok : ∀ (j : Nat) (t : TypeId) (r : Value), f.resultTypes[j]? = some t → (v.resultList f.resultTypes.size)[j]? = some r → Value.okWide P W' .any 0 t r) :
    s.post enc P f apart fresh handsOn again W args v W' := by
  have hlt : ∀ p ∈ before, p.block < W.heap.size := fun p hp => hW.lt p hp
  have hold : ∀ p ∈ before, (fun b => decide (b < W.heap.size)) p.block = true := fun p hp => by simpa using hlt p hp
  refine ⟨ds, gs, before, [], pa, pv, hW, hres _ _ _, hargs _ hold, hvars _ hold, World.keptBut_mono (fun p hp => ⟨hp, ?_⟩) (hb.frame (· ∈ before)), fun _ => ?_⟩
  · rw [hps, List.mem_append] at hp
    exact Or.inr hp
  · obtain ⟨_, _, _, _, _, hz, hn⟩ := hW
    refine ⟨hok, _, _, ([] ++ pa) ++ pv, ⟨[] ++ pa, pv, trodAll_append (hargs _ (fun _ _ => rfl)) (hres _ _ _), hvars _ (fun _ _ => rfl), rfl, ?_, ?_⟩, ?_⟩
    · intro b off hp
      have hin : MemPlace.cell b off ∈ before := by rw [hps]; simpa using hp
      rw [hb.frozen (hlt _ hin)]
      exact hz b off hin
    · intro ha
      have := hn ha
      rw [hps] at this
      simpa using this
    · intro p hp _
      rw [hps]
      simpa using hp
end

/-- Bytes that came in. -/
theorem rd_of_row {w : World} {a : Option Addr} {len cap : Nat} {zs : List Int}
    (h : (a = none ∧ len = 0 ∧ cap = 0 ∧ zs = []) ∨
      ∃ x, a = some x ∧ len ≤ cap ∧ cap ≤ maxLen ∧ zs.length = cap ∧ (∀ i, i < zs.length → w.cell? (x.add i) = some (.int .u8 (zs.getD i 0))) ∧ ∀ n ∈ zs, (Lit.int .u8 n).wf = true) :
    Rd w w.heap.size a len (zs.take len) ∧ len ≤ cap ∧ cap ≤ maxLen := by
  rcases h with ⟨rfl, rfl, rfl, rfl⟩ | ⟨x, rfl, hl, hm, hz, hcell, hwz⟩
  · exact ⟨Rd.none_, Nat.le_refl _, Nat.zero_le _⟩
  · refine ⟨⟨by rw [List.length_take]; omega, fun z hz' => bounds_u8 (hwz z (List.mem_of_mem_take hz')), fun hn => ?_⟩, hl, hm⟩
    obtain ⟨b, off, spot⟩ := x
    have hc := hcell 0 (by omega)
    have hspot : spot = none := by simpa [Addr.add] using World.cell?_spot hc
    subst hspot
    have hb : b < w.heap.size := by
      have hc' := hc
      rw [show (⟨b, off, none⟩ : Addr).add 0 = ⟨b, off, none⟩ from by simp [Addr.add]] at hc'
      exact World.block_lt_of_cell? _ _ hc'
    refine ⟨b, off, rfl, hb, fun j z hj => ?_⟩
    rw [List.getElem?_take] at hj
    split at hj
    · rename_i hjl
      have hjz : j < zs.length := by omega
      have hcj := hcell j hjz
      have e : (⟨b, off, none⟩ : Addr).add j = ⟨b, off + j, none⟩ := by
        unfold Addr.add
        split
        · rename_i h0
          subst h0
          rfl
        · rfl
      rw [e, List.getD_eq_getElem?_getD, hj] at hcj
      exact hcj
    · cases hj


theorem mapM_len {α β : Type} {f : α → Option β} : ∀ {l : List α} {r : List β}, l.mapM f = some r → r.length = l.length
  | [], r, h => by cases h; rfl
  | x :: l, r, h => by
    rw [List.mapM_cons] at h
    obtain ⟨y, -, h⟩ := Option.mem_bind_iff.1 h
    obtain ⟨ys, hys, h⟩ := Option.mem_bind_iff.1 h
    cases h
    exact congrArg Nat.succ (mapM_len hys)
/-- An array of texts that reads as a table of texts holds them, cell for cell. -/
theorem cells_of_texts {H : Type} {enc : TypeId × Value → H} {P : Program} {w : World} {base : Nat} {sp : Nat → Bool} {held : Bool} {fuel : Nat} {t e : TypeId} {n : Nat} {cs : List Value} {ss : List (List UInt8)} {p : List MemPlace}
    (ht : P.underlying t = some (.array n e)) (he : P.underlying e = some .string) (hce : P.cellsOf e = 1) (hct : P.cellsOf t = n)
    (h : DataW.trod enc P w base sp held fuel t cs = some (.agg (ss.map fun s => .lit (.string s)), p)) : cs = ss.map fun s => Value.string ⟨s.toArray⟩ := by
  cases fuel with
  | zero => simp [DataW.trod] at h
  | succ fuel =>
    simp only [DataW.trod, ht, hce, hct, Nat.mul_one] at h
    split at h
    · rename_i hl
      obtain ⟨xs, hm, hx⟩ := Option.map_eq_some_iff.1 h
      have hxs : xs.map (·.1) = ss.map fun s => (DataW.lit (.string s) : DataW H) := by
        have := congrArg Prod.fst hx
        simpa using this
      have hxl : xs.length = n := by simpa using mapM_len hm
      have hzl : ss.length = n := by
        have := congrArg List.length hxs
        simp at this
        omega
      apply List.ext_getElem?
      intro i
      by_cases hi : i < n
      · obtain ⟨b, hb, hf⟩ := Lib.mapM_at hm i i (by simp [hi])
        obtain ⟨s, hc, rfl, _⟩ := DataW.trod_string he hf
        have h1 : cs[i]? = some (.string s) := by
          have := congrArg (·[0]?) hc
          simpa [List.getElem?_take, List.getElem?_drop] using this
        have h2 : (xs.map (·.1))[i]? = some (DataW.lit (.string s.data.toList) : DataW H) := by simp [hb]
        rw [hxs] at h2
        simp only [List.getElem?_map, Option.map_eq_some_iff, DataW.lit.injEq, Lit.string.injEq] at h2
        obtain ⟨s', hs', e'⟩ := h2
        rw [h1, List.getElem?_map, hs', e']
        rfl
      · rw [List.getElem?_eq_none (by omega), List.getElem?_eq_none (by simp; omega)]
    · cases h
/-- The magics, out of what is laid. -/
theorem mg_of (w : World) (laid rest : List (String × DataW Unit))
    (hl : laid = ("mudlark/head.magics", .agg (([[0, 0, 0, 0, 0, 0, 0, 0], [117, 115, 116, 97, 114, 0, 48, 48], [117, 115, 116, 97, 114, 32, 32, 0]] : List (List UInt8)).map fun s => .lit (.string s))) :: rest)
    (hn : (laid.all fun x => x.2.handleName?.isNone) = true) (h : laidMetH Tryz.prog laid w) : MG w := by
  rw [MakeChecks.laidMetH_plain _ _ _ hn, hl] at h
  obtain ⟨ps, ⟨g', t', cs, fuel, p, q, hg', ht', hvar, hd, _, _⟩, _⟩ := h
  have hg : Tryz.prog.globalNamed "mudlark/head.magics" = some 0 := by kernel_rfl
  have hty : (Tryz.prog.globals[0]?).map (·.type) = some 94 := by kernel_rfl
  obtain rfl := Option.some.inj (hg.symm.trans hg')
  obtain rfl := Option.some.inj (hty.symm.trans ht')
  have hcs := cells_of_texts Tryz.underlying94 Tryz.underlying9 (by kernel_rfl) (by kernel_rfl) hd
  have hc := fun off => World.var?_cell hg hvar off
  have hx := fun off => (hc off).trans (show cs[off]? = _ by rw [← Array.getElem?_toList, hcs])
  exact ⟨(hx 0).trans rfl, (hx 1).trans rfl, (hx 2).trans rfl⟩
end Go.Proofs.YtkpnhggpcpjddaaGreatDoor

/-! The magics, out of what is laid, where something else is laid first. -/
namespace Go.Proofs.YtkpnhggpcpjddaaGreatDoor
open Go.RowKit Go.WideShapes Go.ChangeShapes

/-- The magics, out of what is laid. -/
theorem mg_of1 (w : World) (laid rest : List (String × DataW Unit)) (a : String × DataW Unit)
    (hl : laid = a :: ("mudlark/head.magics", .agg (([[0, 0, 0, 0, 0, 0, 0, 0], [117, 115, 116, 97, 114, 0, 48, 48], [117, 115, 116, 97, 114, 32, 32, 0]] : List (List UInt8)).map fun s => .lit (.string s))) :: rest)
    (hn : (laid.all fun x => x.2.handleName?.isNone) = true) (h : laidMetH Tryz.prog laid w) : MG w := by
  rw [MakeChecks.laidMetH_plain _ _ _ hn, hl] at h
  replace h := laidMet.tail h
  obtain ⟨ps, ⟨g', t', cs, fuel, p, q, hg', ht', hvar, hd, _, _⟩, _⟩ := h
  have hg : Tryz.prog.globalNamed "mudlark/head.magics" = some 0 := by kernel_rfl
  have hty : (Tryz.prog.globals[0]?).map (·.type) = some 94 := by kernel_rfl
  obtain rfl := Option.some.inj (hg.symm.trans hg')
  obtain rfl := Option.some.inj (hty.symm.trans ht')
  have hcs := cells_of_texts Tryz.underlying94 Tryz.underlying9 (by kernel_rfl) (by kernel_rfl) hd
  have hc := fun off => World.var?_cell hg hvar off
  have hx := fun off => (hc off).trans (show cs[off]? = _ by rw [← Array.getElem?_toList, hcs])
  exact ⟨(hx 0).trans rfl, (hx 1).trans rfl, (hx 2).trans rfl⟩
theorem reach_of {k : IntKind} {zs : List Int} {l c n : Nat} {H : Type} (hz : zs.length = c) (hq : ((lits (H := H) k (zs.take l)).length + (lits (H := H) k (zs.drop l)).length) * n ≤ reachBytes) (hn : n = 1) : c ≤ reachBytes := by
  rw [hn, Nat.mul_one] at hq
  unfold lits at hq
  rw [List.length_map, List.length_map, List.length_take, List.length_drop] at hq
  omega
theorem reach_small {a b : Nat} (h : a ≤ b) (h' : b ≤ reachBytes) : a ≤ 140737488355328 := by
  have : reachBytes < 2 ^ 47 := reachBytes_lt
  omega
end Go.Proofs.YtkpnhggpcpjddaaGreatDoor
