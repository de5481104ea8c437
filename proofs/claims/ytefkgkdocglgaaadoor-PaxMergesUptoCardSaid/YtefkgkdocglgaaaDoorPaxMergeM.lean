/-
  What a map of texts holds, in terms of the records that were laid in it; the records of its sorted keys.
-/
import Derived.Test.YtefkgkdocglgaaaDoorPaxMerge
import Derived.Test.YtefkgkdocglgaaaDoorPaxMem
import Derived.Sort.KeysCollected
import Derived.Maps.Own
import Derived.Maps.Views
namespace Go.Proofs.YtefkgkdocglgaaaDoor
open Go.RowKit Go.Maps

def ltB (x y : List UInt8) : Bool := decide (x < y)
theorem ltB_ord : M.Ord ltB where
  irr a := by unfold ltB; simp
  tr a b c h1 h2 := by
    unfold ltB at *
    simp only [decide_eq_true_eq] at *
    exact List.lt_trans h1 h2
  tot a b h1 h2 := by
    unfold ltB at *
    simp only [decide_eq_false_iff_not] at *
    exact List.le_antisymm (List.not_lt.1 h2) (List.not_lt.1 h1)

/-- D holds the last values of the records p, by their keys. -/
def DF (D : DataW Unit) (p : List R2) : Prop :=
  IsMap D ∧ (∀ k, D.atKey (.string k) (.lit (.string [])) = .lit (.string ((M.find (rcs p) k).getD []))) ∧ ∀ k, has D (.string k) = (M.find (rcs p) k).isSome
theorem DF.nil : DF (.map []) [] := ⟨isMap_empty, fun _ => rfl, fun _ => rfl⟩
theorem DF.put {D : DataW Unit} {p : List R2} (h : DF D p) (r : R2) : DF (D.put (.string (tl r.1)) (.lit (.string (tl r.2)))) (p ++ [r]) := by
  have e : rcs (p ++ [r]) = rcs p ++ [rc r] := by simp [rcs]
  refine ⟨?_, fun k => ?_, fun k => ?_⟩
  · obtain ⟨es, rfl⟩ := h.1
    exact ⟨_, rfl⟩
  · rw [e, M.find_snoc]
    by_cases hk : tl r.1 = k
    · subst hk
      rw [atKey_put_same h.1 (k := .string (tl r.1)) trivial]
      simp [rc]
    · rw [atKey_put_other (fun e' => hk (by injection e' with e'; exact e'.symm)), h.2.1]
      simp [rc, hk]
  · rw [e, M.find_snoc]
    by_cases hk : tl r.1 = k
    · subst hk
      rw [has_put_same h.1 (k := .string (tl r.1)) trivial]
      simp [rc]
    · rw [has_put_other (fun e' => hk (by injection e' with e'; exact e'.symm)), h.2.2]
      simp [rc, hk]

section
variable {H : Type} {P : Program} {k : TypeId} {R : Value → Option (DataW H × List MemPlace)} {w : World} {b n : Nat} {D : DataW H}
theorem mem_strKeys (hown : w.ownsMap P k R b n D) (hk : P.underlying k = some .string) (x : List UInt8) : x ∈ strKeys D ↔ has D (.string x) = true := by
  obtain ⟨es, rfl, hko⟩ := hown.keysOf
  have hk' : ∀ p ∈ es, ∃ x, p.1 = .string x := fun p hp => by obtain ⟨v, hv⟩ := hko p hp; obtain ⟨x, _, hx, _⟩ := Maps.keyOf_str hk hv; exact ⟨x, hx⟩
  rw [has_eq, List.any_eq_true]
  show x ∈ es.map (fun p => Go.strOf p.1) ↔ _
  rw [List.mem_map]
  constructor
  · rintro ⟨p, hp', rfl⟩
    obtain ⟨a, ha⟩ := hk' p hp'
    exact ⟨p, hp', by rw [ha]; simp [Lit.sameKey, Go.strOf]⟩
  · rintro ⟨p, hp', hs⟩
    obtain ⟨a, ha⟩ := hk' p hp'
    rw [ha] at hs
    exact ⟨p, hp', by rw [ha]; simpa [Lit.sameKey, Go.strOf] using hs⟩
theorem nodup_strKeys (hown : w.ownsMap P k R b n D) (hk : P.underlying k = some .string) : (strKeys D).Nodup := by
  obtain ⟨es, rfl, hko⟩ := hown.keysOf
  obtain ⟨es', hD', hpw, _⟩ := hown.entries (string_keyed hk)
  obtain rfl : es = es' := by simpa using hD'
  have hk' : ∀ p ∈ es, ∃ x, p.1 = .string x := fun p hp => by obtain ⟨v, hv⟩ := hko p hp; obtain ⟨x, _, hx, _⟩ := Maps.keyOf_str hk hv; exact ⟨x, hx⟩
  show (es.map fun p => Go.strOf p.1).Nodup
  refine List.pairwise_map.2 (hpw.imp_of_mem fun {p q} hp' hq' hne e => hne ?_)
  obtain ⟨a, ha⟩ := hk' p hp'
  obtain ⟨b, hb⟩ := hk' q hq'
  rw [ha, hb] at e ⊢
  exact congrArg _ e
end

theorem sorted_lt {ss : List (List UInt8)} (h : ss.Nodup) : (ss.mergeSort leB).Pairwise (fun a b => ltB a b = true) := by
  have tr : ∀ a b c : List UInt8, leB a b = true → leB b c = true → leB a c = true := fun a b c h1 h2 => by simp only [leB, decide_eq_true_eq] at *; exact List.le_trans h1 h2
  have to : ∀ a b : List UInt8, (leB a b || leB b a) = true := fun a b => by simp only [leB, Bool.or_eq_true, decide_eq_true_eq]; exact List.le_total a b
  have h1 := List.pairwise_mergeSort tr to ss
  have h2 : (ss.mergeSort leB).Nodup := (List.mergeSort_perm ss leB).nodup_iff.2 h
  refine (h1.and h2).imp fun {a b} hab => ?_
  obtain ⟨hle, hne⟩ := hab
  unfold ltB
  simp only [leB, decide_eq_true_eq] at hle ⊢
  exact Classical.byContradiction fun hn => hne (List.le_antisymm hle (List.not_lt.1 hn))

/-- A key's record. -/
def pick (L : List M.Rc) (k : List UInt8) : M.Rc := (k, (M.find L k).getD [])
theorem rising_keys (L : List M.Rc) : ∀ {ks : List (List UInt8)}, ks.Pairwise (fun a b => ltB a b = true) → M.Rising ltB (ks.map (pick L))
  | [], _ => trivial
  | x :: ks, h => by
    obtain ⟨h1, h2⟩ := List.pairwise_cons.1 h
    refine ⟨fun y hy => ?_, rising_keys L h2⟩
    obtain ⟨z, hz, rfl⟩ := List.mem_map.1 hy
    exact h1 z hz
theorem find_keys (L : List M.Rc) (k : List UInt8) : ∀ ks : List (List UInt8), M.find (ks.map (pick L)) k = if k ∈ ks then some ((M.find L k).getD []) else none
  | [] => rfl
  | x :: ks => by
    rw [List.map_cons, M.find_cons, find_keys L k ks]
    by_cases h1 : k ∈ ks
    · simp [h1]
    · by_cases h2 : x = k
      · subst h2; simp [h1, pick]
      · have h3 : ¬ k = x := fun e => h2 e.symm
        simp [h1, h2, h3, pick]
theorem merge_keys {L : List M.Rc} {ks : List (List UInt8)} (hp : ks.Pairwise (fun a b => ltB a b = true)) (hm : ∀ k, k ∈ ks ↔ (M.find L k).isSome = true) : (ks.map (pick L)).filter M.hasValue = M.merge ltB L [] := by
  refine M.rising_ext ltB_ord (M.rising_filter _ (rising_keys L hp)) (M.merge_rising ltB_ord _ _) fun k => ?_
  rw [M.find_filter ltB_ord (rising_keys L hp), find_keys, M.find_merge ltB_ord, M.find_nil, Option.none_or]
  congr 1
  have := hm k
  cases hf : M.find L k with
  | none => rw [hf] at this; simp [this]
  | some v => rw [hf] at this; simp [this]

theorem plainString_inv {H : Type} {P : Program} {e : TypeId} (he : P.underlying e = some .string) {v : Value} {z : DataW H × List MemPlace} (h : plainElem P e v = some z) : ∃ s : ByteArray, v = .string s ∧ z.1 = .lit (.string (tl s)) ∧ s.size ≤ maxLen := by
  cases v <;> simp [plainElem, he] at h
  rename_i s
  obtain ⟨hs, rfl⟩ := h
  exact ⟨s, rfl, rfl, hs⟩
theorem size_le {H : Type} {P : Program} {k : TypeId} {R : Value → Option (DataW H × List MemPlace)} {w : World} {b n : Nat} {D : DataW H} (h : w.ownsMap P k R b n D) : Maps.size D ≤ n := by
  obtain ⟨es, clock, _, _, hs, rfl⟩ := h
  show ((es.toList.map _).foldr DataW.insert []).length ≤ n
  rw [length_sorted]
  simpa using hs
theorem ownsMap_below {H : Type} {P : Program} {k : TypeId} {R : Value → Option (DataW H × List MemPlace)} {w w' : World} {b n B : Nat} {D : DataW H} (h : w.ownsMap P k R b n D) (hb : Below B w w') (hB : b < B) : w'.ownsMap P k R b n D := by
  obtain ⟨es, clock, h1, F, hs, hD⟩ := h
  exact ⟨es, clock, (hb.block b hB).trans h1, F, hs, hD⟩

/-- A row of texts that is read. -/
def RdS (w : World) (B : Nat) (A : Option Addr) (ks : List (List UInt8)) : Prop :=
  0 < ks.length → ∃ b off, A = some ⟨b, off, none⟩ ∧ b < B ∧ ∀ k x, ks[k]? = some x → w.cell? ⟨b, off + k, none⟩ = some (.string ⟨x.toArray⟩)
theorem RdS.below {w w' : World} {B : Nat} {A : Option Addr} {ks : List (List UInt8)} (h : RdS w B A ks) (hb : Below B w w') : RdS w' B A ks := fun hn => by
  obtain ⟨b, off, e, hbb, hc⟩ := h hn
  exact ⟨b, off, e, hbb, fun k x hk => (hb.cell (p := ⟨b, off + k, none⟩) hbb).trans (hc k x hk)⟩
theorem RdS.at_ {w : World} {B : Nat} {A : Option Addr} {ks : List (List UInt8)} (h : RdS w B A ks) {k : Nat} (hk : k < ks.length) : ∃ b off, A = some ⟨b, off, none⟩ ∧ b < B ∧ w.cell? ⟨b, off + k, none⟩ = some (.string ⟨ks[k].toArray⟩) := by
  obtain ⟨b, off, e, hbb, hc⟩ := h (by omega)
  exact ⟨b, off, e, hbb, hc k _ (List.getElem?_eq_getElem hk)⟩
theorem row_rd {w : World} {base n : Nat} {t : TypeId} {v : Value} {ks : List (List UInt8)} (h : w.ownsRow base t 1 v n (ks.map Go.Proofs.encStr)) : ∃ A c, v = .slice A n c ∧ RdS w w.heap.size A ks ∧ ks.length = n ∧ n ≤ c ∧ c ≤ maxLen := by
  have hl : ks.length = n := by have := h.1; simpa using this
  rcases h.2 with ⟨hv, h0⟩ | ⟨g, cap, cur, hv, hb, hh, hnc, hcm, hcs, htk⟩
  · subst h0
    exact ⟨none, 0, hv, fun h => absurd h (by omega), hl, Nat.le_refl _, Nat.zero_le _⟩
  · refine ⟨_, cap, hv, fun _ => ⟨g, 0, rfl, (Array.getElem?_eq_some_iff.1 hh).1, fun k x hk => ?_⟩, hl, hnc, hcm⟩
    have hcell := Go.World.ownsRow.cells h (g := g) (by rw [hv]; rfl)
    have h1 := hcell k (Go.Proofs.encStr x) (by rw [List.getElem?_map, hk]; rfl)
    rw [add_mk] at h1
    exact h1
end Go.Proofs.YtefkgkdocglgaaaDoor
