/-
  What records and headers tell is of a size that meta.To may be asked of.
-/
import Derived.Test.YtbhpedhdhgjkoaaGreatDoorMtFromM
set_option linter.unusedVariables false
set_option linter.unusedSimpArgs false
namespace Go.Proofs.YtbhpedhdhgjkoaaGreatDoor
open Go.RowKit Go.Lib
open Px (R2 tl)

def isI64 (n : Int) : Prop := -9223372036854775808 ≤ n ∧ n ≤ 9223372036854775807
/-- Numbers and texts of what is known. -/
structure Fit1 (m : M.Met) : Prop where
  kind : 0 ≤ m.kind ∧ m.kind ≤ 255
  name : m.name.size ≤ 1000000
  link : m.link.size ≤ 1000000
  user : m.user.size ≤ 1000000
  group : m.group.size ≤ 1000000
  mode : isI64 m.mode
  uid : isI64 m.uid
  gid : isI64 m.gid
  sec : isI64 m.sec
  nan : isI64 m.nan
  major : isI64 m.major
  minor : isI64 m.minor
  sz : isI64 m.size
  real : isI64 m.real
theorem find_len : ∀ {r : List Px.M.Rc} {k v : List UInt8}, (∀ x ∈ r, x.2.length ≤ 1000000) → Px.M.find r k = some v → v.length ≤ 1000000
  | [], k, v, _, h => by rw [Px.M.find_nil] at h; cases h
  | x :: r, k, v, hr, h => by
    have ih := find_len (r := r) (k := k) (v := v) (fun y hy => hr y (List.mem_cons_of_mem _ hy))
    rw [Px.M.find_cons] at h
    cases hf : Px.M.find r k with
    | none =>
      rw [hf] at h
      by_cases hk : x.1 = k
      · rw [if_pos hk] at h
        cases h
        exact hr x List.mem_cons_self
      · rw [if_neg hk] at h
        cases h
    | some u =>
      rw [hf] at h
      cases h
      exact ih hf
theorem dec_range {t : List UInt8} {most n : Int} (h : M.dec t most = some n) : 0 ≤ n ∧ n ≤ most := by
  unfold M.dec at h
  split at h
  · split at h
    · rename_i hh
      cases h
      have := hh.1
      unfold M.within at this
      simpa using this
    · cases h
  · cases h
theorem norm_range (t : St.M.Tm) : isI64 (St.M.norm t).1 ∧ isI64 (St.M.norm t).2 := by
  have h := St.M.norm_ok t
  have := h.s1
  have := h.s2
  have := h.n1
  have := h.n2
  unfold isI64
  omega
theorem fit_step {r : List Px.M.Rc} {i : Nat} {m m' : M.Met} (hr : ∀ x ∈ r, x.2.length ≤ 1000000) (h : Fit1 m) (hs : stepM r i m = some m') : Fit1 m' := by
  unfold stepM at hs
  cases hf : Px.M.find r (tl (key i)) with
  | none =>
    rw [hf] at hs
    cases hs
    exact h
  | some v =>
    rw [hf] at hs
    have hl : ByteArray.size ⟨v.toArray⟩ ≤ 1000000 := by
      have := find_len hr hf
      show v.toArray.size ≤ _
      simpa using this
    dsimp only at hs
    split at hs
    · rename_i hok
      cases hs
      have hn : ∀ most, most ≤ 4611686018427387904 → 0 ≤ most → isI64 ((M.dec (tl ⟨v.toArray⟩) most).getD 0) := by
        intro most h1 h2
        cases hd : M.dec (tl ⟨v.toArray⟩) most with
        | none => unfold isI64; simp
        | some n =>
          have := dec_range hd
          unfold isI64
          simp only [Option.getD_some]
          omega
      match i with
      | 0 => exact { h with name := hl }
      | 1 => exact { h with link := hl }
      | 2 => exact { h with user := hl }
      | 3 => exact { h with group := hl }
      | 4 => exact { h with uid := hn _ (by decide) (by decide) }
      | 5 => exact { h with gid := hn _ (by decide) (by decide) }
      | 6 => exact { h with sz := hn _ (by decide) (by decide) }
      | k + 7 => exact { h with sec := (norm_range _).1, nan := (norm_range _).2 }
    · cases hs
theorem fit_strip {m : M.Met} (h : Fit1 m) : Fit1 (M.strip m) := by
  have hk : 0 ≤ M.kindOf m ∧ M.kindOf m ≤ 255 := by
    have := h.kind
    unfold M.kindOf
    constructor <;> (repeat' split) <;> omega
  have z : isI64 0 := by unfold isI64; omega
  have hz : isI64 (M.strip m).size := by
    unfold M.strip
    dsimp only
    split
    · exact h.sz
    · exact z
  refine { h with kind := hk, link := ?_, major := ?_, minor := ?_, sz := hz, real := ?_ }
  · unfold M.strip
    dsimp only
    split
    · exact h.link
    · decide
  · unfold M.strip
    dsimp only
    split
    · exact h.major
    · exact z
  · unfold M.strip
    dsimp only
    split
    · exact h.minor
    · exact z
  · exact hz
theorem fit_told {h : M.Hdr} {names links : List ByteArray} (hk : 0 ≤ h.kind ∧ h.kind ≤ 255) (hpn : h.pre.size + h.name.size < 1000000) (hl : h.link.size ≤ 1000000) (hu : h.user.size ≤ 1000000) (hg : h.group.size ≤ 1000000)
    (hns : ∀ x ∈ names, x.size ≤ 1000000) (hls : ∀ x ∈ links, x.size ≤ 1000000) (h1 : isI64 h.mode) (h2 : isI64 h.uid) (h3 : isI64 h.gid) (h4 : isI64 h.major) (h5 : isI64 h.minor) (h6 : isI64 h.size) : Fit1 (M.told h names links) := by
  have z : isI64 0 := by unfold isI64; omega
  have hlast : ∀ (l : List ByteArray) (o : ByteArray), (∀ x ∈ l, x.size ≤ 1000000) → o.size ≤ 1000000 → (M.lastOf l o).size ≤ 1000000 := by
    intro l o hl ho
    unfold M.lastOf
    cases hq : l.getLast? with
    | none => exact ho
    | some x => exact hl x (List.mem_of_getLast? hq)
  have hnm : (M.nameOf h).size ≤ 1000000 := by
    unfold M.nameOf
    split
    · omega
    · simp only [ByteArray.size_append]
      have : ByteArray.size ⟨#[47]⟩ = 1 := rfl
      omega
  exact { kind := hk, name := hlast _ _ hns hnm, link := hlast _ _ hls hl, user := hu, group := hg, mode := h1, uid := h2, gid := h3, sec := (norm_range _).1, nan := (norm_range _).2, major := h4, minor := h5, sz := h6, real := z }
theorem nums_range : ∀ {ts : List (List UInt8)} {ns : List Int}, Sp.M.nums ts = some ns → ∀ n ∈ ns, isI64 n
  | [], ns, h, n, hn => by
    cases h
    cases hn
  | t :: ts, ns, h, n, hn => by
    unfold Sp.M.nums at h
    cases ht : Sp.M.numOf t with
    | none => rw [ht] at h; cases h
    | some v =>
      rw [ht] at h
      dsimp only at h
      cases hr : Sp.M.nums ts with
      | none => rw [hr] at h; cases h
      | some l =>
        rw [hr] at h
        cases h
        rcases List.mem_cons.1 hn with rfl | hm
        · cases ha : Lib.atoiAll t with
          | ok u =>
            rw [Sp.M.numOf_ok ha] at ht
            split at ht
            · cases ht
              exact Lib.atoiAll_bounds ha
            · cases ht
          | _ => rw [Sp.M.numOf_err (fun u hu => by rw [ha] at hu; cases hu)] at ht; cases ht
        · exact nums_range hr n hm
theorem pairs_range : ∀ {ns : List Int}, (∀ n ∈ ns, isI64 n) → Sp.M.i64s (Sp.M.pairs ns)
  | [], _ => fun p hp => by cases hp
  | [_], _ => fun p hp => by cases hp
  | a :: b :: l, h => fun p hp => by
    rw [Sp.M.pairs] at hp
    rcases List.mem_cons.1 hp with rfl | hm
    · exact ⟨h a (by simp), h b (by simp)⟩
    · exact pairs_range (ns := l) (fun n hn => h n (by simp [hn])) p hm
theorem parse_range {s : List UInt8} {l : List (Int × Int)} (h : Sp.M.parse s = some l) : Sp.M.i64s l := by
  unfold Sp.M.parse at h
  split at h
  · cases h
    exact fun p hp => by cases hp
  · cases hn : Sp.M.nums (Sp.M.cuts s) with
    | none => rw [hn] at h; cases h
    | some ns =>
      rw [hn, Sp.M.parseN_some] at h
      split at h
      · cases h
      · cases h
        exact pairs_range (nums_range hn)
theorem some_range {l : List (Int × Int)} (h : Sp.M.i64s l) : Sp.M.i64s (M.some_ l) := fun p hp => h p (List.mem_filter.1 hp).1
theorem some_len {l : List (Int × Int)} {n : Nat} (h : l.length ≤ n) : (M.some_ l).length ≤ n := Nat.le_trans (List.length_filter_le _ _) h
theorem fit_dig {m m' : M.Met} {h : M.Hdr} {r : List Px.M.Rc} {more : List (Int × Int)} (hm : Fit1 m) (hp : m.parts = []) (h1 : Sp.M.i64s h.parts) (h2 : Sp.M.i64s more) (hl : h.parts.length + more.length ≤ 1000000) (hr : isI64 h.real)
    (hd : M.dig m h r more = some m') : Fit1 m' ∧ m'.parts.length ≤ 1000000 ∧ Sp.M.i64s m'.parts ∧ m'.extra = m.extra := by
  have hm0 : Fit1 m ∧ m.parts.length ≤ 1000000 ∧ Sp.M.i64s m.parts ∧ m.extra = m.extra := ⟨hm, by rw [hp]; simp, by rw [hp]; exact (fun p hq => by cases hq), rfl⟩
  unfold M.dig at hd
  split at hd
  · split at hd
    · split at hd
      · cases hd
        refine ⟨{ hm with real := hr }, some_len (by rw [List.length_append]; exact hl), some_range (fun p hp => ?_), rfl⟩
        rcases List.mem_append.1 hp with ha | hb
        · exact h1 p ha
        · exact h2 p hb
      · cases hd
        exact hm0
    · split at hd
      · rename_i l n hl hn
        cases hd
        have hq := dec_range hn
        refine ⟨{ hm with real := ?_ }, some_len (parse_len hl), some_range (parse_range hl), rfl⟩
        unfold isI64
        dsimp only
        omega
      · cases hd
    · cases hd
  · cases hd
    exact hm0
end Go.Proofs.YtbhpedhdhgjkoaaGreatDoor
