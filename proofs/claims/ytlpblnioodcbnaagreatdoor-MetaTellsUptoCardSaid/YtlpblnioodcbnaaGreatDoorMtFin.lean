/-
  What To told may come in to From.
-/
import Derived.Test.YtlpblnioodcbnaaGreatDoorMtFromZ
import Derived.Test.YtlpblnioodcbnaaGreatDoorMtFitZ
set_option linter.unusedVariables false
set_option linter.unusedSimpArgs false
namespace Go.Proofs.YtlpblnioodcbnaaGreatDoor
open Go.RowKit Go.Lib
open Px (R2 tl)

theorem isI64_le {n : Int} {k : Int} (h : 0 ≤ n ∧ n ≤ k) (hk : k ≤ 9223372036854775807) : isI64 n := by unfold isI64; omega
theorem isI64_0 : isI64 0 := by unfold isI64; omega
theorem min_plain {w : World} {m : M.Met} (f : Fit1 m) (hp : m.parts = []) (he : m.extra = []) : MIn w m (.slice none 0 0) (.slice none 0 0) where
  parts := ⟨none, 0, by rw [hp]; rfl, by rw [hp]; exact Sp.RdP.none_⟩
  extra := ⟨none, 0, by rw [he]; rfl, by rw [he]; exact Px.RdR.none_⟩
  nparts := by rw [hp]; exact Nat.zero_le _
  nextra := by rw [he]; exact Nat.zero_le _
  i64s := by rw [hp]; exact fun p hp => by cases hp
  fits := by rw [he]; exact fun r hr => by cases hr
  kind := f.kind
  texts := ⟨f.name, f.link, f.user, f.group⟩
  ints := ⟨f.mode, f.uid, f.gid, f.sec, f.nan, f.major, f.minor, f.sz, f.real⟩
theorem recs_len {l : List Px.M.Rc} (h : Px.M.printE l = 0) : l.length ≤ 1000 := by
  unfold Px.M.printE at h
  split at h
  · cases h
  · split at h
    · cases h
    · omega
theorem toH_parts (m : M.Met) : (M.toH m).parts = [] := by
  unfold M.toH
  split <;> rfl
theorem extract_le (s : ByteArray) (k : Nat) : (s.extract 0 k).size ≤ s.size := by
  rw [ByteArray.size_extract]; omega
theorem isI64_if {c : Bool} {n : Int} (h : isI64 n) : isI64 (if c = true then n else 0) := by
  split
  · exact h
  · exact isI64_0
theorem fin_to {w : World} {m : M.Met} (hf : ∀ r ∈ m.extra, r.1.size ≤ 1000000 ∧ r.2.size ≤ 1000000) {A : Option Addr} (hr : Px.RdR w w.heap.size A ((M.toR m).map M.mk)) :
    FIn w (M.toH m) (.slice none 0 0) ((M.toR m).map M.mk) [] [] [] A none none none := by
  have hp := toH_parts m
  have base : ∀ {h : M.Hdr}, M.toH m = h → (0 ≤ h.kind ∧ h.kind ≤ 255) → (h.pre.size + h.name.size < 1000000) → (h.link.size ≤ 1000000 ∧ h.user.size ≤ 1000000 ∧ h.group.size ≤ 1000000) →
      (isI64 h.mode ∧ isI64 h.uid ∧ isI64 h.gid ∧ isI64 h.major ∧ isI64 h.minor ∧ isI64 h.size ∧ isI64 h.real) → (M.toR m).length ≤ 1000 → (∀ r ∈ (M.toR m).map M.mk, r.1.size ≤ 1000000 ∧ r.2.size ≤ 1000000) →
      FIn w (M.toH m) (.slice none 0 0) ((M.toR m).map M.mk) [] [] [] A none none none := by
    rintro h rfl h1 h2 h3 h4 h5 h6
    exact {
      rparts := ⟨none, 0, by rw [hp]; rfl, by rw [hp]; exact Sp.RdP.none_⟩
      rrecs := hr
      rnames := fun hn => absurd hn (by simp)
      rlinks := fun hn => absurd hn (by simp)
      rmore := Sp.RdP.none_
      nparts := by rw [hp]; simp
      nrecs := by rw [List.length_map]; omega
      nnames := by simp
      fits := h6
      kind := h1
      pn := h2
      texts := h3
      tnames := ⟨fun x hx => (by cases hx), fun x hx => (by cases hx)⟩
      ints := h4
      i64s := ⟨by rw [hp]; exact (fun p hp => by cases hp), fun p hp => (by cases hp)⟩ }
  by_cases he : M.toE m = 0
  · have R := M.right_of (M.toE_wrong he)
    have hH : M.toH m = M.head m := by unfold M.toH; rw [if_pos he]
    have hR : M.toR m = M.recsOf m := by unfold M.toR; rw [if_pos he]
    have hE : Px.M.printE (M.recsOf m) = 0 := by
      have h := he
      unfold M.toE at h
      split at h
      · rename_i h1; exact absurd h h1
      · exact h
    have hroom := M.split_room m.name
    have hl : m.link.size ≤ 4096 := by
      have := R.link
      split at this <;> omega
    have dv : ∀ n : Int, (0 ≤ n ∧ n ≤ if M.isDev m.kind = true then 2097151 else 0) → isI64 n := by
      intro n hn
      unfold isI64
      split at hn <;> omega
    have sz : isI64 m.size := by
      have := R.size
      unfold isI64
      split at this <;> omega
    refine base hH ⟨by have := R.kind.1; show (0 : Int) ≤ m.kind; omega, by have := R.kind.2; show m.kind ≤ 255; omega⟩ ?_ ?_ ?_ ?_ ?_
    · show (M.split m.name).1.size + (M.split m.name).2.1.size < 1000000
      omega
    · have h1 := extract_le m.link 100
      have h2 := extract_le m.user 32
      have h3 := extract_le m.group 32
      have h4 := R.user
      have h5 := R.group
      exact ⟨show (m.link.extract 0 100).size ≤ _ by omega, show (m.user.extract 0 32).size ≤ _ by omega, show (m.group.extract 0 32).size ≤ _ by omega⟩
    · refine ⟨isI64_le R.mode (by decide), isI64_if (isI64_le R.uid (by decide)), isI64_if (isI64_le R.gid (by decide)), dv _ R.major, dv _ R.minor, isI64_if sz, isI64_0⟩
    · rw [hR]; exact recs_len hE
    · rw [hR]
      intro r hr
      obtain ⟨q, hq, rfl⟩ := List.mem_map.1 hr
      rcases M.merge_mem hq with h1 | h1
      · have := M.gives_short R q h1
        exact ⟨Nat.le_trans (show q.1.length ≤ 100 from this.1) (by decide), show q.2.length ≤ 1000000 from this.2⟩
      · obtain ⟨x, hx, rfl⟩ := List.mem_map.1 h1
        rw [M.mk_rc]
        exact hf x hx
  · have hH : M.toH m = {} := by unfold M.toH; rw [if_neg he]
    have hR : M.toR m = [] := by unfold M.toR; rw [if_neg he]
    refine base hH (by decide) (by decide) (by decide) ⟨isI64_0, isI64_0, isI64_0, isI64_0, isI64_0, isI64_0, isI64_0⟩ (by rw [hR]; exact Nat.zero_le _) (by rw [hR]; exact fun r hr => by cases hr)
theorem rcs_mk (l : List Px.M.Rc) : Px.rcs (l.map M.mk) = l := by
  unfold Px.rcs
  rw [List.map_map]
  exact List.map_id'' (fun r => M.rc_mk r) l
theorem others_eq (rs : List R2) : ((Px.rcs rs).filter fun r => !M.isKey r.1).map M.mk = rs.filter other := by
  unfold Px.rcs
  rw [List.filter_map, List.map_map]
  exact List.map_id'' (fun r => M.mk_rc r) _
theorem from_is {h : M.Hdr} {recs : List Px.M.Rc} {names links : List ByteArray} {more : List (Int × Int)} {m3 : M.Met} (hk : M.kindMay h.kind = true) (hn : M.known h recs names links more = some m3) :
    M.fromE h recs names links more = M.toE m3 ∧ M.fromM h recs names links more = if M.toE m3 = 0 then m3 else {} := by
  have hE : M.fromE h recs names links more = M.toE m3 := by unfold M.fromE; rw [if_neg (by rw [hk]; decide), hn]
  exact ⟨hE, by unfold M.fromM; rw [hE, hn]; rfl⟩
theorem ownP_setRow {w : World} {b g : Nat} {v : Value} {l : List (Int × Int)} (h : Sp.OwnP w b v l) (hg : g < b) (cs : Array Value) : Sp.OwnP (w.setRow g cs) b v l := by
  refine ⟨h.1, ?_⟩
  rcases h.2 with hn | ⟨g2, cap, cur, hv, hb, hr, rest⟩
  · exact .inl hn
  · exact .inr ⟨g2, cap, cur, hv, hb, (setRow_other w g g2 cs (by omega)).trans hr, rest⟩
theorem min_known {w : World} {b b2 c : Nat} {m2 : M.Met} {pv : Value} {rs : List R2} {A : Option Addr} (hm : Fit1 m2 ∧ m2.parts.length ≤ 1000000 ∧ Sp.M.i64s m2.parts) (hp : Sp.OwnP w b pv m2.parts)
    (ho : Px.OwnR w b2 (.slice A (rs.filter other).length c) (rs.filter other)) (hl : rs.length ≤ 500000) (hf : ∀ r ∈ rs, r.1.size ≤ 1000000 ∧ r.2.size ≤ 1000000) :
    MIn w { m2 with extra := rs.filter other } pv (.slice A (rs.filter other).length c) where
  parts := by
    obtain ⟨A2, c2, e, hr, _⟩ := hp.rd
    exact ⟨A2, c2, e, hr⟩
  extra := ⟨A, c, rfl, own_rd ho⟩
  nparts := hm.2.1
  nextra := Nat.le_trans (List.length_filter_le _ _) hl
  i64s := hm.2.2
  fits := fun r hr => hf r (List.mem_filter.1 hr).1
  kind := hm.1.kind
  texts := ⟨hm.1.name, hm.1.link, hm.1.user, hm.1.group⟩
  ints := ⟨hm.1.mode, hm.1.uid, hm.1.gid, hm.1.sec, hm.1.nan, hm.1.major, hm.1.minor, hm.1.sz, hm.1.real⟩
theorem MIn.at_ {w w' : World} {m : M.Met} {pv ev : Value} (h : MIn w m pv ev) (hp : ∃ A c, pv = .slice A m.parts.length c ∧ Sp.RdP w' w'.heap.size A m.parts.length m.parts) (he : ∃ A c, ev = .slice A m.extra.length c ∧ Px.RdR w' w'.heap.size A m.extra) : MIn w' m pv ev :=
  { h with parts := hp, extra := he }
end Go.Proofs.YtlpblnioodcbnaaGreatDoor
