/-
  The method that yields the pieces: what its value is worth as an iterator.
-/
import Derived.Test.YteneknmbddnkaaaMedNext
import Derived.Test.YteneknmbddnkaaaMedRange
namespace Go.Proofs.Yteneknmbddnkaaa
open Go.RowKit Go.Shelf Go.Lib
attribute [local go_sem] Oper.semAt_some

/-- A piece: the slice, and its bytes. -/
abbrev Pc := Value × List Int
def bytesOf (xs : List Pc) : List Int := (xs.map Prod.snd).flatten
theorem bytesOf_snoc (xs : List Pc) (x : Pc) : bytesOf (xs ++ [x]) = bytesOf xs ++ x.2 := by simp [bytesOf]

/-- What a round may know: the last piece lies in a row of its own; the bytes so far are ahead in what is left. -/
def PcKnown (zs : List Int) (p0 : Nat) (B : Nat) (xs : List Pc) (W : World) : Prop :=
  (∀ x, xs.getLast? = some x → OwnY W B x.1 x.2) ∧ bytesOf xs <+: zs.drop p0
/-- What is behind all of them. -/
def PcDone (g : Nat) (zs bad ss : List Int) (p0 : Nat) (xs : List Pc) (W : World) : Prop :=
  bytesOf xs = zs.drop p0 ∧ ∃ t, Med W g zs bad ss zs.length t
/-- The blocks below the medium's own are as they were. -/
def Lower (W0 : World) (g : Nat) (A : World) : Prop := ∀ k, k < g → A.heap[k]? = W0.heap[k]?

theorem take_piece (zs : List Int) (p0 p q : Nat) (h : p0 ≤ p) : (zs.drop p0).take (p - p0) ++ M.pbytes zs p q = (zs.drop p0).take (p + q - p0) := by
  unfold M.pbytes
  rw [show p + q - p0 = (p - p0) + q by omega, List.take_add, List.drop_drop, show p0 + (p - p0) = p by omega]

theorem pc_known {zs : List Int} {p0 p q B : Nat} {pre : List Pc} {v : Value} {W : World} (hb : bytesOf pre = (zs.drop p0).take (p - p0)) (hpp : p0 ≤ p) (hq : p + q ≤ zs.length) (hv : OwnY W B v (M.pbytes zs p q)) : PcKnown zs p0 B (pre ++ [(v, M.pbytes zs p q)]) W := by
  refine ⟨fun x hx => ?_, ?_⟩
  · rw [List.getLast?_append] at hx
    simp at hx
    subst hx
    exact hv
  · rw [bytesOf_snoc, hb, take_piece zs p0 p q hpp]
    exact List.take_prefix _ _
def placeOf (zs : List Int) : Option Value → Nat
  | some (.int _ p) => zs.length - p.toNat
  | _ => 0

set_option maxRecDepth 100000 in
set_option maxHeartbeats 2000000 in
theorem pieces_iter (g : Nat) (zs bad ss : List Int) (p0 t0 : Nat) (W0 : World) :
    IterP Try.prog 33 #[.pointer (some ⟨g, 0, none⟩)] (fun x : Pc => #[x.1]) (fun k => k = g) 0
      (PcDone g zs bad ss p0) (fun _ => True) (PcKnown zs p0) (fun W => Med W g zs bad ss p0 t0 ∧ Lower W0 g W) (Lower W0 g) := by
  intro n l J Jx W hok hJ hJx hY hK h0
  have hp0 := hok.1.place
  refine callsIn_of_wp Try.func33 rfl trivial ?_ rfl
  simp only [Try.ntmps33, List.size_toArray, List.length_cons, List.length_nil, Nat.reduceAdd, Nat.reduceSub, Array.replicate_succ, Array.replicate_zero, List.push_toArray, List.append_toArray, List.nil_append, List.cons_append, Array.append_empty]
  gi_wp2_with fail
  gi_loopw [4, 5] (fun _ _ wr => ∃ pre p t, Med wr g zs bad ss p t ∧ p0 ≤ p ∧ bytesOf pre = (zs.drop p0).take (p - p0) ∧ J pre wr ∧ W.heap.size ≤ wr.heap.size) (fun _ _ wr => placeOf zs (wr.cell? ⟨g, 3, none⟩))
  case atStart => exact ⟨[], p0, t0, hok.1, Nat.le_refl _, by rw [Nat.sub_self, List.take_zero]; rfl, h0, Nat.le_refl _⟩
  case round =>
    obtain ⟨pre, p, t, hM, hpp, hby, hj, hsz⟩ := hrel
    have hpl := hM.place
    have hMlt := hM.lt
    have c3r := hM.c3
    by_cases hlt : p < zs.length
    · have HRD := hid (read_some g zs bad ss p t wr hM hlt)
      have hq0 := M.pc_pos ss t (left := zs.length - p) (by omega)
      have hq1 := M.pc_le ss t (zs.length - p)
      unfold ReadPost at HRD
      have HU : Hid (u8s zs) := hid (by obtain ⟨⟨A, c, A1, c1, A2, c2, hx, hr, _⟩, _⟩ := hM; exact hr.bd)
      generalize (t + 1) % ss.length = t' at *
      generalize M.pc ss t (zs.length - p) = q at *
      have HJ := hid hj
      have HBY := hid hby
      have HLT : Hid (p < zs.length) := hid hlt
      clear hj hby hM h0 hok hlt hpl
      gi_wp2_with (first
        | (refine ⟨trivial, noDepth, ?_⟩; gi_at_call 14; refine (callsIn_wide.2 HRD.out).mono ?_; rintro e w2 ⟨v, rfl, hv, hm2, g2⟩
           obtain ⟨fn, tmps, assign, body, hy, hR⟩ := hY (n - 1) pre (v, M.pbytes zs p q) w2 (hJ _ _ _ HJ.out (Turned.grown g2 (fun r e => by injection e with e; exact .inl e.symm))) (by have := g2.size; omega)
             (pc_known HBY.out hpp (by omega) (ownsRow_lower hv hsz))
           have HM2 := hid hm2
           have HG2 := hid g2
           clear hv hm2 g2))
      refine ⟨noDepth, ?_⟩
      refine hR.mono ?_
      rintro e W' ⟨hsp, ⟨rfl, hj'⟩ | ⟨rfl, hj'⟩⟩
      · have hlow := hK _ _ hj'
        have hlow0 := hK _ _ HJ.out
        have hm3 : Med W' g zs bad ss (p + q) t' := HM2.out.kept (fun k hk => by
          rcases Nat.lt_or_ge k g with h | h
          · rw [hlow k h, ← hlow0 k h]
            exact (HG2.out.block k (by have := HM2.out.lt; have := hMlt; omega) (fun e => by injection e with e; omega)).symm
          · obtain rfl : k = g := by omega
            exact hsp.block k (.inl rfl) HM2.out.lt)
        have c3' := hm3.c3
        have HM3 := hid hm3
        have HJ3 := hid hj'
        have hs3 := hsp.size
        have hg3 := HG2.out.size
        clear hm3 hj' hlow hlow0 hsp
        gi_wp2
        refine ⟨⟨pre ++ [(v, M.pbytes zs p q)], p + q, t', HM3.out, by omega, ?_, HJ3.out, by omega⟩, ?_⟩
        · rw [bytesOf_snoc, HBY.out]
          exact take_piece zs p0 p q hpp
        · rw [c3', c3r]
          have := HLT.out
          simp only [placeOf, Int.toNat_natCast]
          omega
      · have HJ3 := hid hj'
        clear hj' hsp
        gi_wp2
        refine bodyPost_ret (results_none rfl _ _ _) rfl ?_
        exact ⟨⟨_, rfl⟩, .inr ⟨_, trivial, HJ3.out⟩⟩
    · obtain rfl : p = zs.length := by omega
      have HRD := hid (read_none g zs bad ss t wr hM)
      have HM := hid hM
      have HJ := hid hj
      have HBY := hid hby
      clear hj hby hM h0 hok hlt hpl
      gi_wp2_with (first
        | (refine ⟨trivial, noDepth, ?_⟩; gi_at_call 14; refine (callsIn_wide.2 HRD.out).mono ?_; rintro e w2 ⟨rfl, b2⟩))
      refine ⟨by simp, ?_⟩
      gi_wp2
      refine bodyPost_ret (results_none rfl _ _ _) rfl ?_
      refine ⟨⟨_, rfl⟩, .inl ⟨pre, ⟨?_, t, HM.out.later b2⟩, hJ _ _ _ HJ.out (Turned.of_below b2 (fun k h1 h2 => absurd h1 (by omega)))⟩⟩
      rw [HBY.out]
      exact List.take_of_length_le (by rw [List.length_drop]; exact Nat.le_refl _)
end Go.Proofs.Yteneknmbddnkaaa
