/-
  Texts of one chapter, merged.
-/
import Derived.Test.YtgbgngdakkiclaaGreatDoorProg
import Derived.Deep.RegionHeld3
import Derived.WalkKit
import Derived.Deep.QuietTactic
import Derived.Laws.StructEq
import Derived.OrdersHeld
set_option linter.unusedVariables false
set_option linter.unusedSimpArgs false
namespace Go.Proofs.YtgbgngdakkiclaaGreatDoor
open Go.RowKit
section
variable {P:Program} {md:Region.Mode} {ops:Array Oper} {Q:Exit→Act→World→Prop} {S S':World→Prop}
theorem loneH {i:Nat} (d:Nat) {o:Oper} {fuel:Nat} {listed:Array Bool} {a:Act} {w:World} (ho:ops[i]?=some o) (hd:o.dst=some d) (hr:Region.ready md ops listed= [i]) (hw:Region.wanted o (yielded ops a.tmps)=true)
  (h: ∀ K':Act→World→Prop,Shut (∀ v w',S w'→(S w'→wpAnyH P md ops Q S fuel (listed.setIfInBounds i true) (a.put (some d) v) w')→K' (a.put o.dst v) w')→Oper.wp P o a w K' Q):wpAnyH P md ops Q S (fuel+1) listed a w:=
 wpAnyH_ready hr (by simp) (AllReadyH.cons ho (fun K' hK=>by
  rw [if_pos hw]
  exact h K' (fun v w' hS hW=>hK _ _ hS (by rw [hd];exact hW))) AllReadyH.nil)
end
end Go.Proofs.YtgbgngdakkiclaaGreatDoor

namespace Go.Proofs.YtgbgngdakkiclaaGreatDoor
open Go.RowKit
section
variable {P:Program} {md:Region.Mode} {ops:Array Oper} {Q:Exit→Act→World→Prop} {S:World→Prop}
theorem skipH {i:Nat} (d:Nat) {oi:Oper} {fuel:Nat} {listed:Array Bool} {a:Act} {w:World} (hi:ops[i]?=some oi) (hd:oi.dst=some d)
  (hs:Region.noSelect ops=true) (hf:Region.free md ops listed i=true) (hr:(Region.ready md ops listed).contains i=true)
  (hQ: ∀ c a w,Q (.panic c) (a.put oi.dst undef) w→Q (.panic c) a w) (hw:Region.wanted oi (yielded ops a.tmps)=false) (hS:S w)
  (h:wpAnyH P md ops Q S fuel (listed.setIfInBounds i true) (a.put (some d) undef) w):wpAnyH P md ops Q S (fuel+1) listed a w:=
 wpAnyH_take hi hs hf hr hQ (.inr ⟨hw,rfl⟩) hS (by rw [hd];exact h)
theorem loneN {i:Nat} {o:Oper} {fuel:Nat} {listed:Array Bool} {a:Act} {w:World} (ho:ops[i]?=some o) (hd:o.dst=none) (hr:Region.ready md ops listed= [i]) (hw:Region.wanted o (yielded ops a.tmps)=true)
  (h: ∀ K':Act→World→Prop,Shut (∀ a' w',S w'→(S w'→wpAnyH P md ops Q S fuel (listed.setIfInBounds i true) a' w')→K' a' w')→Oper.wp P o a w K' Q):wpAnyH P md ops Q S (fuel+1) listed a w:=
 wpAnyH_ready hr (by simp) (AllReadyH.cons ho (fun K' hK=>by
  rw [if_pos hw]
  exact h K' hK) AllReadyH.nil)
end
end Go.Proofs.YtgbgngdakkiclaaGreatDoor

namespace Go.Proofs.YtgbgngdakkiclaaGreatDoor
open Go.RowKit
theorem NM:(∀ (a:Act) (d:Nat) (v:Value),a.put (some d) v= { a with tmps:=a.tmps.setIfInBounds d v })∧(∀ (l:List Value) (i:Nat) (v:Value),l.toArray.setIfInBounds i v=(l.set i v).toArray)∧(∀ (x y:Value) (l:List Value),(x::l).set 0 y=y::l)∧(∀ (x y:Value) (l:List Value) (n:Nat),(x::l).set (n+1) y=x::l.set n y)∧(∀ (l:List Bool) (i:Nat) (v:Bool),l.toArray.setIfInBounds i v=(l.set i v).toArray)∧(∀ (x y:Bool) (l:List Bool),(x::l).set 0 y=y::l)∧(∀ (x y:Bool) (l:List Bool) (n:Nat),(x::l).set (n+1) y=x::l.set n y):=
 ⟨fun _ _ _=>rfl,fun l i v=>List.setIfInBounds_toArray l i v,fun _ _ _=>rfl,fun _ _ _ _=>rfl,fun l i v=>List.setIfInBounds_toArray l i v,fun _ _ _=>rfl,fun _ _ _ _=>rfl⟩
section
variable {P:Program} {md:Region.Mode} {ops:Array Oper} {Q:Exit→Act→World→Prop} {S S':World→Prop} {φ:World→Prop}
theorem tkH (i:Nat) {d:Nat} {oi:Oper} {v:Value} {fuel:Nat} {listed:Array Bool} {a a':Act} {w:World} (hS:S w)
  (h:wpAnyH P md ops Q S fuel (listed.setIfInBounds i true) a' w)
  (hi:ops[i]?=some oi:=by exact rfl) (hd:oi.dst=some d:=by exact rfl)
  (hs:Region.noSelect ops=true:=by kernel_rfl) (hf:Region.free md ops listed i=true:=by kernel_rfl) (hr:(Region.ready md ops listed).contains i=true:=by kernel_rfl)
  (hQ: ∀ c a w,Q (.panic c) (a.put oi.dst v) w→Q (.panic c) a w:=by exact fun _ _ _ h=>h) (hw:Region.wanted oi (yielded ops a.tmps)=true:=by exact rfl)
  (hy: ∀ w,S w→(execOp a.eval oi).run P w= .ok (.value v) w:=by intro W hW;clear hW;go_simp;first|done|with_reducible rfl)
  (ha:a.put (some d) v=a':=by (try simp only [NM]);exact rfl):wpAnyH P md ops Q S (fuel+1) listed a w:=
 wpAnyH_take hi hs hf hr hQ (.inl ⟨hw,hy⟩) hS (by rw [hd,ha];exact h)
theorem tfH (i:Nat) {d:Nat} {oi:Oper} {v:Value} {fuel:Nat} {listed:Array Bool} {a a':Act} {w:World} (hS:S w) (f: ∀ w,S w→φ w)
  (h:wpAnyH P md ops Q S fuel (listed.setIfInBounds i true) a' w)
  (hi:ops[i]?=some oi:=by exact rfl) (hd:oi.dst=some d:=by exact rfl)
  (hs:Region.noSelect ops=true:=by kernel_rfl) (hf:Region.free md ops listed i=true:=by kernel_rfl) (hr:(Region.ready md ops listed).contains i=true:=by kernel_rfl)
  (hQ: ∀ c a w,Q (.panic c) (a.put oi.dst v) w→Q (.panic c) a w:=by exact fun _ _ _ h=>h) (hw:Region.wanted oi (yielded ops a.tmps)=true:=by exact rfl)
  (hy: ∀ w,φ w→(execOp a.eval oi).run P w= .ok (.value v) w:=by intro W hf;go_simp;first|done|with_reducible rfl)
  (ha:a.put (some d) v=a':=by (try simp only [NM]);exact rfl):wpAnyH P md ops Q S (fuel+1) listed a w:=
 wpAnyH_take hi hs hf hr hQ (.inl ⟨hw,fun w hw=>hy w (f w hw)⟩) hS (by rw [hd,ha];exact h)
end
section
variable {P:Program} {ops:Array Oper} {C:World→Prop} {Q:Act→Prop} {a a':Act} {o:Oper} {rest:List Oper} {d:Nat} {v:Value}
theorem qyH (h:wpQuiet P ops C Q rest a') (hd:o.dst=some d:=by exact rfl) (hw:Region.wanted o (yielded ops a.tmps)=true:=by kernel_rfl)
  (hy: ∀ W,C W→o.quietAt P a C W v:=by intro W hW;clear hW;go_simp;first|done|with_reducible rfl)
  (ha:a.put (some d) v=a':=by (try simp only [NM]);exact rfl):wpQuiet P ops C Q (o::rest) a:=by
 unfold wpQuiet
 rw [if_pos hw]
 exact ⟨v,hy,by rw [hd,ha];exact h⟩
theorem qxH (g:Bool) (hw:Region.wanted o (yielded ops a.tmps)=g) (h:wpQuiet P ops C Q rest a') (hd:o.dst=some d:=by exact rfl)
  (hy:g=true→ ∀ W,C W→o.quietAt P a C W v:=by intro hg W hW;subst hg;clear hW;go_simp;first|done|with_reducible rfl)
  (ha:a.put (some d) (bif g then v else undef)=a':=by (try simp only [NM]);exact rfl):wpQuiet P ops C Q (o::rest) a:=by
 unfold wpQuiet
 cases g with
 |true=>
  rw [if_pos hw]
  exact ⟨v,hy rfl,by rw [hd];rw [←ha] at h;exact h⟩
 |false=>
  rw [if_neg (by rw [hw];decide),hd]
  rw [←ha] at h
  exact h
theorem qiH (g:Bool) (h:wpQuiet P ops C Q rest a') (hw:Region.wanted o (yielded ops a.tmps)=(some g==some true):=by kernel_rfl) (hd:o.dst=some d:=by exact rfl)
  (hy:g=true→ ∀ W,C W→o.quietAt P a C W v:=by intro hg W hW;subst hg;clear hW;go_simp;first|done|with_reducible rfl)
  (ha:a.put (some d) (bif g then v else undef)=a':=by (try simp only [NM]);exact rfl):wpQuiet P ops C Q (o::rest) a:=
 qxH g (by rw [hw];cases g<;>rfl) h hd hy ha
theorem qnH (g:Bool) (h:wpQuiet P ops C Q rest a') (hw:Region.wanted o (yielded ops a.tmps)=(some g==some false):=by kernel_rfl) (hd:o.dst=some d:=by exact rfl)
  (hy:(!g)=true→ ∀ W,C W→o.quietAt P a C W v:=by intro hg W hW;rw [Bool.not_eq_true'] at hg;subst hg;clear hW;(try simp only [cond_true]);go_simp;first|done|with_reducible rfl)
  (ha:a.put (some d) (bif (!g) then v else undef)=a':=by (try simp only [NM]);exact rfl):wpQuiet P ops C Q (o::rest) a:=
 qxH (!g) (by rw [hw];cases g<;>rfl) h hd hy ha
end
section
variable {P:Program} {ops:Array Oper} {Q:Exit→Act→World→Prop} {a a':Act} {w:World} {rest:List Oper} {o:Oper} {d:Nat} {v:Value}
theorem wyH (h:wpList P ops Q rest a' w) (hd:o.dst=some d:=by exact rfl) (hw:Region.wanted o (yielded ops a.tmps)=true:=by kernel_rfl)
  (hy:(execOp a.eval o).run P w= .ok (.value v) w:=by go_simp;first|done|with_reducible rfl)
  (ha:a.put (some d) v=a':=by (try simp only [NM]);exact rfl):wpList P ops Q (o::rest) a w:=by
 unfold wpList
 rw [if_pos hw]
 left
 unfold Oper.wp
 rw [hy]
 show wpList P ops Q rest (a.put o.dst v) w
 rw [hd,ha];exact h
theorem wxH (g:Bool) (hw:Region.wanted o (yielded ops a.tmps)=g) (h:wpList P ops Q rest a' w) (hd:o.dst=some d:=by exact rfl)
  (hy:g=true→(execOp a.eval o).run P w= .ok (.value v) w:=by intro hg;subst hg;(try simp only [cond_true]);go_simp;first|done|with_reducible rfl)
  (ha:a.put (some d) (bif g then v else undef)=a':=by (try simp only [NM]);exact rfl):wpList P ops Q (o::rest) a w:=by
 cases g with
 |true=>exact wyH (a':=a') h hd hw (hy rfl) ha
 |false=>
  unfold wpList
  rw [if_neg (by rw [hw];decide),hd]
  rw [←ha] at h
  exact h
theorem wiH (g:Bool) (h:wpList P ops Q rest a' w) (hw:Region.wanted o (yielded ops a.tmps)=(some g==some true):=by kernel_rfl) (hd:o.dst=some d:=by exact rfl)
  (hy:g=true→(execOp a.eval o).run P w= .ok (.value v) w:=by intro hg;subst hg;(try simp only [cond_true]);go_simp;first|done|with_reducible rfl)
  (ha:a.put (some d) (bif g then v else undef)=a':=by (try simp only [NM]);exact rfl):wpList P ops Q (o::rest) a w:=
 wxH g (by rw [hw];cases g<;>rfl) h hd hy ha
theorem wnH (g:Bool) (h:wpList P ops Q rest a' w) (hw:Region.wanted o (yielded ops a.tmps)=(some g==some false):=by kernel_rfl) (hd:o.dst=some d:=by exact rfl)
  (hy:(!g)=true→(execOp a.eval o).run P w= .ok (.value v) w:=by intro hg;rw [Bool.not_eq_true'] at hg;subst hg;(try simp only [cond_true]);go_simp;first|done|with_reducible rfl)
  (ha:a.put (some d) (bif (!g) then v else undef)=a':=by (try simp only [NM]);exact rfl):wpList P ops Q (o::rest) a w:=
 wxH (!g) (by rw [hw];cases g<;>rfl) h hd hy ha
end
end Go.Proofs.YtgbgngdakkiclaaGreatDoor

namespace Go.Proofs.YtgbgngdakkiclaaGreatDoor
theorem wp_region_class {P:Program} {id:Nat} {Q:Exit→Act→World→Prop} {a:Act} {w:World} {l:List Oper} (C:World→Prop) (hm:P.follows .mixedOrders=true) (hB:Region.lexB .any l.toArray=true) (hC:C w.drew)
  (h:wpQuiet P l.toArray C (fun a'=> ∀ w',C w'→Q .normal a' w') l a):(Code.region id l.toArray true).wp P Q a w:=
 wp_region_quiet (C:=C) hm hB hC (by simpa using h)
section
variable {P:Program} {ops:Array Oper} {C:World→Prop} {Q:Act→Prop} {a:Act} {o:Oper} {rest:List Oper}
end
end Go.Proofs.YtgbgngdakkiclaaGreatDoor

namespace Go.Proofs.YtgbgngdakkiclaaGreatDoor
open Go.RowKit
def upd (f:Nat→Option Value) (i:Nat) (v:Value):Nat→Option Value:=fun j=>if j=i then some v else f j
theorem upd_same (f:Nat→Option Value) (i:Nat) (v:Value):upd f i v i=some v:=by unfold upd;rw [if_pos rfl]
theorem upd_ne {f:Nat→Option Value} {i j:Nat} {v:Value} (h:j≠i):upd f i v j=f j:=by unfold upd;rw [if_neg h]
def rowsB (md:Region.Mode) (ops:Array Oper) (N:Nat):Bool:=
 (ops.size==N+1)&&((List.range (N+1)).all fun i=>match ops[i]? with
  |none=>false
  |some o=>o.guard.isNone&&(o.after.all fun e=>decide (e.on<i))&&(decide (i<N)||(List.range N).all fun j=>o.after.any fun e=>e.on==j&&Region.binds md e))
section
variable {P:Program} {ops:Array Oper} {Q:Exit→Act→World→Prop} {md:Region.Mode}
theorem wanted_plain {o:Oper} (h:o.guard=none) (y:Nat→Option Bool):Region.wanted o y=true:=by
 unfold Region.wanted
 rw [h]
theorem wpAny_over {listed:Array Bool} {a:Act} {w:World} (hr:Region.ready md ops listed= []) (h:Q .normal a w): ∀ fuel,wpAny P md ops Q fuel listed a w
 |0=>⟨hr,h⟩
 |_+1=>⟨fun _=>h,by rw [hr];intro i hi;cases hi⟩
theorem rowsB_at {N:Nat} (hB:rowsB md ops N=true) {i:Nat} (hi:i<N+1): ∃ o,ops[i]?=some o∧o.guard=none∧(∀ e∈o.after,e.on<i)∧(i<N∨ ∀ j,j<N→ ∃ e∈o.after,e.on=j∧Region.binds md e=true):=by
 unfold rowsB at hB
 rw [Bool.and_eq_true,List.all_eq_true] at hB
 have h:=hB.2 i (List.mem_range.2 hi)
 cases ho:ops[i]? with
 |none=>rw [ho] at h;cases h
 |some o=>
  rw [ho] at h
  simp only [Bool.and_eq_true,Bool.or_eq_true,decide_eq_true_eq] at h
  refine ⟨o,rfl,Option.isNone_iff_eq_none.1 h.1.1, ?_, ?_⟩
  ·intro e he
   exact of_decide_eq_true ((Array.all_eq_true_iff_forall_mem.1 h.1.2) e he)
  ·rcases h.2 with h2|h2
   ·exact .inl h2
   ·refine .inr fun j hj=> ?_
    obtain ⟨e,he,hb⟩:=Array.any_eq_true'.1 (List.all_eq_true.1 h2 j (List.mem_range.2 hj))
    rw [Bool.and_eq_true,beq_iff_eq] at hb
    exact ⟨e,he,hb.1,hb.2⟩
theorem getD_true_of {listed:Array Bool} {j:Nat} (hj:j<listed.size):listed.getD j true=listed.getD j false:=by
 simp [hj]
theorem rows_any (N:Nat) (hB:rowsB md ops N=true) (W0:World) (act:(Nat→Option Value)→Act) (R:Nat→Value→World→Prop)
  (hmono: ∀ i,i<N→ ∀ v w w',Below w.heap.size w w'→R i v w→R i v w')
  (hstep: ∀ i,i<N→ ∀ o,ops[i]?=some o→ ∀ (f:Nat→Option Value) w,f i=none→Below W0.heap.size W0 w→(∀ j v,f j=some v→R j v w)→(∀ e∈o.after,Region.binds md e=true→ ∃ v,f e.on=some v)→
   Oper.wp P o (act f) w (fun a' w'=> ∃ v,a'=act (upd f i v)∧R i v w'∧Below w.heap.size w w') Q)
  (hlast: ∀ o,ops[N]?=some o→ ∀ (vs:Nat→Value) (f:Nat→Option Value) w,Below W0.heap.size W0 w→(∀ j,j<N→f j=some (vs j)∧R j (vs j) w)→Oper.wp P o (act f) w (fun a' w'=>Q .normal a' w') Q):
  ∀ (fuel:Nat) (listed:Array Bool) (f:Nat→Option Value) (w:World),listed.size=N+1→(∀ j,j<N+1→listed.getD j false=(f j).isSome)→(∀ j,N≤j→f j=none)→
    Below W0.heap.size W0 w→(∀ j v,f j=some v→R j v w)→((List.range (N+1)).filter fun j=> !listed.getD j false).length≤fuel→wpAny P md ops Q fuel listed (act f) w:=by
 have hsz:ops.size=N+1:=by
  unfold rowsB at hB
  rw [Bool.and_eq_true,beq_iff_eq] at hB
  exact hB.1
 intro fuel
 induction fuel with
 |zero=>
  intro listed f w hl hf hN hb hR hlen
  have:N∈(List.range (N+1)).filter fun j=> !listed.getD j false:=by
   rw [List.mem_filter,List.mem_range]
   exact ⟨Nat.lt_succ_self N,by rw [hf N (Nat.lt_succ_self N),hN N (Nat.le_refl N)];rfl⟩
  have h0:=List.length_pos_of_mem this
  omega
 |succ fuel ih=>
  intro listed f w hl hf hN hb hR hlen
  refine ⟨fun hr=> ?_,fun i hi=> ?_⟩
  ·
   exfalso
   have hex: ∃ j,j<N+1∧listed.getD j false=false:=⟨N,Nat.lt_succ_self N,by rw [hf N (Nat.lt_succ_self N),hN N (Nat.le_refl N)];rfl⟩
   have hmin: ∀ n,(∃ j,j≤n∧j<N+1∧listed.getD j false=false)→ ∃ j,j<N+1∧listed.getD j false=false∧ ∀ k,k<j→listed.getD k false=true:=by
    intro n
    induction n with
    |zero=>
     rintro ⟨j,h0,h1,h2⟩
     obtain rfl:j=0:=by omega
     exact ⟨0,h1,h2,fun k hk=>absurd hk (Nat.not_lt_zero k)⟩
    |succ n ihn=>
     rintro ⟨j,h0,h1,h2⟩
     by_cases hj: ∃ k,k≤n∧k<N+1∧listed.getD k false=false
     ·exact ihn hj
     ·refine ⟨j,h1,h2,fun k hk=> ?_⟩
      cases hk2:listed.getD k false with
      |true=>rfl
      |false=>exact absurd ⟨k,by omega,by omega,hk2⟩ hj
   obtain ⟨j0,h1,h2⟩:=hex
   obtain ⟨j,hj,hjl,hjk⟩:=hmin j0 ⟨j0,Nat.le_refl _,h1,h2⟩
   obtain ⟨o,ho,_,hon,_⟩:=rowsB_at hB hj
   have hm:j∈Region.ready md ops listed:=mem_ready.2 ⟨by rw [getD_true_of (by omega)];exact hjl,o,ho,fun e he _=>hjk e.on (hon e he)⟩
   rw [hr] at hm
   cases hm
  ·obtain ⟨hiu,o,ho,hall⟩:=mem_ready.1 hi
   have hiN:i<N+1:=by rw [←hsz];exact (Array.getElem?_eq_some_iff.1 ho).1
   obtain ⟨o',ho',hg,hon,hor⟩:=rowsB_at hB hiN
   obtain rfl:o'=o:=Option.some.inj (ho'.symm.trans ho)
   have hpre: ∀ e∈o'.after,Region.binds md e=true→ ∃ v,f e.on=some v:=fun e he hbd=>by
    have h1:=hall e he hbd
    have h2:=hon e he
    rw [hf e.on (by omega)] at h1
    exact Option.isSome_iff_exists.1 h1
   have hkey: ∀ j,j<N+1→(listed.setIfInBounds i true).getD j false=if j=i then true else listed.getD j false:=fun j hj=>by
    by_cases e:j=i
    ·subst e;rw [if_pos rfl];simp [hl,hj]
    ·rw [if_neg e,getD_set_ne false (Ne.symm e)]
   unfold wpOp
   rw [ho]
   dsimp only
   rw [if_pos (wanted_plain hg _)]
   refine .inl ?_
   by_cases hlt:i<N
   ·refine Oper.wp_mono ?_ (hstep i hlt o' ho f w (by
     rw [getD_true_of (by omega),hf i hiN] at hiu
     cases hfi:f i with
     |none=>rfl
     |some v=>rw [hfi] at hiu;cases hiu) hb hR hpre)
    rintro a' w' ⟨v,rfl,hRv,hbw⟩
    refine ih _ _ w' (by rw [Array.size_setIfInBounds];exact hl) ?_ ?_ (hb.trans (hbw.mono hb.size)) ?_ ?_
    ·intro j hj
     rw [hkey j hj]
     by_cases e:j=i
     ·subst e;rw [if_pos rfl,upd_same];rfl
     ·rw [if_neg e,upd_ne e];exact hf j hj
    ·intro j hj
     rw [upd_ne (by omega)]
     exact hN j hj
    ·intro j u hu
     by_cases e:j=i
     ·subst e;rw [upd_same] at hu;cases hu;exact hRv
     ·rw [upd_ne e] at hu
      have hjN:j<N:=by
       refine Classical.byContradiction fun h=> ?_
       rw [hN j (by omega)] at hu
       cases hu
      exact hmono j hjN u w w' hbw (hR j u hu)
    ·have hiF:i∈(List.range (N+1)).filter fun j=> !listed.getD j false:=by
      rw [List.mem_filter,List.mem_range]
      refine ⟨hiN, ?_⟩
      rw [getD_true_of (by omega)] at hiu
      rw [hiu]
      rfl
     have e1:((List.range (N+1)).filter fun j=> !(listed.setIfInBounds i true).getD j false)=((List.range (N+1)).filter fun j=> !listed.getD j false).filter fun j=>j !=i:=by
      rw [List.filter_filter]
      refine List.filter_congr fun j hj=> ?_
      rw [hkey j (List.mem_range.1 hj)]
      by_cases e:j=i
      ·subst e;simp
      ·simp [e]
     rw [e1]
     have h2:(((List.range (N+1)).filter fun j=> !listed.getD j false).filter fun j=>j !=i).length<((List.range (N+1)).filter fun j=> !listed.getD j false).length:=by
      refine List.length_filter_lt_length_iff_exists.2 ⟨i,hiF,by simp⟩
     omega
   ·obtain rfl:i=N:=by omega
    have hallN: ∀ j,j<i→ ∃ v,f j=some v:=fun j hj=>by
     rcases hor with h|h
     ·exact absurd h hlt
     ·obtain ⟨e,he,hej,hbd⟩:=h j hj
      obtain ⟨v,hv⟩:=hpre e he hbd
      exact ⟨v,by rw [←hej];exact hv⟩
    have hvs: ∀ j,j<i→f j=some ((f j).getD undef)∧R j ((f j).getD undef) w:=fun j hj=>by
     obtain ⟨v,hv⟩:=hallN j hj
     rw [hv]
     exact ⟨rfl,hR j v hv⟩
    refine Oper.wp_mono ?_ (hlast o' ho (fun j=>(f j).getD undef) f w hb hvs)
    intro a' w' hQ
    refine wpAny_over ?_ hQ fuel
    refine List.eq_nil_iff_forall_not_mem.2 fun j hj=> ?_
    obtain ⟨hju,oj,hoj,_⟩:=mem_ready.1 hj
    have hjN:j<i+1:=by rw [←hsz];exact (Array.getElem?_eq_some_iff.1 hoj).1
    rw [getD_true_of (by rw [Array.size_setIfInBounds];omega),hkey j hjN] at hju
    by_cases e:j=i
    ·rw [if_pos e] at hju;cases hju
    ·rw [if_neg e,hf j hjN] at hju
     obtain ⟨v,hv⟩:=hallN j (by omega)
     rw [hv] at hju
     cases hju
end
def actOf (a0:Act) (D:List Nat) (f:Nat→Option Value):Nat→Act
 |0=>a0
 |k+1=>match f k with
  |some v=>(actOf a0 D f k).put (some (D.getD k 0)) v
  |none=>actOf a0 D f k
def putAll (a0:Act) (D:List Nat) (vs:Nat→Value):Nat→Act
 |0=>a0
 |k+1=>(putAll a0 D vs k).put (some (D.getD k 0)) (vs k)
theorem eval_getD (a:Act) (s:Nat):a.eval (.tmp s)=a.tmps[s]?.getD undef:=by simp [Act.eval]
theorem putAll_at {a0:Act} {D:List Nat} {vs:Nat→Value} {d:Nat} {v:Value} (K k:Nat) (hK:K=k+1) (h:D.getD k 0=d) (hv:vs k=v):putAll a0 D vs K=(putAll a0 D vs k).put (some d) v:=by rw [hK,putAll,h,hv]
theorem putAll_zero {a0:Act} {D:List Nat} {vs:Nat→Value} :putAll a0 D vs 0=a0:=rfl
theorem put_size (a:Act) (d:Nat) (v:Value):(a.put (some d) v).tmps.size=a.tmps.size:=by simp [Act.put]
theorem eval_same (a:Act) (d:Nat) (v:Value) (h:d<a.tmps.size):(a.put (some d) v).eval (.tmp d)=v:=by
 simp [Act.put,Act.eval,h]
theorem eval_ne (a:Act) (d s:Nat) (v:Value) (h:s≠d):(a.put (some d) v).eval (.tmp s)=a.eval (.tmp s):=
 Act.eval_put (fun d' e x=>by injection e with e;injection x with x;exact h (x.trans e.symm))
section
variable {a0:Act} {D:List Nat} {f:Nat→Option Value}
theorem actOf_size (k:Nat):(actOf a0 D f k).tmps.size=a0.tmps.size:=by
 induction k with
 |zero=>rfl
 |succ k ih=>
  unfold actOf
  split
  ·rw [put_size,ih]
  ·exact ih
theorem actOf_par {s:Nat} : ∀ k,(∀ j,j<k→D.getD j 0≠s)→(actOf a0 D f k).eval (.tmp s)=a0.eval (.tmp s)
 |0,_=>rfl
 |k+1,h=>by
  unfold actOf
  split
  ·rw [eval_ne _ _ _ _ (fun e=>h k (Nat.lt_succ_self k) e.symm)]
   exact actOf_par k fun j hj=>h j (Nat.lt_succ_of_lt hj)
  ·exact actOf_par k fun j hj=>h j (Nat.lt_succ_of_lt hj)
theorem actOf_at (hD: ∀ i j,i<D.length→j<D.length→D.getD i 0=D.getD j 0→i=j) (hs: ∀ i,i<D.length→D.getD i 0<a0.tmps.size) {j:Nat} {v:Value} (hf:f j=some v):
  ∀ k,k≤D.length→j<k→(actOf a0 D f k).eval (.tmp (D.getD j 0))=v
 |0,_,h=>absurd h (Nat.not_lt_zero j)
 |k+1,hk,h=>by
  unfold actOf
  by_cases e:j=k
  ·subst e
   rw [hf]
   exact eval_same _ _ _ (by rw [actOf_size];exact hs j (by omega))
  ·have ih:=actOf_at hD hs hf k (by omega) (by omega)
   split
   ·rw [eval_ne _ _ _ _ (fun e'=>e (hD _ _ (by omega) (by omega) e'))]
    exact ih
   ·exact ih
theorem actOf_upd (hD: ∀ i j,i<D.length→j<D.length→D.getD i 0=D.getD j 0→i=j) {i:Nat} {v:Value} (hf:f i=none):
  ∀ k,k≤D.length→actOf a0 D (upd f i v) k=if i<k then (actOf a0 D f k).put (some (D.getD i 0)) v else actOf a0 D f k
 |0,_=>by rw [if_neg (Nat.not_lt_zero i)];rfl
 |k+1,hk=>by
  have ih:=actOf_upd hD (v:=v) hf k (by omega)
  by_cases e:k=i
  ·subst e
   rw [if_neg (Nat.lt_irrefl k)] at ih
   rw [if_pos (Nat.lt_succ_self k)]
   unfold actOf
   rw [upd_same,hf]
   dsimp only
   rw [ih]
  ·unfold actOf
   rw [upd_ne e]
   by_cases hik:i<k
   ·rw [if_pos hik] at ih
    rw [if_pos (by omega)]
    cases hfk:f k with
    |none=>exact ih
    |some u=>
     dsimp only
     rw [ih]
     exact Act.put_comm _ _ _ (fun d e1 e2=>e (hD _ _ (by omega) (by omega) (by injection e1 with e1;injection e2 with e2;rw [e1,e2])))
   ·rw [if_neg hik] at ih
    rw [if_neg (by omega)]
    cases hfk:f k with
    |none=>exact ih
    |some u=>
     dsimp only
     rw [ih]
theorem actOf_none (k:Nat):actOf a0 D (fun _=>none) k=a0:=by
 induction k with
 |zero=>rfl
 |succ k ih=>unfold actOf;exact ih
theorem actOf_all {vs:Nat→Value} : ∀ k,(∀ j,j<k→f j=some (vs j))→actOf a0 D f k=putAll a0 D vs k
 |0,_=>rfl
 |k+1,h=>by
  unfold actOf putAll
  rw [h k (Nat.lt_succ_self k)]
  dsimp only
  rw [actOf_all k fun j hj=>h j (Nat.lt_succ_of_lt hj)]
end
def slotsB (ops:Array Oper) (D:List Nat) (size:Nat):Bool:=
 ((List.range D.length).all fun i=>match ops[i]? with
   |none=>false
   |some o=>o.dst==some (D.getD i 0)&&decide (D.getD i 0<size))&&((List.range D.length).all fun i=>(List.range D.length).all fun j=>i==j||D.getD i 0 !=D.getD j 0)
section
variable {P:Program} {ops:Array Oper} {Q:Exit→Act→World→Prop}
theorem wp_region_rows {id:Nat} {a0:Act} {w:World} (D:List Nat) (hm:P.follows .mixedOrders=true) (hB:rowsB .any ops D.length=true) (hsl:slotsB ops D a0.tmps.size=true) (R:Nat→Value→World→Prop)
  (hmono: ∀ i,i<D.length→ ∀ v w w',Below w.heap.size w w'→R i v w→R i v w')
  (hstep: ∀ i,i<D.length→ ∀ o,ops[i]?=some o→ ∀ (a:Act) w1,Below w.heap.size w w1→(∀ s,¬ s∈D→a.eval (.tmp s)=a0.eval (.tmp s))→(∀ e∈o.after,Region.binds .any e=true→R e.on (a.eval (.tmp (D.getD e.on 0))) w1)→
   Oper.wp P o a w1 (fun a' w'=> ∃ v,a'=a.put o.dst v∧R i v w'∧Below w1.heap.size w1 w') Q)
  (hlast: ∀ o,ops[D.length]?=some o→ ∀ (vs:Nat→Value) w1,Below w.heap.size w w1→(∀ j,j<D.length→R j (vs j) w1)→Oper.wp P o (putAll a0 D vs D.length) w1 (fun a' w'=>Q .normal a' w') Q):
  (Code.region id ops true).wp P Q a0 w:=by
 unfold slotsB at hsl
 rw [Bool.and_eq_true,List.all_eq_true,List.all_eq_true] at hsl
 have hD: ∀ i j,i<D.length→j<D.length→D.getD i 0=D.getD j 0→i=j:=fun i j hi hj e=>by
  have h1:=List.all_eq_true.1 (hsl.2 i (List.mem_range.2 hi)) j (List.mem_range.2 hj)
  rw [Bool.or_eq_true,beq_iff_eq,bne_iff_ne] at h1
  rcases h1 with h1|h1
  ·exact h1
  ·exact absurd e h1
 have hd: ∀ i,i<D.length→ ∀ o,ops[i]?=some o→o.dst=some (D.getD i 0)∧D.getD i 0<a0.tmps.size:=fun i hi o ho=>by
  have h1:=hsl.1 i (List.mem_range.2 hi)
  rw [ho] at h1
  rw [Bool.and_eq_true,beq_iff_eq,decide_eq_true_eq] at h1
  exact h1
 have hs: ∀ i,i<D.length→D.getD i 0<a0.tmps.size:=fun i hi=>by
  obtain ⟨o,ho,_⟩:=rowsB_at hB (Nat.lt_succ_of_lt hi)
  exact (hd i hi o ho).2
 have hdr:Below w.heap.size w ({ w with drawn:=w.drawn+1 } :World):=⟨rfl,rfl,rfl,Nat.le_refl _,fun _ _=>rfl⟩
 have key:=rows_any (P:=P) (ops:=ops) (Q:=Q) (md:= .any) D.length hB w (fun f=>actOf a0 D f D.length) R hmono ?_ ?_ ops.size (Array.replicate ops.size false) (fun _=>none) ({ w with drawn:=w.drawn+1 } :World) ?_ ?_ (fun _ _=>rfl) hdr (fun j v h=>nomatch h) ?_
 ·rw [actOf_none] at key
  exact wp_region_any hm key
 ·intro i hi o ho f w1 hfi hw hR hp
  ·refine Oper.wp_mono ?_ (hstep i hi o ho (actOf a0 D f D.length) w1 hw (fun s hs'=>actOf_par D.length (fun j hj e=>hs' (by
    rw [←e,List.getD_eq_getElem?_getD,List.getElem?_eq_getElem hj]
    exact List.getElem_mem hj))) (fun e he hb=>by
     obtain ⟨v,hv⟩:=hp e he hb
     obtain ⟨o',ho',_,hon,_⟩:=rowsB_at hB (Nat.lt_succ_of_lt hi)
     obtain rfl:o'=o:=Option.some.inj (ho'.symm.trans ho)
     have:=hon e he
     rw [actOf_at hD hs hv D.length (Nat.le_refl _) (by omega)]
     exact hR _ v hv))
   rintro a' w' ⟨v,rfl,h1,h2⟩
   refine ⟨v, ?_,h1,h2⟩
   rw [actOf_upd hD hfi D.length (Nat.le_refl _),if_pos hi,(hd i hi o ho).1]
 ·intro o ho vs f w1 hw h
  rw [actOf_all D.length fun j hj=>(h j hj).1]
  exact hlast o ho vs w1 hw fun j hj=>(h j hj).2
 ·rw [Array.size_replicate]
  unfold rowsB at hB
  rw [Bool.and_eq_true,beq_iff_eq] at hB
  exact hB.1
 ·intro j hj
  simp [Array.getD]
 ·exact Nat.le_trans (List.length_filter_le _ _) (by
   rw [List.length_range]
   unfold rowsB at hB
   rw [Bool.and_eq_true,beq_iff_eq] at hB
   omega)
end
end Go.Proofs.YtgbgngdakkiclaaGreatDoor
