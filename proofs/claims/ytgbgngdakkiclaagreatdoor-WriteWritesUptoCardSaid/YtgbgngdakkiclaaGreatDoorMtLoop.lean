import Derived.Test.YtgbgngdakkiclaaGreatDoorMtAll
import Derived.Test.YtgbgngdakkiclaaGreatDoorMtNumZ
import Derived.Test.YtgbgngdakkiclaaGreatDoorKX
set_option linter.unusedVariables false
set_option linter.unusedSimpArgs false
namespace Go.Proofs.YtgbgngdakkiclaaGreatDoor
open Go.RowKit Go.Lib
open Px (R2 tl)
def pieces (m:M.Met) (i:Nat):List Px.M.Rc:=(List.range i).flatMap (piece m)
theorem pieces_succ (m:M.Met) (i:Nat):pieces m (i+1)=pieces m i++piece m i:=by
 unfold pieces
 rw [List.range_succ,List.flatMap_append]
 simp
theorem Fg.grown {g:Nat} {w w':World} (h:Fg g w w'):w.grownBy w' (some g):=⟨h.os,h.tape,h.output,h.size,fun k hk hn=>h.block k hk (fun e=>hn (by rw [e]))⟩
theorem own_fg {w w':World} {base g:Nat} {v:Value} {l:List R2} (h:Px.OwnR w base v l) (hf:Fg g w w') (hg:g<base):Px.OwnR w' base v l:=by
 refine World.ownsRow.kept h hf.grown (.inr ?_)
 intro e
 have:=Px.ownsRow_block h g e
 omega
theorem gives_pieces (m:M.Met):M.gives m=pieces m 8++M.gHoles m:=by
 have e:pieces m 8=M.gName m++(M.gText M.kLink m.link 100++(M.gText M.kUser m.user 32++(M.gText M.kGroup m.group 32++(M.gNum M.kUid m.uid 8++(M.gNum M.kGid m.gid 8++(M.gNum M.kSize m.size 12++M.gTime m)))))):=by
  rw [pieces_succ,pieces_succ,pieces_succ,pieces_succ,pieces_succ,pieces_succ,pieces_succ,pieces_succ]
  show ([]++M.gName m++_++_++_++_++_++_++_)=_
  simp only [List.append_assoc,List.nil_append]
  rfl
 rw [e]
 unfold M.gives
 simp only [List.append_assoc]
theorem wp_append2 {W:World} {o:Oper} {a:Act} {K:Act→World→Prop} {Q:Exit→Act→World→Prop} (s x:Operand)
  (ho:o.op= .call { callee:= .builtin .append,args:= #[s,x],argTypes:= #[33,33] })
  (base:Nat) (v:Value) (l:List R2) (p q:R2) (hs:a.eval s=v) (hown:Px.OwnR W base v l) (hbase:base≤W.heap.size)
  (hx:a.eval x= .slice (some ⟨W.heap.size,0,none⟩) 2 2) (hl:l.length≤100000000)
  (h: ∀ v' w',Px.OwnR w' base v' (l++ [p,q])→Below base W w'→K (a.put o.dst v') w'):
  o.wp Tryz.prog a (W.alloc (.cells #[.string p.1, .string p.2, .string q.1, .string q.2] 47)) K Q:=by
 obtain ⟨i0,hi,hz0,hz1,hz2⟩:=info_parts Px.infoR
 have hb:(W.alloc (.cells #[.string p.1, .string p.2, .string q.1, .string q.2] 47)).heap[W.heap.size]?=some (.cells #[.string p.1, .string p.2, .string q.1, .string q.2] 47 (0,0)):=heap_alloc_new W _
 have hr:Px.RdR (W.alloc (.cells #[.string p.1, .string p.2, .string q.1, .string q.2] 47)) (W.heap.size+1) (some ⟨W.heap.size,0,none⟩) [p,q]:=fun _=>⟨W.heap.size,0,rfl,by omega,fun k r hk=>by
  match k,hk with
  |0,hk=>
   simp only [List.getElem?_cons_zero,Option.some.injEq] at hk
   subst hk
   exact ⟨by rw [cell_of_row _ _ _ _ _ _ hb];rfl,by rw [cell_of_row _ _ _ _ _ _ hb];rfl⟩
  |1,hk=>
   simp only [List.getElem?_cons_succ,List.getElem?_cons_zero,Option.some.injEq] at hk
   subst hk
   exact ⟨by rw [cell_of_row _ _ _ _ _ _ hb];rfl,by rw [cell_of_row _ _ _ _ _ _ hb];rfl⟩⟩
 refine Px.wp_append_any _ s x 33 ho base 47 i0 _ 2 32 Tryz.underlying33 hi hz0 hz1 hz2 rfl (by decide) v l.length (Px.cellsR l) hs (hown.alloc _) (W.heap.size+1) _ 2 2 (Px.cellsR [p,q]) hx hr.reads ?_ (by unfold maxLen;omega) (by omega) (by simp;omega) ?_
 ·intro u hu
  unfold Px.cellsR Px.recCells at hu
  rw [List.mem_flatMap] at hu
  obtain ⟨r,_,hu⟩:=hu
  simp at hu
  rcases hu with rfl|rfl<;>rfl
 ·intro v' w' hown' hg hat
  refine h v' w' (Px.OwnR.app hown') ?_
  exact ((Below.refl _ W).alloc hbase _).grown hg (by simp;omega) (fun g hg'=>Px.ownsRow_block hown g hg')
structure ToInv (w wf wr:World) (m:M.Met) (pv ev:Value) (g h hi i:Nat) (v:Value) (l:List Px.M.Rc):Prop where
 met:MB wr g m pv ev
 res:HB wr (g+1) {} (.slice none 0 0)
 hdr:HB wr h (hdrAt m i) (.slice none 0 0)
 still:Still (h+1) hi wf wr
 own:Px.OwnR wr hi v (l.map M.mk)
 below:Below w.heap.size w wr
 len:l.length≤i
 gl:w.heap.size≤g
 gh:g+1<h
 hh:h<hi
section
variable {w wf wr wr':World} {m:M.Met} {pv ev:Value} {g h hi i:Nat} {v:Value} {l:List Px.M.Rc}
theorem ToInv.his (I:ToInv w wf wr m pv ev g h hi i v l):hi≤wr.heap.size:=I.still.1
theorem ToInv.alloc (I:ToInv w wf wr m pv ev g h hi i v l) (o:Obj):ToInv w wf (wr.alloc o) m pv ev g h hi i v l where
 met:=I.met.alloc o
 res:=I.res.alloc o
 hdr:=I.hdr.alloc o
 still:=I.still.below ((Below.refl _ wr).alloc (Nat.le_refl _) o)
 own:=I.own.alloc o
 below:=I.below.alloc I.below.size o
 len:=I.len
 gl:=I.gl
 gh:=I.gh
 hh:=I.hh
theorem ToInv.give (I:ToInv w wf wr m pv ev g h hi i v l) (hH:HB wr' h (hdrAt m (i+1)) (.slice none 0 0)) (hF:Fg h wr wr'):ToInv w wf wr' m pv ev g h hi (i+1) v l where
 met:=I.met.of_block (hF.block g (by have:=I.his;have:=I.gh;have:=I.hh;omega) (by have:=I.gh;omega))
 res:=I.res.of_block (hF.block (g+1) (by have:=I.his;have:=I.gh;have:=I.hh;omega) (by have:=I.gh;omega))
 hdr:=hH
 still:=I.still.fg hF (by omega)
 own:=own_fg I.own hF I.hh
 below:=hF.below I.below (by have:=I.gl;have:=I.gh;omega) I.below.size
 len:=Nat.le_succ_of_le I.len
 gl:=I.gl
 gh:=I.gh
 hh:=I.hh
theorem ToInv.snoc {v':Value} {r:Px.M.Rc} {l':List R2} (I:ToInv w wf wr m pv ev g h hi (i+1) v l) (hl:l.length≤i) (he:l'=l.map M.mk++ [M.mk r]) (ho:Px.OwnR wr' hi v' l') (hb:Below hi wr wr'):ToInv w wf wr' m pv ev g h hi (i+1) v' (l++ [r]) where
 met:=I.met.below hb (by have:=I.gh;have:=I.hh;omega)
 res:=I.res.below hb (by have:=I.gh;have:=I.hh;omega)
 hdr:=I.hdr.below hb I.hh
 still:=⟨Nat.le_trans I.still.1 hb.size,fun k a b=>(hb.block k b).trans (I.still.2 k a b)⟩
 own:=by rw [List.map_append,List.map_singleton,←he];exact ho
 below:=I.below.trans (hb.mono (by have:=I.gl;have:=I.gh;have:=I.hh;omega))
 len:=by rw [List.length_append,List.length_singleton];omega
 gl:=I.gl
 gh:=I.gh
 hh:=I.hh
theorem ToInv.ten (I:ToInv w wf wr m pv ev g h hi 8 v l):ToInv w wf wr m pv ev g h hi 10 v l where
 met:=I.met
 res:=I.res
 hdr:=I.hdr
 still:=I.still
 own:=I.own
 below:=I.below
 len:=Nat.le_trans I.len (by decide)
 gl:=I.gl
 gh:=I.gh
 hh:=I.hh
theorem ToInv.two {v':Value} {l':List Px.M.Rc} (I:ToInv w wf wr m pv ev g h hi 8 v l) (hl:l'.length≤10) (ho:Px.OwnR wr' hi v' (l'.map M.mk)) (hb:Below hi wr wr'):ToInv w wf wr' m pv ev g h hi 10 v' l' where
 met:=I.met.below hb (by have:=I.gh;have:=I.hh;omega)
 res:=I.res.below hb (by have:=I.gh;have:=I.hh;omega)
 hdr:=I.hdr.below hb I.hh
 still:=⟨Nat.le_trans I.still.1 hb.size,fun k a b=>(hb.block k b).trans (I.still.2 k a b)⟩
 own:=ho
 below:=I.below.trans (hb.mono (by have:=I.gl;have:=I.gh;have:=I.hh;omega))
 len:=hl
 gl:=I.gl
 gh:=I.gh
 hh:=I.hh
theorem ToInv.env {B:Nat} (I:ToInv w wf wr m pv ev g h hi i v l) (hB:B≤w.heap.size) (ht:Sp.EV B w):Sp.EV B wr:=ht.on (I.below.mono hB)
end
end Go.Proofs.YtgbgngdakkiclaaGreatDoor
