/-
  Texts of one chapter, merged.
-/
import Derived.Test.YtjpmpjbembhldaaGreatDoorMtDelZ
import Derived.Test.YtjpmpjbembhldaaGreatDoorMtLoop
set_option linter.unusedVariables false
set_option linter.unusedSimpArgs false
namespace Go.Proofs.YtjpmpjbembhldaaGreatDoor
open Go.RowKit Go.Lib
open Px (R2 tl)
attribute [local go_sem ↓] add_plain
def encR (p:R2):Value × Value:=(.string p.1, .string p.2)
theorem rcells_flat (l:List R2):Px.cellsR l=flat2 (l.map encR):=by
 unfold Px.cellsR flat2
 rw [List.flatMap_map]
 rfl
def other (r:R2):Bool:= !(M.isKey (tl r.1))
def FirstKnown (l:List R2) (i:Int):Prop:=(i= -1∧l.all other=true)∨ ∃ (k:Nat) (h:k<l.length),i=k∧(l.take k).all other=true∧M.isKey (tl l[k].1)=true
theorem allR_take_succ {l:List R2} {k:Nat} (h:k<l.length) (h1:(l.take k).all other=true) (h2:M.isKey (tl l[k].1)=false):(l.take (k+1)).all other=true:=by
 rw [List.take_succ_eq_append_getElem h,List.all_append,h1]
 simp [other,h2]
set_option maxRecDepth 100000 in
set_option maxHeartbeats 1000000 in
theorem firstKnown_any (A:Option Addr) (c:Nat) (l:List R2) (hl:l.length≤1048576) (w:World) (h:Px.RdR w w.heap.size A l):
  Calls Tryz.prog 80 #[.slice A l.length c, .func (.func 32) #[] #[]] w fun e w'=>(∃ i,e= .returned (.int .i64 i)∧FirstKnown l i)∧Below w.heap.size w w':=by
 have HR:=hid h
 clear h
 go_enter Tryz.func80,Tryz.ntmps80
 go_wp2
 go_loopw [8] (fun iv wr=> ∃ (k:Nat),iv= .int .i64 k∧k≤l.length∧Hid ((l.take k).all other=true)∧Hid (Below w.heap.size w wr)) (fun iv _=>l.length - (intOf iv).toNat)
 case atStart=>exact ⟨0,rfl,Nat.zero_le _,hid rfl,hid (Below.refl _ _)⟩
 case round=>
  obtain ⟨k,rfl,hk,HA,HB⟩:=hrel
  have hbs:=HB.out.size
  by_cases hlt:k<l.length
  ·obtain ⟨b,off,rfl,hbb,hc1,hc2⟩:=(HR.out.below HB.out).at_ hlt
   obtain ⟨p,hp⟩: ∃ p,l[k]=p:=⟨_,rfl⟩
   rw [hp] at hc1 hc2
   obtain ⟨p1,p2⟩:=p
   dsimp only at hc1 hc2
   have hi2:(k:Int)<(l.length:Int):=by omega
   have HE:=hid (fun W=>isKnown_any p1 p2 W)
   have HL:=hid hlt
   have HP:=hid hp
   clear hp
   cases hz:M.isKey (tl p1) with
   |true=>
    rw [hz] at HE
    have HZ:=hid hz
    clear hz
    go_wp2_with (go_at_call 32;(with_reducible refine (HE.out _).mono ?_);rintro e w1 ⟨rfl,hb1⟩)
    go_ret
    exact ⟨⟨k,rfl, .inr ⟨k,HL.out,rfl,HA.out,by rw [HP.out];exact HZ.out⟩⟩,HB.out.trans (hb1.mono hbs)⟩
   |false=>
    rw [hz] at HE
    have HZ:=hid hz
    clear hz
    have HA2:=hid (allR_take_succ HL.out HA.out (by rw [HP.out];exact HZ.out))
    go_wp2_with (go_at_call 32;(with_reducible refine (HE.out _).mono ?_);rintro e w1 ⟨rfl,hb1⟩)
    go_roundw
    case rel=>exact ⟨k+1,by go_num,by have:=HL.out;omega,HA2,hid (HB.out.trans (hb1.mono hbs))⟩
    case measure=>have:=HL.out;simp [intOf];omega
  ·obtain rfl:k=l.length:=by omega
   have HA2:=hid (show l.all other=true by have:=HA.out;rwa [List.take_of_length_le (Nat.le_refl _)] at this)
   clear hlt
   go_wp2
   go_ret
   exact ⟨⟨-1,rfl, .inl ⟨rfl,HA2.out⟩⟩,HB.out⟩
def keptR (l:List R2) (j:Nat):List (Value × Value):=((l.take j).filter other).map encR
theorem keptR_yes {l:List R2} {j:Nat} (h:j<l.length) (hf:other l[j]=true):keptR l (j+1)=keptR l j++ [encR l[j]]:=by
 unfold keptR
 rw [List.take_succ_eq_append_getElem h,List.filter_append,List.map_append]
 simp [List.filter_cons,hf]
theorem keptR_no {l:List R2} {j:Nat} (h:j<l.length) (hf:other l[j]=false):keptR l (j+1)=keptR l j:=by
 unfold keptR
 rw [List.take_succ_eq_append_getElem h,List.filter_append,List.map_append]
 simp [List.filter_cons,hf]
theorem keptR_all {l:List R2} {j:Nat} (h:(l.take j).all other=true):keptR l j=(l.take j).map encR:=by
 unfold keptR
 rw [List.filter_eq_self.2 (fun x hx=>List.all_eq_true.1 h x hx)]
theorem wpList_clearR {ops:Array Oper} {rest:List Oper} {o:Oper} {a:Act} {w:World} {Q:Exit→Act→World→Prop} (hgd:o.guard=none) (x:Operand)
  (ho:o.op= .call { callee:= .builtin .clear,args:= #[x],argTypes:= #[25] }) (g off m c:Nat) (C:Array Value) (hx:a.eval x= .slice (some ⟨g,off,none⟩) m c) (hm:0<m)
  (hb:w.heap[g]?=some (.cells C 29 (0,0))) (hl:off+m*2≤C.size)
  (h: ∀ C':Array Value,C'.size=C.size→(∀ k,k<off→C'[k]?=C[k]?)→wpList Tryz.prog ops Q rest (a.put o.dst (.tuple #[])) (w.setRow g C')):wpList Tryz.prog ops Q (o::rest) a w:=by
 refine wpList_plain hgd fun K hK=> ?_
 have hz: ∀ w,(zeroValue 29).run Tryz.prog w= .ok (.agg #[.string ⟨#[]⟩, .string ⟨#[]⟩]) w:=fun w=>by kernel_rfl
 obtain ⟨n,rfl⟩: ∃ n,m=n+1:=⟨m - 1,by omega⟩
 have hlen:(Builtin.zeroCells #[Value.string ⟨#[]⟩, .string ⟨#[]⟩] (n+1)).toList.length=(n+1)*2:=by simp [Builtin.zeroCells]
 have hst:=run_storeCells_at Tryz.prog g off 29 (Builtin.zeroCells #[Value.string ⟨#[]⟩, .string ⟨#[]⟩] (n+1)).toList 0 C w hb (by rw [hlen];omega) (by
  intro v hv
  unfold Builtin.zeroCells at hv
  simp only [Array.toList_map,List.mem_map] at hv
  obtain ⟨i,_,rfl⟩:=hv
  rcases Nat.mod_two_eq_zero_or_one i with e|e<;>simp [e,Value.oneCell'])
 have hrun:(Builtin.clear_ #[25] o.type #[.slice (some ⟨g,off,none⟩) (n+1) c]).run Tryz.prog w= .ok (.tuple #[]) (w.setRow g (C.toList.take (off+0)++(Builtin.zeroCells #[Value.string ⟨#[]⟩, .string ⟨#[]⟩] (n+1)).toList++C.toList.drop (off+0+(Builtin.zeroCells #[Value.string ⟨#[]⟩, .string ⟨#[]⟩] (n+1)).toList.length)).toArray):=by
  simp [Builtin.clear_,run_underlying Tryz.underlying25,hz,hst,Value.cells]
 unfold Oper.wp execOp
 simp only [ho,resolve,invoke,builtin,Sem.run_bind,Sem.run_pure,Result.andThen_ok,List.map_toArray,List.map_cons,List.map_nil,hx,hrun]
 refine hK _ _ (h _ ?_ ?_)
 ·have h1:C.toList.length=C.size:=by simp
  simp only [List.size_toArray,List.length_append,List.length_take,List.length_drop,hlen,h1]
  omega
 ·intro k hk
  have h1:C.toList.length=C.size:=by simp
  simp only [List.getElem?_toArray,Nat.add_zero]
  rw [List.append_assoc,List.getElem?_append_left (by rw [List.length_take,h1];omega),List.getElem?_take,if_pos hk]
  simp
set_option maxRecDepth 100000 in
set_option maxHeartbeats 4000000 in
theorem deleteR_any (v:Value) (l:List R2) (base:Nat) (hl:l.length≤1048576) (w:World) (h:Px.OwnR w base v l) (hbase:base≤w.heap.size):
  Calls Tryz.prog 31 #[v, .func (.func 32) #[] #[]] w fun e w'=> ∃ v',e= .returned v'∧Px.OwnR w' base v' (l.filter other)∧Below base w w'∧w.grownBy w' v.ownBlock:=by
 obtain ⟨A0,c0,rfl,hrd,hc0,_⟩:=h.rd
 have HI:=hid (firstKnown_any A0 c0 l hl w hrd)
 have HO:=hid h
 clear h hrd
 go_enter Tryz.func31,Tryz.ntmps31
 go_wp2_with fail
 refine HI.out.mono ?_
 rintro e w1 ⟨⟨i,rfl,hi⟩,hb1⟩
 have HO1:=hid (HO.out.below hb1)
 have HB1:=hid hb1
 clear hb1 HI
 rcases hi with ⟨rfl,hall⟩|⟨k,hk,rfl,hfr,hek⟩
 ·have HF:=hid (show l.filter other=l from List.filter_eq_self.2 (fun x hx=>List.all_eq_true.1 hall x hx))
  clear hall
  go_wp2
  go_ret
  exact ⟨_,rfl,by rw [HF.out];exact HO1.out,HB1.out.mono hbase,⟨HB1.out.os,HB1.out.tape,HB1.out.output,HB1.out.size,fun k hk _=>HB1.out.block k hk⟩⟩
 ·obtain ⟨_,hor⟩:=HO1.out
  rcases hor with ⟨he,h0⟩|⟨g,cap,cur,he,hbg,hrow,hnc,hcm,hcs,htk⟩
  ·exfalso;omega
  ·injection he with he1 _ he3
   subst he1 he3
   have hno:other l[k]=false:=by unfold other;rw [hek];rfl
   have hk1:keptR l (k+1)=(l.take k).map encR:=(keptR_no hk hno).trans (keptR_all hfr)
   have hgl:g<w1.heap.size:=(Array.getElem?_eq_some_iff.1 hrow).1
   have HD0:=hid (show DI w1 w1 g c0 29 (keptR l (k+1)) (l.map encR) (k+1) from
    ⟨⟨cur,hrow,sift_of_flat hcs (n:=l.length) (by rw [List.length_map]) (htk.trans (rcells_flat l)) _ _ (by
      intro q x hq
      rw [hk1,List.getElem?_map,List.getElem?_take] at hq
      rw [List.getElem?_map]
      split at hq
      ·exact hq
      ·simp at hq)⟩,Fg.refl _ _,hgl⟩)
   have hlk:(keptR l (k+1)).length=k:=by
    rw [hk1,List.length_map,List.length_take];omega
   have HBG:=hid hbg
   have HNC:=hid hnc
   have HCM:=hid hcm
   clear hrow hcs htk hbg hnc hcm hfr hek hno hk1 HO1 HO
   go_wp2
   rename_i hkk _ _
   simp only [hkk]
   go_loopw [5,6] (fun iv jv wr=> ∃ (j:Nat),jv= .int .i64 j∧j≤l.length∧iv= .int .i64 (keptR l j).length∧(keptR l j).length<j∧Hid (DI w1 wr g c0 29 (keptR l j) (l.map encR) j)) (fun _ jv _=>l.length - (intOf jv).toNat)
   case atStart=>exact ⟨k+1,by first|rfl|go_num,by omega,by rw [hlk],by omega,HD0⟩
   case round=>
    clear HD0 hlk
    obtain ⟨j,rfl,hj,rfl,hij,HD⟩:=hrel
    by_cases hlt:j<l.length
    ·obtain ⟨C,hC,hS⟩:=HD.out.row
     obtain ⟨p,hp⟩: ∃ p,l[j]=p:=⟨_,rfl⟩
     have hx:(l.map encR)[j]?=some (encR p):=by rw [List.getElem?_map,List.getElem?_eq_getElem hlt,hp];rfl
     obtain ⟨hc1,hc2⟩:=hS.rest j _ (Nat.le_refl _) hx
     have HS:=hid hS
     have hcl:C.size=c0*2:=hS.size
     have hjn:(j:Int)<(l.length:Int):=by omega
     obtain ⟨p1,p2⟩:=p
     have d1:wr.cell? ⟨g,j*2,none⟩=some (.string p1):=(cell_of_row wr g (j*2) _ _ _ hC).trans hc1
     have d2:wr.cell? ⟨g,j*2+1,none⟩=some (.string p2):=(cell_of_row wr g (j*2+1) _ _ _ hC).trans hc2
     have HE:=hid (fun V=>isKnown_any p1 p2 V)
     have HY:=hid (fun hf=>keptR_yes (l:=l) (j:=j) hlt hf)
     have HX:=hid (fun hf=>keptR_no (l:=l) (j:=j) hlt hf)
     rw [hp] at HY HX
     clear hx hc1 hc2 hS hp
     generalize hi:(keptR l j).length=i at*
     go_upto_region 8 with fail
     have hn:=heap_alloc_new wr (.cells #[.string p1, .string p2] 29)
     have hsz:=World.size_alloc wr (.cells #[.string p1, .string p2] 29)
     have hbW:=(Below.refl wr.heap.size wr).alloc (Nat.le_refl _) (.cells #[.string p1, .string p2] 29)
     have hgr:g<wr.heap.size:=(Array.getElem?_eq_some_iff.1 hC).1
     generalize World.alloc wr _=W at*
     have x0:=cell_of_row W wr.heap.size 0 _ _ _ hn
     have x1:=cell_of_row W wr.heap.size 1 _ _ _ hn
     simp only [List.getElem?_toArray,List.getElem?_cons_zero,List.getElem?_cons_succ] at x0 x1
     go_upto_if 29 with (go_at_call 32;(with_reducible refine (HE.out _).mono ?_);rintro e w5 ⟨rfl,hb5⟩)
     have HC5:=hid (show w5.heap[g]?=some (.cells C 29 (0,0)) from (hb5.block g (by rw [hsz];omega)).trans ((hbW.block g hgr).trans hC))
     have HF5:=hid (show Fg g w1 w5 from (HD.out.fg.trans (Fg.of_below hbW)).trans (Fg.of_below hb5))
     have y0:w5.cell? ⟨wr.heap.size,0,none⟩=some (.string p1):=(hb5.cell (p:=⟨wr.heap.size,0,none⟩) (by show wr.heap.size<_;omega)).trans x0
     have y1:w5.cell? ⟨wr.heap.size,1,none⟩=some (.string p2):=(hb5.cell (p:=⟨wr.heap.size,1,none⟩) (by show wr.heap.size<_;omega)).trans x1
     clear hn hbW hb5 d1 d2 x0 x1 hC HE
     cases hz:M.isKey (tl p1) with
     |true=>
      have HK:=hid (HX.out (by show (!M.isKey (tl p1))=false;rw [hz];rfl))
      clear hz y0 y1
      go_wp2_with fail
      go_roundw
      case rel=>exact ⟨j+1,by go_num,by omega,by rw [HK.out,hi],by rw [HK.out,hi];omega,hid (show DI _ _ _ _ _ _ _ _ from ⟨⟨C,HC5.out,by rw [HK.out];exact HS.out.skip⟩,HF5.out,hgl⟩)⟩
      case measure=>simp [intOf];omega
     |false=>
      have HK:=hid (HY.out (by show (!M.isKey (tl p1))=true;rw [hz];rfl))
      obtain ⟨a0,ha0⟩: ∃ a0,C[i*2]?=some a0:=⟨_,Array.getElem?_eq_getElem (by have:=HNC.out;omega)⟩
      obtain ⟨a1,ha1⟩: ∃ a1,(C.set! (i*2) (.string p1))[i*2+1]?=some a1:=⟨_,Array.getElem?_eq_getElem (by have:=HNC.out;rw [Array.set!_eq_setIfInBounds,Array.size_setIfInBounds];omega)⟩
      have hrw:=heap_setCell_same w5 g (i*2) _ _ (.string p1) HC5.out
      have z0:w5.cell? ⟨g,i*2,none⟩=some a0:=(cell_of_row w5 g (i*2) _ _ _ HC5.out).trans ha0
      have z1:(w5.setCell ⟨g,i*2,none⟩ (.string p1)).cell? ⟨g,i*2+1,none⟩=some a1:=(cell_of_row _ g (i*2+1) _ _ _ hrw).trans (by first|exact ha1|simpa using ha1)
      have f0:=frozen_of_row w5 g (i*2) _ _ HC5.out
      have f1:=frozen_of_row (w5.setCell ⟨g,i*2,none⟩ (.string p1)) g (i*2+1) _ _ hrw
      have hin:(i:Int)<(l.length:Int):=by omega
      have HW5:=hid (show DI w1 ((w5.setCell ⟨g,i*2,none⟩ (.string p1)).setCell ⟨g,i*2+1,none⟩ (.string p2)) g c0 29 (keptR l (j+1)) (l.map encR) (j+1) from by
       refine ⟨⟨(C.set! (i*2) (.string p1)).set! (i*2+1) (.string p2), ?_, ?_⟩,(HF5.out.trans (Fg.set _ g _ _)).trans (Fg.set _ g _ _),hgl⟩
       ·rw [heap_setCell_same _ g (i*2+1) _ _ _ (heap_setCell_same w5 g (i*2) _ _ _ HC5.out)]
        simp
       ·have:=HS.out.put (encR (p1,p2)) (by rw [hi];omega) (by have:=HNC.out;omega)
        rw [hi] at this
        rw [HK.out]
        exact this)
      clear hz
      go_wp2_with fail
      go_roundw
      case rel=>exact ⟨j+1,by go_num,by omega,by rw [HK.out,List.length_append,hi];first|rfl|go_num,by rw [HK.out,List.length_append,List.length_singleton];omega,HW5⟩
      case measure=>simp [intOf];omega
    ·obtain rfl:j=l.length:=by omega
     obtain ⟨C,hC,hS⟩:=HD.out.row
     have HS:=hid hS
     have HFG:=hid HD.out.fg
     have hcl:C.size=c0*2:=hS.size
     have hfin:keptR l l.length=(l.filter other).map encR:=by unfold keptR;rw [List.take_length]
     have HN:=hid (show (l.filter other).length=(keptR l l.length).length by rw [hfin,List.length_map])
     have HK:=hid hfin
     clear hS hfin HD
     generalize hi:(keptR l l.length).length=i at*
     have hcn:l.length≤c0:=HNC.out
     have hcm:c0≤maxLen:=HCM.out
     go_wp2_with (refine wpList_clearR rfl (.tmp 38) rfl g (i*2) (l.length - i) (c0 - i) C (by simp [Act.eval,Act.put]) (by omega) hC (by omega) ?_)
     intro C' hs' hp'
     have HC2:=hid (show (wr.setRow g C').heap[g]?=some (.cells C' 29 (0,0)) from setRow_heap wr g C C' _ _ hC)
     have HB2:=hid (show Below base w (wr.setRow g C') from by
      have hb:=HFG.out.below (HB1.out.mono hbase) HBG.out (Nat.le_trans hbase HB1.out.size)
      refine ⟨hb.os,hb.tape,hb.output,by simpa using hb.size,fun q hq=>(setRow_other wr g q C' (fun e=> ?_)).trans (hb.block q hq)⟩
      have:=HBG.out
      omega)
     have HG2:=hid (show w.grownBy (wr.setRow g C') (some g) from by
      have hb:=(Fg.of_below HB1.out).trans HFG.out
      exact ⟨hb.os,hb.tape,hb.output,by simpa using hb.size,fun q hq hne=>(setRow_other wr g q C' (fun e=>hne (by rw [e]))).trans (hb.block q hq (fun e=>hne (by rw [e])))⟩)
     have HP:=hid hp'
     have HS2:=hid hs'
     clear hp' hs' hC
     generalize wr.setRow g C'=W2 at*
     go_wp2
     go_ret
     refine ⟨.slice (some ⟨g,0,none⟩) i c0,rfl, ?_,HB2.out,HG2.out⟩
     have hn:=HN.out
     have hk2:=HK.out
     have hfr:C'.toList.take ((keptR l l.length).length*2)=flat2 (keptR l l.length):=flat_of_front (fun q x hq=>by
      have hql:=(List.getElem?_eq_some_iff.1 hq).1
      obtain ⟨g1,g2⟩:=HS.out.front q x hq
      exact ⟨(HP.out _ (by omega)).trans g1,(HP.out _ (by omega)).trans g2⟩)
     unfold Px.OwnR
     refine ⟨by rw [rcells_flat,flat2_len,List.length_map], .inr ⟨g,c0,C',by rw [hn],HBG.out,HC2.out,by omega,HCM.out,HS2.out, ?_⟩⟩
     rw [rcells_flat,←hk2,hn,←hi]
     exact hfr
end Go.Proofs.YtjpmpjbembhldaaGreatDoor

namespace Go.Proofs.YtjpmpjbembhldaaGreatDoor
open Go.RowKit Go.Lib
open Px (R2 tl)
attribute [local go_sem ↓] add_plain
theorem run_grow (w:World) (n:Nat) (h0:0<n) (hn:n≤2200000) (ty:TypeId):
  (Builtin.append_ #[22,3] ty #[.slice none 0 0, .int .i64 n]).run Tryz.prog w=
   .ok (.slice (some ⟨w.heap.size,0,none⟩) n (grownCap w n 0 52)) (w.drew.alloc (.cells (Builtin.zeroCells #[.int .i64 0, .int .i64 0] n++Builtin.zeroCells #[.int .i64 0, .int .i64 0] (grownCap w n 0 52 - n)) 52)):=by
 obtain ⟨i0,hi,hz0,hz1,hz2⟩:=info_parts Sp.part_parts
 have hu:Tryz.prog.underlying 3=some (.int .i64):=by kernel_rfl
 have hw:IntKind.i64.wrap (n:Int)=n:=by rw [IntKind.wrap_i64];omega
 have n1: ¬ ((n:Int)<0):=by omega
 have n2: ¬ (281474976710656<(n:Int)*16):=by omega
 have n3:n≠0:=by omega
 have n6: ¬ n≤0:=by omega
 have n4: ¬ (9223372036854775807<(n:Int)):=by omega
 have n5: ¬ (281474976710656<Builtin.nextslicecap n 0*16):=by rw [nextslicecap_zero h0];omega
 simp [Builtin.append_,run_underlying Tryz.underlying22,run_underlying hu,sizeOf,typeInfo,zeroValue,hi,hz0,hz1,hz2,asInt,asIntOf,hw,n1,n2,n3,n4,n5,n6,Question.forced,run_firstCells_none,newRow,grownCap,Value.cells]
 exact fun h=>absurd h (by omega)
theorem wpList_growP {w:World} {ops:Array Oper} {rest:List Oper} {o:Oper} {a:Act} {Q:Exit→Act→World→Prop} (hgd:o.guard=none) (s x:Operand)
  (ho:o.op= .call { callee:= .builtin .append,args:= #[s,x],argTypes:= #[22,3] }) (n:Nat) (h0:0<n) (hn:n≤2200000)
  (hs:a.eval s= .slice none 0 0) (hx:a.eval x= .int .i64 n)
  (h: ∀ c w',Hid (Sp.OwnP w' w.heap.size (.slice (some ⟨w.heap.size,0,none⟩) 0 c) [])→Hid (Below w.heap.size w w')→n≤c→wpList Tryz.prog ops Q rest (a.put o.dst (.slice (some ⟨w.heap.size,0,none⟩) n c)) w'):
  wpList Tryz.prog ops Q (o::rest) a w:=by
 refine wpList_plain hgd fun K hK=> ?_
 unfold Oper.wp execOp
 simp only [ho,resolve,invoke,builtin,Sem.run_bind,Sem.run_pure,Result.andThen_ok,List.map_toArray,List.map_cons,List.map_nil,hs,hx,run_grow w n h0 hn]
 have hge:=grownCap_ge w n 0 52
 refine hK _ _ (h _ _ (hid ?_) (hid ?_) hge)
 ·refine World.ownsRow_made w.drew _ _ (Nat.le_refl _) (grownCap_le_maxLen w n 0 _ (by unfold maxLen;omega)) ?_
  simp only [Array.size_append,size_zeroCells]
  show n*2+_*2=_*2
  omega
 ·exact ((Below.refl _ w).drew).alloc (Nat.le_refl _) _
set_option maxRecDepth 100000 in
set_option maxHeartbeats 1000000 in
theorem grow_any (n:Nat) (hn:n≤2200000) (w:World):
  Calls Tryz.prog 119 #[.slice none 0 0, .int .i64 n] w fun e w'=> ∃ v',e= .returned v'∧Sp.OwnP w' w.heap.size v' []∧Below w.heap.size w w':=by
 by_cases h0:n=0
 ·subst h0
  go_enter Tryz.func119,Tryz.ntmps119
  go_wp2
  go_ret
  exact ⟨_,rfl,Sp.OwnP.nil _ _,Below.refl _ _⟩
 ·have hn1: ¬ ((n:Int)<0):=by omega
  have hn2:(0:Int)<(n:Int):=by omega
  go_enter Tryz.func119,Tryz.ntmps119
  go_wp2_with (refine wpList_growP rfl (.tmp 20) (.tmp 21) rfl n (by omega) hn (by simp [Act.eval,Act.put]) (by simp [Act.eval,Act.put]) ?_)
  intro c W HO HB hc
  go_wp2
  go_ret
  exact ⟨_,rfl,HO.out,HB.out⟩
theorem rdP_reads {w:World} {B n:Nat} {A:Option Addr} {l:List (Int × Int)} (h:Sp.RdP w B A n l):Px.Reads w B 2 A n (Sp.pcells l):=by
 refine ⟨by rw [pcells_flat,flat2_len,List.length_map,h.len],fun hn=> ?_⟩
 obtain ⟨b,off,e,hb,hc⟩:=h.2 hn
 refine ⟨_,e,hb,fun j u hj=> ?_⟩
 rw [Px.add_mk]
 have hjl:j<(Sp.pcells l).length:=(List.getElem?_eq_some_iff.1 hj).1
 rw [pcells_flat,flat2_len,List.length_map] at hjl
 obtain ⟨k,hk⟩: ∃ k,k=j/2:=⟨_,rfl⟩
 have hkl:k<l.length:=by omega
 have hr:=hc k _ (List.getElem?_eq_getElem hkl)
 have hx:=Sp.pcells_at (List.getElem?_eq_getElem hkl)
 rcases Nat.mod_two_eq_zero_or_one j with h2|h2
 ·obtain rfl:j=2*k:=by omega
  rw [hx.1] at hj
  injection hj with hj
  subst hj
  rw [Nat.mul_comm 2 k]
  exact hr.1
 ·obtain rfl:j=2*k+1:=by omega
  rw [hx.2] at hj
  injection hj with hj
  subst hj
  rw [Nat.mul_comm 2 k]
  exact hr.2
theorem wpList_appPs {W:World} {ops:Array Oper} {rest:List Oper} {o:Oper} {a:Act} {Q:Exit→Act→World→Prop} (hgd:o.guard=none) (s x:Operand)
  (ho:o.op= .call { callee:= .builtin .append,args:= #[s,x],argTypes:= #[22,22] })
  (base:Nat) (v:Value) (l m:List (Int × Int)) (B:Nat) (A:Option Addr) (n c:Nat) (hs:a.eval s=v) (hown:Sp.OwnP W base v l) (hbase:base≤W.heap.size)
  (hx:a.eval x= .slice A n c) (hr:Sp.RdP W B A n m) (hl:l.length≤1048576) (hm:n≤1048576)
  (h: ∀ v' w',Hid (Sp.OwnP w' base v' (l++m))→Hid (Below base W w')→wpList Tryz.prog ops Q rest (a.put o.dst v') w'):
  wpList Tryz.prog ops Q (o::rest) a W:=by
 obtain ⟨i0,hi,hz0,hz1,hz2⟩:=info_parts Sp.part_parts
 refine Px.wpList_append_any _ hgd s x 22 ho base 52 i0 (.agg #[.int .i64 0, .int .i64 0]) 2 16 Tryz.underlying22 hi hz0 hz1 hz2 rfl (by decide) v l.length (Sp.pcells l) hs hown B A n c (Sp.pcells m) hx (rdP_reads hr) (Sp.pcells_one m) (by unfold maxLen;omega) (by omega) hbase ?_
 intro v' w' hown' hg hat
 have hml:=hr.len
 refine h v' w' (hid ?_) (hid ?_)
 ·unfold Sp.OwnP
  rw [Sp.pcells_app,List.length_append,hml]
  exact hown'
 ·refine Sp.below_grown (Below.refl base W) hg hbase ?_
  intro g hg
  rcases hown.2 with ⟨rfl,_⟩|⟨g',cap,cur,rfl,hb,_⟩
  ·simp [Value.ownBlock] at hg
  ·have:g'=g:=by simpa [Value.ownBlock] using hg
   omega
def three {α:Type} (k:Nat) (a b c:α):α:=if k=0 then a else if k=1 then b else c
set_option maxRecDepth 100000 in
set_option maxHeartbeats 4000000 in
theorem concat_any (g:Nat) (T:TypeId) (A1 A2:Option Addr) (n1 n2 c1 c2:Nat) (l1 l2:List (Int × Int)) (hn1:n1≤1048576) (hn2:n2≤1048576) (w:World)
  (hg:w.heap[g]?=some (.cells #[.slice A1 n1 c1, .slice A2 n2 c2] T (0,0))) (h1:Sp.RdP w w.heap.size A1 n1 l1) (h2:Sp.RdP w w.heap.size A2 n2 l2):
  Calls Tryz.prog 77 #[.slice (some ⟨g,0,none⟩) 2 2] w fun e w'=> ∃ v',e= .returned v'∧Sp.OwnP w' w.heap.size v' (l1++l2)∧Below w.heap.size w w':=by
 have d0:w.cell? ⟨g,0,none⟩=some (.slice A1 n1 c1):=cell_of_row w g 0 _ _ _ hg
 have d1:w.cell? ⟨g,1,none⟩=some (.slice A2 n2 c2):=cell_of_row w g 1 _ _ _ hg
 have H1:=hid h1
 have H2:=hid h2
 clear h1 h2 hg
 go_enter Tryz.func77,Tryz.ntmps77
 go_wp2
 go_loopw [3,11] (fun sv iv wr=> ∃ (k:Nat),iv= .int .i64 k∧k≤2∧sv=three k (.int .i64 0) (.int .i64 n1) (.int .i64 (n1+n2))∧wr=w) (fun _ iv _=>2 - (intOf iv).toNat)
 case atStart=>exact ⟨0,rfl,by omega,rfl,rfl⟩
 case round=>
  obtain ⟨k,rfl,hk,hs,hw⟩:=hrel
  have hw2:=hw.symm
  clear hw
  subst hw2
  rcases (show k=0∨k=1∨k=2 by omega) with rfl|rfl|rfl
  ·obtain rfl:_=Value.int .i64 0:=hs
   go_wp2
   go_roundw
   case rel=>exact ⟨1,by first|rfl|go_num,by omega,by first|rfl|go_num,by first|rfl|trivial⟩
   case measure=>simp [intOf]
  ·obtain rfl:_=Value.int .i64 n1:=hs
   go_wp2
   go_roundw
   case rel=>exact ⟨2,by first|rfl|go_num,by omega,by first|rfl|go_num,by first|rfl|trivial⟩
   case measure=>simp [intOf]
  ·obtain rfl:_=Value.int .i64 ((n1:Int)+n2):=hs
   have hgr:=grow_any (n1+n2) (by omega)
   rw [Int.natCast_add] at hgr
   have HGR:=hid hgr
   clear hgr
   go_wp2_with fail
   refine (HGR.out _).mono ?_
   rintro e w1 ⟨v1,rfl,ho1,hb1⟩
   have HO1:=hid ho1
   have HB1:=hid hb1
   clear ho1 hb1 HGR
   have e0:w.heap.size≤w1.heap.size:=HB1.out.size
   go_wp2
   go_loopw [6,27] (fun nv iv wq=> ∃ (k:Nat),iv= .int .i64 k∧k≤2∧Hid (Sp.OwnP wq w.heap.size nv (three k [] l1 (l1++l2)))∧Hid (Below w.heap.size w wq)) (fun _ iv _=>2 - (intOf iv).toNat)
   case atStart=>exact ⟨0,by first|rfl|go_num,by omega,HO1,HB1⟩
   case round=>
    clear HO1 HB1 e0
    obtain ⟨k,rfl,hk,HO,HB⟩:=hrel
    have e0:=HB.out.size
    have d0q:=(HB.out.cell (p:=⟨g,0,none⟩) (World.block_lt_of_cell? w _ d0)).trans d0
    have d1q:=(HB.out.cell (p:=⟨g,1,none⟩) (World.block_lt_of_cell? w _ d1)).trans d1
    rcases (show k=0∨k=1∨k=2 by omega) with rfl|rfl|rfl
    ·have HO3:=hid (show Sp.OwnP wr w.heap.size _ [] from HO.out)
     clear HO
     obtain ⟨Av,cv,rfl,_,_⟩:=HO3.out.rd
     go_wp2_with (refine wpList_appPs rfl (.tmp 31) (.tmp 32) rfl w.heap.size (.slice Av ([]:List (Int × Int)).length cv) [] l1 w.heap.size A1 n1 c1 (by simp [Act.eval,Act.put]) HO3.out e0 (by simp [Act.eval,Act.put]) (H1.out.below HB.out) (by simp) hn1 ?_)
     intro v2 w2 HO2 HB2
     clear HO3
     go_wp2
     go_roundw
     case rel=>exact ⟨1,by first|rfl|go_num,by omega,HO2,hid (HB.out.trans HB2.out)⟩
     case measure=>simp [intOf]
    ·have hl1:=H1.out.len
     have HO3:=hid (show Sp.OwnP wr w.heap.size _ l1 from HO.out)
     clear HO
     obtain ⟨Av,cv,rfl,_,_⟩:=HO3.out.rd
     go_wp2_with (refine wpList_appPs rfl (.tmp 31) (.tmp 32) rfl w.heap.size (.slice Av l1.length cv) l1 l2 w.heap.size A2 n2 c2 (by simp [Act.eval,Act.put]) HO3.out e0 (by simp [Act.eval,Act.put]) (H2.out.below HB.out) (by omega) hn2 ?_)
     intro v2 w2 HO2 HB2
     clear HO3
     go_wp2
     go_roundw
     case rel=>exact ⟨2,by first|rfl|go_num,by omega,HO2,hid (HB.out.trans HB2.out)⟩
     case measure=>simp [intOf]
    ·have HO3:=hid (show Sp.OwnP wr w.heap.size _ (l1++l2) from HO.out)
     clear HO
     obtain ⟨Av,cv,rfl,_,_⟩:=HO3.out.rd
     go_wp2
     go_ret
     exact ⟨_,rfl,HO3.out,HB.out⟩
end Go.Proofs.YtjpmpjbembhldaaGreatDoor
