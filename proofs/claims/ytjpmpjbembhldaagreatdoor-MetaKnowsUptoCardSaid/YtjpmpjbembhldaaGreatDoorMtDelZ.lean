/-
  Texts of one chapter, merged.
-/
import Derived.Test.YtjpmpjbembhldaaGreatDoorMtTextZ
import Derived.Test.YtjpmpjbembhldaaGreatDoorKX
import Derived.Test.YtjpmpjbembhldaaGreatDoorKS
import Derived.Test.YtjpmpjbembhldaaGreatDoorMtGive
set_option linter.unusedVariables false
set_option linter.unusedSimpArgs false
namespace Go.Proofs.YtjpmpjbembhldaaGreatDoor
open Go.RowKit Go.Lib
open Px (R2 tl ltB)
theorem add_plain (b off n:Nat):Addr.add ⟨b,off,none⟩ n=⟨b,off+n,none⟩:=by
 unfold Addr.add
 split
 ·rename_i h;subst h;rfl
 ·rfl
attribute [local go_sem ↓] add_plain
theorem leq_last (a b:ByteArray):(Op.bytesLess a.toList b.toList||a.toList==b.toList)= !(ltB (tl b) (tl a)):=by
 rw [bytesLess_eq,ByteArray.toList_eq,ByteArray.toList_eq]
 show (decide (tl a<tl b)||tl a==tl b)= !decide (tl b<tl a)
 rw [Bool.eq_iff_iff]
 simp only [Bool.or_eq_true,decide_eq_true_eq,beq_iff_eq,Bool.not_eq_true',decide_eq_false_iff_not]
 constructor
 ·rintro (h|h)
  ·exact List.not_lt.2 (List.le_of_lt h)
  ·rw [h];exact List.lt_irrefl _
 ·intro h
  have:=List.not_lt.1 h
  rcases List.le_iff_lt_or_eq.1 this with h|h
  ·exact .inl h
  ·exact .inr h
theorem drop_at {α:Type} {l:List α} {k:Nat} (h:k<l.length):l.drop k=l[k]::l.drop (k+1):=List.drop_eq_getElem_cons h
theorem size_empty (s:ByteArray):(s.toList== [])=(s.size==0):=by
 rw [ByteArray.toList_eq]
 by_cases h:s.data.toList= []
 ·have h2:s.size=0:=congrArg List.length h
  rw [h,h2];rfl
 ·have h2:s.size≠0:=fun e=>h (List.eq_nil_of_length_eq_zero e)
  have h3:(s.data.toList== [])=false:=by simpa using h
  rw [h3]
  simpa using h2
set_option maxRecDepth 100000 in
set_option maxHeartbeats 1000000 in
theorem isExtra_any (A:Option Addr) (c:Nat) (l:List R2) (hl:l.length≤1048576) (w:World) (h:Px.RdR w w.heap.size A l):
  Calls Tryz.prog 52 #[.slice A l.length c] w fun e w'=>e= .returned (.bool (M.isExtra [] l))∧Below w.heap.size w w':=by
 have HR:=hid h
 clear h
 go_enter Tryz.func52,Tryz.ntmps52
 go_wp2
 go_loopw [3,8] (fun lv iv wr=> ∃ (k:Nat) (s:ByteArray),lv= .string s∧iv= .int .i64 k∧k≤l.length∧Hid (M.isExtra [] l=M.isExtra (tl s) (l.drop k))∧Hid (Below w.heap.size w wr)) (fun _ iv _=>l.length - (intOf iv).toNat)
 case atStart=>exact ⟨0,⟨#[]⟩,rfl,rfl,Nat.zero_le _,hid rfl,hid (Below.refl _ _)⟩
 case round=>
  obtain ⟨k,s,rfl,rfl,hk,HE,HB⟩:=hrel
  have hbs:=HB.out.size
  by_cases hlt:k<l.length
  ·obtain ⟨b,off,rfl,hbb,hc1,hc2⟩:=(HR.out.below HB.out).at_ hlt
   have HE2:=hid (show M.isExtra [] l=(M.extraOk (tl s) l[k]&&M.isExtra (tl l[k].1) (l.drop (k+1))) by rw [HE.out,drop_at hlt];rfl)
   obtain ⟨r,hr⟩: ∃ r,l[k]=r:=⟨_,rfl⟩
   rw [hr] at hc1 hc2 HE2
   clear hr HE
   have hi2:(k:Int)<(l.length:Int):=by omega
   obtain ⟨r1,r2⟩:=r
   dsimp only at hc1 hc2 HE2
   have HX:=hid (show M.extraOk (tl s) (r1,r2)=(Px.M.right (Px.rc (r1,r2))&&(!M.isKey (tl r1)&&(!(r2.toList== [])&& !(Op.bytesLess r1.toList s.toList||r1.toList==s.toList)))) by
    rw [leq_last,Bool.not_not,size_empty];rfl)
   have HRi:=hid (fun W=>Px.right_any' r1 r2 W)
   have HK:=hid (fun W=>isKnown_any r1 r2 W)
   clear hlt
   go_upto_region 5 with fail
   have hn:=heap_alloc_new wr (.cells #[.string r1, .string r2] 29)
   have hbW:=(Below.refl wr.heap.size wr).alloc (Nat.le_refl _) (.cells #[.string r1, .string r2] 29)
   have hsW:=World.size_alloc wr (.cells #[.string r1, .string r2] 29)
   generalize World.alloc wr _=W at*
   have HBW:=hid (HB.out.trans (hbW.mono hbs))
   have HC:=hid (show ∀ V,Below W.heap.size W V→V.cell? ⟨wr.heap.size,0,none⟩=some (.string r1)∧V.cell? ⟨wr.heap.size,1,none⟩=some (.string r2) from fun V hV=>by
    have e:=(hV.block wr.heap.size (by rw [hsW];omega)).trans hn
    constructor<;>(rw [cell_of_row V wr.heap.size _ _ _ _ e];rfl))
   obtain ⟨g0,g1⟩:=HC.out W (Below.refl _ _)
   clear hn hbW hc1 hc2
   go_wp2_with (first
    |(go_at_call 67;(with_reducible refine (HRi.out _).mono ?_);rintro e w1 ⟨rfl,hb1⟩;(have B1:=hid hb1);obtain ⟨p0,p1⟩:=HC.out w1 hb1;clear hb1)
    |(go_at_call 32;(with_reducible refine (HK.out _).mono ?_);rintro e w2 ⟨rfl,hb2⟩;(have B2:=hid (B1.out.trans (hb2.mono B1.out.size)));obtain ⟨q0,q1⟩:=HC.out w2 B2.out;clear hb2))
   ·go_ret
    exact ⟨ret_bool (by rw [HE2.out,HX.out];simp [*]),HBW.out.trans (B2.out.mono HBW.out.size)⟩
   ·go_ret
    exact ⟨ret_bool (by rw [HE2.out,HX.out];simp [*]),HBW.out.trans (B2.out.mono HBW.out.size)⟩
   ·rename_i hor
    have hx:(!(r2.toList== [])&& !(Op.bytesLess r1.toList s.toList||r1.toList==s.toList))=false:=by
     rcases hor with h|h|h
     ·rw [List.isEmpty_iff] at h;rw [h];rfl
     ·rw [h];simp
     ·rw [h];simp
    go_ret
    exact ⟨ret_bool (by rw [HE2.out,HX.out,hx];simp),HBW.out.trans (B2.out.mono HBW.out.size)⟩
   ·rename_i hkey hne hand
    have hx:(!(r2.toList== [])&& !(Op.bytesLess r1.toList s.toList||r1.toList==s.toList))=true:=by
     rw [hand.2.1,hand.2.2]
     simpa using hne
    have HK2:=hid (show M.isExtra [] l=M.isExtra (tl r1) (l.drop (k+1)) by
     rw [HE2.out,HX.out,hx]
     simp [*])
    go_roundw
    case rel=>exact ⟨k+1,r1,rfl,by go_num,by omega,HK2,hid (HBW.out.trans (B2.out.mono HBW.out.size))⟩
    case measure=>simp [intOf];omega
   ·go_ret
    exact ⟨ret_bool (by rw [HE2.out,HX.out];simp [*]),HBW.out.trans (B1.out.mono HBW.out.size)⟩
  ·obtain rfl:k=l.length:=by omega
   have HE2:=hid (show M.isExtra [] l=true by rw [HE.out,List.drop_length];rfl)
   clear hlt HE
   go_wp2
   go_ret
   exact ⟨ret_bool (by rw [HE2.out]),HB.out⟩
end Go.Proofs.YtjpmpjbembhldaaGreatDoor

namespace Go.Proofs.YtjpmpjbembhldaaGreatDoor
open Go.RowKit Go.Lib
open Px (R2 tl)
attribute [local go_sem ↓] add_plain
def full (p:Int × Int):Bool:= !(p.2==0)
def FirstEmpty (l:List (Int × Int)) (i:Int):Prop:=(i= -1∧l.all full=true)∨ ∃ (k:Nat) (h:k<l.length),i=k∧(l.take k).all full=true∧(l[k].2==0)=true
theorem all_take_succ {l:List (Int × Int)} {k:Nat} (h:k<l.length) (h1:(l.take k).all full=true) (h2:(l[k].2==0)=false):(l.take (k+1)).all full=true:=by
 rw [List.take_succ_eq_append_getElem h,List.all_append,h1]
 simp [full,h2]
set_option maxRecDepth 100000 in
set_option maxHeartbeats 1000000 in
theorem firstEmpty_any (A:Option Addr) (c n:Nat) (l:List (Int × Int)) (hl:n≤1048576) (w:World) (h:Sp.RdP w w.heap.size A n l):
  Calls Tryz.prog 120 #[.slice A n c, .func (.func 79) #[] #[]] w fun e w'=>(∃ i,e= .returned (.int .i64 i)∧FirstEmpty l i)∧Below w.heap.size w w':=by
 have HR:=hid h
 have HN:=hid h.len
 clear h
 go_enter Tryz.func120,Tryz.ntmps120
 go_wp2
 go_loopw [8] (fun iv wr=> ∃ (k:Nat),iv= .int .i64 k∧k≤n∧Hid ((l.take k).all full=true)∧Hid (Below w.heap.size w wr)) (fun iv _=>n - (intOf iv).toNat)
 case atStart=>exact ⟨0,rfl,Nat.zero_le _,hid rfl,hid (Below.refl _ _)⟩
 case round=>
  obtain ⟨k,rfl,hk,HA,HB⟩:=hrel
  have hbs:=HB.out.size
  by_cases hlt:k<n
  ·obtain ⟨b,off,p,rfl,hbb,hp,hc1,hc2⟩:=(HR.out.below HB.out).at_ hlt
   obtain ⟨p1,p2⟩:=p
   dsimp only at hc1 hc2
   have hi2:(k:Int)<(n:Int):=by omega
   have hkl:k<l.length:=by rw [HN.out];exact hlt
   have HP:=hid (show l[k]=(p1,p2) from by
    have:=List.getElem?_eq_getElem hkl
    rw [hp] at this
    exact (Option.some.inj this).symm)
   have HE:=hid (fun W=>isEmpty_any p1 p2 W)
   clear hp hlt
   cases hz:(p2==0) with
   |true=>
    rw [hz] at HE
    have HZ:=hid hz
    clear hz
    go_wp2_with (go_at_call 79;(with_reducible refine (HE.out _).mono ?_);rintro e w1 ⟨rfl,hb1⟩)
    go_ret
    exact ⟨⟨k,rfl, .inr ⟨k,hkl,rfl,HA.out,by rw [HP.out];exact HZ.out⟩⟩,HB.out.trans (hb1.mono hbs)⟩
   |false=>
    rw [hz] at HE
    have HZ:=hid hz
    clear hz
    have HA2:=hid (all_take_succ hkl HA.out (by rw [HP.out];exact HZ.out))
    go_wp2_with (go_at_call 79;(with_reducible refine (HE.out _).mono ?_);rintro e w1 ⟨rfl,hb1⟩)
    go_roundw
    case rel=>exact ⟨k+1,by go_num,by omega,HA2,hid (HB.out.trans (hb1.mono hbs))⟩
    case measure=>simp [intOf];omega
  ·obtain rfl:k=n:=by omega
   have HA2:=hid (show l.all full=true by have:=HA.out;rwa [List.take_of_length_le (by rw [HN.out];exact Nat.le_refl _)] at this)
   clear hlt
   go_wp2
   go_ret
   exact ⟨⟨-1,rfl, .inl ⟨rfl,HA2.out⟩⟩,HB.out⟩
set_option maxRecDepth 100000 in
set_option maxHeartbeats 1000000 in
theorem anyEmpty_any (A:Option Addr) (c n:Nat) (l:List (Int × Int)) (hl:n≤1048576) (w:World) (h:Sp.RdP w w.heap.size A n l):
  Calls Tryz.prog 94 #[.slice A n c, .func (.func 79) #[] #[]] w fun e w'=>e= .returned (.bool (!l.all full))∧Below w.heap.size w w':=by
 have HC:=hid (firstEmpty_any A c n l hl w h)
 clear h
 go_enter Tryz.func94,Tryz.ntmps94
 go_wp2_with fail
 refine HC.out.mono ?_
 rintro e w1 ⟨⟨i,rfl,hi⟩,hb1⟩
 have HB:=hid hb1
 have HI:=hid (show (!l.all full)=decide (i≥0) by
  rcases hi with ⟨rfl,h2⟩|⟨k,h1,rfl,h2,h3⟩
  ·rw [h2];rfl
  ·have h4:l.all full=false:=by
    rw [List.all_eq_false]
    exact ⟨l[k],List.getElem_mem h1,by simp [full,h3]⟩
   rw [h4];simp)
 clear hi hb1 HC
 go_wp2
 go_ret
 exact ⟨ret_bool (by rw [HI.out]),HB.out⟩
set_option maxRecDepth 100000 in
set_option maxHeartbeats 1000000 in
theorem hasHoles_any (m:M.Met) (pv ev:Value) (w:World) (hm:MIn w m pv ev):Calls Tryz.prog 53 #[.agg (mcells m pv ev)] w fun e w'=>e= .returned (.bool (M.hasHoles m))∧Below w.heap.size w w':=by
 have hb1:Below w.heap.size w (w.alloc (.cells (mcells m pv ev) 45)):=(Below.refl _ _).alloc (Nat.le_refl _) _
 have HW:=hid hb1
 have HE:=hid (show M.hasHoles m=(m.kind==48&&(m.parts.all full&&(Sp.M.check m.parts m.size m.real==0))) from rfl)
 obtain ⟨A,c,rfl,hr⟩:=hm.parts
 have B1:=hid (MB.new w m (.slice A m.parts.length c) ev)
 have HN:=hid hm.nparts
 have HI:=hid hm.i64s
 have HR:=hid (fun V (hV:Below w.heap.size w V)=>(hr.below hV).more hV.size)
 clear hm hb1 hr
 have HF:=hid (show ∀ V,Below (w.heap.size+1) (w.alloc (.cells (mcells m (.slice A m.parts.length c) ev) 45)) V→V.cell? ⟨w.heap.size,2,none⟩=some (.int .u8 m.kind)∧V.cell? ⟨w.heap.size,12,none⟩=some (.int .i64 m.size)∧V.cell? ⟨w.heap.size,13,none⟩=some (.int .i64 m.real)∧V.cell? ⟨w.heap.size,15,none⟩=some (.slice A m.parts.length c) from fun V hV=>by
  have hb:MB V w.heap.size m (.slice A m.parts.length c) ev:=B1.out.below hV (by omega)
  exact ⟨hb.cell (i:=2) rfl,hb.cell (i:=12) rfl,hb.cell (i:=13) rfl,hb.cell (i:=15) rfl⟩)
 have hsz:=World.size_alloc w (.cells (mcells m (.slice A m.parts.length c) ev) 45)
 clear B1
 go_enter Tryz.func53,Tryz.ntmps53
 go_upto_region 1 with fail
 generalize World.alloc w _=W at*
 obtain ⟨x2,x12,x13,x15⟩:=HF.out W (Below.refl _ _)
 have H1:=hid (fun V hV=>anyEmpty_any A c m.parts.length m.parts HN.out V (HR.out V hV))
 have H2:=hid (fun V hV=>Sp.check_any A m.parts.length c m.parts m.size m.real V (HR.out V hV) HI.out HN.out)
 clear HR HN HI
 generalize m.parts.length=n at*
 go_wp2_with (first
  |(go_at_call 94;(with_reducible refine (H1.out _ HW.out).mono ?_);rintro e w1 ⟨rfl,hb1⟩;(have B1:=hid hb1);obtain ⟨y2,y12,y13,y15⟩:=HF.out w1 (hsz▸hb1);clear hb1)
  |(go_at_call 95;(with_reducible refine (H2.out _ (HW.out.trans (B1.out.mono HW.out.size))).mono ?_);rintro e w2 ⟨rfl,hb2⟩;(have B2:=hid (B1.out.trans (hb2.mono B1.out.size)));clear hb2))
 all_goals first
  |(exfalso;simp_all;done)
  |(go_ret
    first
     |exact ⟨ret_bool (by rw [HE.out];simp [*]),HW.out.trans (B2.out.mono HW.out.size)⟩
     |exact ⟨ret_bool (by rw [HE.out];simp [*]),HW.out.trans (B1.out.mono HW.out.size)⟩
     |exact ⟨ret_bool (by rw [HE.out];simp [*]),HW.out⟩)
end Go.Proofs.YtjpmpjbembhldaaGreatDoor

namespace Go.Proofs.YtjpmpjbembhldaaGreatDoor
open Go.RowKit Go.Lib
def At2 (C:Array Value) (k:Nat) (x:Value × Value):Prop:=C[k*2]?=some x.1∧C[k*2+1]?=some x.2
structure Sift (C:Array Value) (cap:Nat) (F L:List (Value × Value)) (j:Nat):Prop where
 size:C.size=cap*2
 front: ∀ (k:Nat) (x:Value × Value),F[k]?=some x→At2 C k x
 rest: ∀ (k:Nat) (x:Value × Value),j≤k→L[k]?=some x→At2 C k x
theorem Sift.skip {C:Array Value} {cap j:Nat} {F L:List (Value × Value)} (h:Sift C cap F L j):Sift C cap F L (j+1):=⟨h.size,h.front,fun k x hk=>h.rest k x (by omega)⟩
theorem Sift.put {C:Array Value} {cap j:Nat} {F L:List (Value × Value)} (h:Sift C cap F L j) (x:Value × Value) (hF:F.length≤j) (hj:j<cap):
  Sift ((C.set! (F.length*2) x.1).set! (F.length*2+1) x.2) cap (F++ [x]) L (j+1):=by
 have hs:=h.size
 have get: ∀ i,((C.set! (F.length*2) x.1).set! (F.length*2+1) x.2)[i]?=if i=F.length*2+1 then some x.2 else if i=F.length*2 then some x.1 else C[i]?:=by
  intro i
  rw [Array.set!_eq_setIfInBounds,Array.set!_eq_setIfInBounds,Array.getElem?_setIfInBounds,Array.getElem?_setIfInBounds,Array.size_setIfInBounds]
  by_cases h1:F.length*2+1=i
  ·rw [if_pos h1,if_pos (by omega)]
   rw [if_pos h1.symm]
  ·rw [if_neg h1]
   by_cases h2:F.length*2=i
   ·rw [if_pos h2,if_pos (by omega)]
    rw [if_neg (fun e=>h1 e.symm),if_pos h2.symm]
   ·rw [if_neg h2]
    rw [if_neg (fun e=>h1 e.symm),if_neg (fun e=>h2 e.symm)]
 refine ⟨by simp [hs],fun k y hk=> ?_,fun k y hk hy=> ?_⟩
 ·rw [List.getElem?_append] at hk
  by_cases hlt:k<F.length
  ·rw [if_pos hlt] at hk
   have:=h.front k y hk
   exact ⟨by rw [get,if_neg (by omega),if_neg (by omega)];exact this.1,by rw [get,if_neg (by omega),if_neg (by omega)];exact this.2⟩
  ·rw [if_neg hlt] at hk
   obtain rfl:k=F.length:=by
    have:k - F.length<1:=by
     have:=(List.getElem?_eq_some_iff.1 hk).1
     simpa using this
    omega
   rw [Nat.sub_self] at hk
   simp only [List.getElem?_cons_zero,Option.some.injEq] at hk
   subst hk
   exact ⟨by rw [get,if_neg (by omega),if_pos rfl],by rw [get,if_pos rfl]⟩
 ·have:=h.rest k y (by omega) hy
  exact ⟨by rw [get,if_neg (by omega),if_neg (by omega)];exact this.1,by rw [get,if_neg (by omega),if_neg (by omega)];exact this.2⟩
def flat2 (L:List (Value × Value)):List Value:=L.flatMap fun x=> [x.1,x.2]
theorem flat2_len (L:List (Value × Value)):(flat2 L).length=L.length*2:=by
 induction L with
 |nil=>rfl
 |cons x L ih=>unfold flat2 at ih⊢;rw [List.flatMap_cons,List.length_append,ih,List.length_cons];simp;omega
theorem flat2_at: ∀ {L:List (Value × Value)} {k:Nat} {x:Value × Value},L[k]?=some x→(flat2 L)[k*2]?=some x.1∧(flat2 L)[k*2+1]?=some x.2
 | [],k,x,h=>by simp at h
 |y::L,0,x,h=>by
  simp at h;subst h
  exact ⟨rfl,rfl⟩
 |y::L,k+1,x,h=>by
  have ih:=flat2_at (L:=L) (k:=k) (x:=x) (by simpa using h)
  have e:flat2 (y::L)=y.1::y.2::flat2 L:=rfl
  rw [e,show (k+1)*2=k*2+1+1 by omega]
  exact ⟨by simpa using ih.1,by simpa using ih.2⟩
theorem sift_of_flat {C:Array Value} {cap n:Nat} {L:List (Value × Value)} (hs:C.size=cap*2) (hn:L.length=n) (ht:C.toList.take (n*2)=flat2 L) (j:Nat) (F:List (Value × Value)) (hF: ∀ (k:Nat) (x:Value × Value),F[k]?=some x→L[k]?=some x):Sift C cap F L j:=by
 have key: ∀ (k:Nat) (x:Value × Value),L[k]?=some x→At2 C k x:=by
  intro k x hk
  have hl:k<n:=by rw [←hn];exact (List.getElem?_eq_some_iff.1 hk).1
  obtain ⟨h1,h2⟩:=flat2_at hk
  have i1:k*2<n*2:=by omega
  have i2:k*2+1<n*2:=by omega
  rw [←ht,List.getElem?_take,if_pos i1] at h1
  rw [←ht,List.getElem?_take,if_pos i2] at h2
  exact ⟨by simpa using h1,by simpa using h2⟩
 exact ⟨hs,fun k x hk=>key k x (hF k x hk),fun k x _ hk=>key k x hk⟩
theorem flat_of_front {C:Array Value} {F:List (Value × Value)} (h: ∀ (k:Nat) (x:Value × Value),F[k]?=some x→At2 C k x):C.toList.take (F.length*2)=flat2 F:=by
 refine List.ext_getElem? fun i=> ?_
 rw [List.getElem?_take]
 by_cases hi:i<F.length*2
 ·rw [if_pos hi]
  have hk:i/2<F.length:=by omega
  have hx:=List.getElem?_eq_getElem hk
  obtain ⟨h1,h2⟩:=h _ _ hx
  obtain ⟨h3,h4⟩:=flat2_at hx
  rcases Nat.mod_two_eq_zero_or_one i with he|he
  ·have e:i/2*2=i:=by omega
   rw [e] at h1 h3
   rw [h3,←h1];simp
  ·have e:i/2*2+1=i:=by omega
   rw [e] at h2 h4
   rw [h4,←h2];simp
 ·rw [if_neg hi,List.getElem?_eq_none (by rw [flat2_len];omega)]
structure DI (w wx:World) (g cap:Nat) (T:TypeId) (F L:List (Value × Value)) (j:Nat):Prop where
 row: ∃ C,wx.heap[g]?=some (.cells C T (0,0))∧Sift C cap F L j
 fg:Fg g w wx
 lt:g<w.heap.size
end Go.Proofs.YtjpmpjbembhldaaGreatDoor

namespace Go.Proofs.YtjpmpjbembhldaaGreatDoor
open Go.RowKit Go.Lib
open Px (R2 tl)
attribute [local go_sem ↓] add_plain
def encP (p:Int × Int):Value × Value:=(.int .i64 p.1, .int .i64 p.2)
theorem pcells_flat (l:List (Int × Int)):Sp.pcells l=flat2 (l.map encP):=by
 unfold Sp.pcells flat2
 rw [List.flatMap_map]
 rfl
def keptP (l:List (Int × Int)) (j:Nat):List (Value × Value):=((l.take j).filter full).map encP
theorem keptP_yes {l:List (Int × Int)} {j:Nat} (h:j<l.length) (hf:full l[j]=true):keptP l (j+1)=keptP l j++ [encP l[j]]:=by
 unfold keptP
 rw [List.take_succ_eq_append_getElem h,List.filter_append,List.map_append]
 simp [List.filter_cons,hf]
theorem keptP_no {l:List (Int × Int)} {j:Nat} (h:j<l.length) (hf:full l[j]=false):keptP l (j+1)=keptP l j:=by
 unfold keptP
 rw [List.take_succ_eq_append_getElem h,List.filter_append,List.map_append]
 simp [List.filter_cons,hf]
theorem keptP_all {l:List (Int × Int)} {j:Nat} (h:(l.take j).all full=true):keptP l j=(l.take j).map encP:=by
 unfold keptP
 rw [List.filter_eq_self.2 (fun x hx=>List.all_eq_true.1 h x hx)]
theorem wpList_clear2 {ops:Array Oper} {rest:List Oper} {o:Oper} {a:Act} {w:World} {Q:Exit→Act→World→Prop} (hgd:o.guard=none) (x:Operand)
  (ho:o.op= .call { callee:= .builtin .clear,args:= #[x],argTypes:= #[22] }) (g off m c:Nat) (C:Array Value) (hx:a.eval x= .slice (some ⟨g,off,none⟩) m c) (hm:0<m)
  (hb:w.heap[g]?=some (.cells C 52 (0,0))) (hl:off+m*2≤C.size)
  (h: ∀ C':Array Value,C'.size=C.size→(∀ k,k<off→C'[k]?=C[k]?)→wpList Tryz.prog ops Q rest (a.put o.dst (.tuple #[])) (w.setRow g C')):wpList Tryz.prog ops Q (o::rest) a w:=by
 refine wpList_plain hgd fun K hK=> ?_
 have hz: ∀ w,(zeroValue 52).run Tryz.prog w= .ok (.agg #[.int .i64 0, .int .i64 0]) w:=fun w=>by kernel_rfl
 obtain ⟨n,rfl⟩: ∃ n,m=n+1:=⟨m - 1,by omega⟩
 have hlen:(Builtin.zeroCells #[Value.int .i64 0, .int .i64 0] (n+1)).toList.length=(n+1)*2:=by simp [Builtin.zeroCells]
 have hst:=run_storeCells_at Tryz.prog g off 52 (Builtin.zeroCells #[Value.int .i64 0, .int .i64 0] (n+1)).toList 0 C w hb (by rw [hlen];omega) (by
  intro v hv
  unfold Builtin.zeroCells at hv
  simp only [Array.toList_map,List.mem_map] at hv
  obtain ⟨i,_,rfl⟩:=hv
  rcases Nat.mod_two_eq_zero_or_one i with e|e<;>simp [e,Value.oneCell'])
 have hrun:(Builtin.clear_ #[22] o.type #[.slice (some ⟨g,off,none⟩) (n+1) c]).run Tryz.prog w= .ok (.tuple #[]) (w.setRow g (C.toList.take (off+0)++(Builtin.zeroCells #[Value.int .i64 0, .int .i64 0] (n+1)).toList++C.toList.drop (off+0+(Builtin.zeroCells #[Value.int .i64 0, .int .i64 0] (n+1)).toList.length)).toArray):=by
  simp [Builtin.clear_,run_underlying Tryz.underlying22,hz,hst,Value.cells]
 unfold Oper.wp execOp
 simp only [ho,resolve,invoke,builtin,Sem.run_bind,Sem.run_pure,Result.andThen_ok,List.map_toArray,List.map_cons,List.map_nil,hx,hrun]
 refine hK _ _ (h _ ?_ ?_)
 ·have h1:C.toList.length=C.size:=by simp
  simp only [List.size_toArray,List.length_append,List.length_take,List.length_drop,hlen,h1]
  omega
 ·intro k hk
  have h1:C.toList.length=C.size:=by simp
  simp only [List.getElem?_toArray,Nat.add_zero]
  rw [List.append_assoc,List.getElem?_append_left (by rw [List.length_take,h1];omega),List.getElem?_take,if_pos hk]
  simp
set_option maxRecDepth 100000 in
set_option maxHeartbeats 4000000 in
theorem deleteP_any (v:Value) (l:List (Int × Int)) (base:Nat) (hl:l.length≤1048576) (w:World) (h:Sp.OwnP w base v l) (hbase:base≤w.heap.size):
  Calls Tryz.prog 78 #[v, .func (.func 79) #[] #[]] w fun e w'=> ∃ v',e= .returned v'∧Sp.OwnP w' base v' (l.filter full)∧Below base w w':=by
 obtain ⟨A0,c0,rfl,hrd,hc0⟩:=h.rd
 have HI:=hid (firstEmpty_any A0 c0 l.length l hl w hrd)
 have HO:=hid h
 clear h hrd
 go_enter Tryz.func78,Tryz.ntmps78
 go_wp2_with fail
 refine HI.out.mono ?_
 rintro e w1 ⟨⟨i,rfl,hi⟩,hb1⟩
 have HO1:=hid (HO.out.later hb1)
 have HB1:=hid hb1
 clear hb1 HI
 rcases hi with ⟨rfl,hall⟩|⟨k,hk,rfl,hfr,hek⟩
 ·have HF:=hid (show l.filter full=l from List.filter_eq_self.2 (fun x hx=>List.all_eq_true.1 hall x hx))
  clear hall
  go_wp2
  go_ret
  exact ⟨_,rfl,by rw [HF.out];exact HO1.out,HB1.out.mono hbase⟩
 ·obtain ⟨_,hor⟩:=HO1.out
  rcases hor with ⟨he,h0⟩|⟨g,cap,cur,he,hbg,hrow,hnc,hcm,hcs,htk⟩
  ·exfalso;omega
  ·injection he with he1 _ he3
   subst he1 he3
   have hno:full l[k]=false:=by unfold full;rw [hek];rfl
   have hk1:keptP l (k+1)=(l.take k).map encP:=(keptP_no hk hno).trans (keptP_all hfr)
   have hgl:g<w1.heap.size:=(Array.getElem?_eq_some_iff.1 hrow).1
   have HD0:=hid (show DI w1 w1 g c0 52 (keptP l (k+1)) (l.map encP) (k+1) from
    ⟨⟨cur,hrow,sift_of_flat hcs (n:=l.length) (by rw [List.length_map]) (htk.trans (pcells_flat l)) _ _ (by
      intro q x hq
      rw [hk1,List.getElem?_map,List.getElem?_take] at hq
      rw [List.getElem?_map]
      split at hq
      ·exact hq
      ·simp at hq)⟩,Fg.refl _ _,hgl⟩)
   have hlk:(keptP l (k+1)).length=k:=by
    rw [hk1,List.length_map,List.length_take];omega
   have HBG:=hid hbg
   have HNC:=hid hnc
   have HCM:=hid hcm
   clear hrow hcs htk hbg hnc hcm hfr hek hno hk1 HO1 HO
   go_wp2
   rename_i hkk _ _
   simp only [hkk]
   go_loopw [5,6] (fun iv jv wr=> ∃ (j:Nat),jv= .int .i64 j∧j≤l.length∧iv= .int .i64 (keptP l j).length∧(keptP l j).length<j∧Hid (DI w1 wr g c0 52 (keptP l j) (l.map encP) j)) (fun _ jv _=>l.length - (intOf jv).toNat)
   case atStart=>exact ⟨k+1,by first|rfl|go_num,by omega,by rw [hlk],by omega,HD0⟩
   case round=>
    clear HD0 hlk
    obtain ⟨j,rfl,hj,rfl,hij,HD⟩:=hrel
    by_cases hlt:j<l.length
    ·obtain ⟨C,hC,hS⟩:=HD.out.row
     obtain ⟨p,hp⟩: ∃ p,l[j]=p:=⟨_,rfl⟩
     have hx:(l.map encP)[j]?=some (encP p):=by rw [List.getElem?_map,List.getElem?_eq_getElem hlt,hp];rfl
     obtain ⟨hc1,hc2⟩:=hS.rest j _ (Nat.le_refl _) hx
     have HS:=hid hS
     have hcl:C.size=c0*2:=hS.size
     have hjn:(j:Int)<(l.length:Int):=by omega
     obtain ⟨p1,p2⟩:=p
     have d1:wr.cell? ⟨g,j*2,none⟩=some (.int .i64 p1):=(cell_of_row wr g (j*2) _ _ _ hC).trans hc1
     have d2:wr.cell? ⟨g,j*2+1,none⟩=some (.int .i64 p2):=(cell_of_row wr g (j*2+1) _ _ _ hC).trans hc2
     have HE:=hid (fun V=>isEmpty_any p1 p2 V)
     have HY:=hid (fun hf=>keptP_yes (l:=l) (j:=j) hlt hf)
     have HX:=hid (fun hf=>keptP_no (l:=l) (j:=j) hlt hf)
     rw [hp] at HY HX
     clear hx hc1 hc2 hS hp
     generalize hi:(keptP l j).length=i at*
     go_upto_region 8 with fail
     have hn:=heap_alloc_new wr (.cells #[.int .i64 p1, .int .i64 p2] 52)
     have hsz:=World.size_alloc wr (.cells #[.int .i64 p1, .int .i64 p2] 52)
     have hbW:=(Below.refl wr.heap.size wr).alloc (Nat.le_refl _) (.cells #[.int .i64 p1, .int .i64 p2] 52)
     have hgr:g<wr.heap.size:=(Array.getElem?_eq_some_iff.1 hC).1
     generalize World.alloc wr _=W at*
     have x0:=cell_of_row W wr.heap.size 0 _ _ _ hn
     have x1:=cell_of_row W wr.heap.size 1 _ _ _ hn
     simp only [List.getElem?_toArray,List.getElem?_cons_zero,List.getElem?_cons_succ] at x0 x1
     go_upto_if 29 with (go_at_call 79;(with_reducible refine (HE.out _).mono ?_);rintro e w5 ⟨rfl,hb5⟩)
     have HC5:=hid (show w5.heap[g]?=some (.cells C 52 (0,0)) from (hb5.block g (by rw [hsz];omega)).trans ((hbW.block g hgr).trans hC))
     have HF5:=hid (show Fg g w1 w5 from (HD.out.fg.trans (Fg.of_below hbW)).trans (Fg.of_below hb5))
     have y0:w5.cell? ⟨wr.heap.size,0,none⟩=some (.int .i64 p1):=(hb5.cell (p:=⟨wr.heap.size,0,none⟩) (by show wr.heap.size<_;omega)).trans x0
     have y1:w5.cell? ⟨wr.heap.size,1,none⟩=some (.int .i64 p2):=(hb5.cell (p:=⟨wr.heap.size,1,none⟩) (by show wr.heap.size<_;omega)).trans x1
     clear hn hbW hb5 d1 d2 x0 x1 hC HE
     cases hz:(p2==0) with
     |true=>
      have HK:=hid (HX.out (by show (!(p2==0))=false;rw [hz];rfl))
      clear hz y0 y1
      go_wp2_with fail
      go_roundw
      case rel=>exact ⟨j+1,by go_num,by omega,by rw [HK.out,hi],by rw [HK.out,hi];omega,hid (show DI _ _ _ _ _ _ _ _ from ⟨⟨C,HC5.out,by rw [HK.out];exact HS.out.skip⟩,HF5.out,hgl⟩)⟩
      case measure=>simp [intOf];omega
     |false=>
      have HK:=hid (HY.out (by show (!(p2==0))=true;rw [hz];rfl))
      obtain ⟨a0,ha0⟩: ∃ a0,C[i*2]?=some a0:=⟨_,Array.getElem?_eq_getElem (by have:=HNC.out;omega)⟩
      obtain ⟨a1,ha1⟩: ∃ a1,(C.set! (i*2) (.int .i64 p1))[i*2+1]?=some a1:=⟨_,Array.getElem?_eq_getElem (by have:=HNC.out;rw [Array.set!_eq_setIfInBounds,Array.size_setIfInBounds];omega)⟩
      have hrw:=heap_setCell_same w5 g (i*2) _ _ (.int .i64 p1) HC5.out
      have z0:w5.cell? ⟨g,i*2,none⟩=some a0:=(cell_of_row w5 g (i*2) _ _ _ HC5.out).trans ha0
      have z1:(w5.setCell ⟨g,i*2,none⟩ (.int .i64 p1)).cell? ⟨g,i*2+1,none⟩=some a1:=(cell_of_row _ g (i*2+1) _ _ _ hrw).trans (by first|exact ha1|simpa using ha1)
      have f0:=frozen_of_row w5 g (i*2) _ _ HC5.out
      have f1:=frozen_of_row (w5.setCell ⟨g,i*2,none⟩ (.int .i64 p1)) g (i*2+1) _ _ hrw
      have hin:(i:Int)<(l.length:Int):=by omega
      have HW5:=hid (show DI w1 ((w5.setCell ⟨g,i*2,none⟩ (.int .i64 p1)).setCell ⟨g,i*2+1,none⟩ (.int .i64 p2)) g c0 52 (keptP l (j+1)) (l.map encP) (j+1) from by
       refine ⟨⟨(C.set! (i*2) (.int .i64 p1)).set! (i*2+1) (.int .i64 p2), ?_, ?_⟩,(HF5.out.trans (Fg.set _ g _ _)).trans (Fg.set _ g _ _),hgl⟩
       ·rw [heap_setCell_same _ g (i*2+1) _ _ _ (heap_setCell_same w5 g (i*2) _ _ _ HC5.out)]
        simp
       ·have:=HS.out.put (encP (p1,p2)) (by rw [hi];omega) (by have:=HNC.out;omega)
        rw [hi] at this
        rw [HK.out]
        exact this)
      clear hz
      go_wp2_with fail
      go_roundw
      case rel=>exact ⟨j+1,by go_num,by omega,by rw [HK.out,List.length_append,hi];first|rfl|go_num,by rw [HK.out,List.length_append,List.length_singleton];omega,HW5⟩
      case measure=>simp [intOf];omega
    ·obtain rfl:j=l.length:=by omega
     obtain ⟨C,hC,hS⟩:=HD.out.row
     have HS:=hid hS
     have HFG:=hid HD.out.fg
     have hcl:C.size=c0*2:=hS.size
     have hfin:keptP l l.length=(l.filter full).map encP:=by unfold keptP;rw [List.take_length]
     have HN:=hid (show (l.filter full).length=(keptP l l.length).length by rw [hfin,List.length_map])
     have HK:=hid hfin
     clear hS hfin HD
     generalize hi:(keptP l l.length).length=i at*
     have hcn:l.length≤c0:=HNC.out
     have hcm:c0≤maxLen:=HCM.out
     go_wp2_with (refine wpList_clear2 rfl (.tmp 38) rfl g (i*2) (l.length - i) (c0 - i) C (by simp [Act.eval,Act.put]) (by omega) hC (by omega) ?_)
     intro C' hs' hp'
     have HC2:=hid (show (wr.setRow g C').heap[g]?=some (.cells C' 52 (0,0)) from setRow_heap wr g C C' _ _ hC)
     have HB2:=hid (show Below base w (wr.setRow g C') from by
      have hb:=HFG.out.below (HB1.out.mono hbase) HBG.out (Nat.le_trans hbase HB1.out.size)
      refine ⟨hb.os,hb.tape,hb.output,by simpa using hb.size,fun q hq=>(setRow_other wr g q C' (fun e=> ?_)).trans (hb.block q hq)⟩
      have:=HBG.out
      omega)
     have HP:=hid hp'
     have HS2:=hid hs'
     clear hp' hs' hC
     generalize wr.setRow g C'=W2 at*
     go_wp2
     go_ret
     refine ⟨.slice (some ⟨g,0,none⟩) i c0,rfl, ?_,HB2.out⟩
     have hn:=HN.out
     have hk2:=HK.out
     have hfr:C'.toList.take ((keptP l l.length).length*2)=flat2 (keptP l l.length):=flat_of_front (fun q x hq=>by
      have hql:=(List.getElem?_eq_some_iff.1 hq).1
      obtain ⟨g1,g2⟩:=HS.out.front q x hq
      exact ⟨(HP.out _ (by omega)).trans g1,(HP.out _ (by omega)).trans g2⟩)
     unfold Sp.OwnP
     refine ⟨by rw [pcells_flat,flat2_len,List.length_map], .inr ⟨g,c0,C',by rw [hn],HBG.out,HC2.out,by omega,HCM.out,HS2.out, ?_⟩⟩
     rw [pcells_flat,←hk2,hn,←hi]
     exact hfr
end Go.Proofs.YtjpmpjbembhldaaGreatDoor
