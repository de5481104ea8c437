/-
  Texts of one chapter, merged.
-/
import Derived.Test.YtgbgngdakkiclaaGreatDoorMtTextZ
import Derived.Test.YtgbgngdakkiclaaGreatDoorKX
import Derived.Test.YtgbgngdakkiclaaGreatDoorKS
import Derived.Test.YtgbgngdakkiclaaGreatDoorMtGive
set_option linter.unusedVariables false
set_option linter.unusedSimpArgs false
namespace Go.Proofs.YtgbgngdakkiclaaGreatDoor
open Go.RowKit Go.Lib
open Px (R2 tl ltB)
theorem add_plain (b off n:Nat):Addr.add ⟨b,off,none⟩ n=⟨b,off+n,none⟩:=by
 unfold Addr.add
 split
 ·rename_i h;subst h;rfl
 ·rfl
attribute [local go_sem ↓] add_plain
theorem leq_last (a b:ByteArray):(Op.bytesLess a.toList b.toList||a.toList==b.toList)= !(ltB (tl b) (tl a)):=by
 rw [bytesLess_eq,ByteArray.toList_eq,ByteArray.toList_eq]
 show (decide (tl a<tl b)||tl a==tl b)= !decide (tl b<tl a)
 rw [Bool.eq_iff_iff]
 simp only [Bool.or_eq_true,decide_eq_true_eq,beq_iff_eq,Bool.not_eq_true',decide_eq_false_iff_not]
 constructor
 ·rintro (h|h)
  ·exact List.not_lt.2 (List.le_of_lt h)
  ·rw [h];exact List.lt_irrefl _
 ·intro h
  have:=List.not_lt.1 h
  rcases List.le_iff_lt_or_eq.1 this with h|h
  ·exact .inl h
  ·exact .inr h
theorem drop_at {α:Type} {l:List α} {k:Nat} (h:k<l.length):l.drop k=l[k]::l.drop (k+1):=List.drop_eq_getElem_cons h
theorem size_empty (s:ByteArray):(s.toList== [])=(s.size==0):=by
 rw [ByteArray.toList_eq]
 by_cases h:s.data.toList= []
 ·have h2:s.size=0:=congrArg List.length h
  rw [h,h2];rfl
 ·have h2:s.size≠0:=fun e=>h (List.eq_nil_of_length_eq_zero e)
  have h3:(s.data.toList== [])=false:=by simpa using h
  rw [h3]
  simpa using h2
set_option maxRecDepth 100000 in
set_option maxHeartbeats 1000000 in
theorem isExtra_any (A:Option Addr) (c:Nat) (l:List R2) (hl:l.length≤1048576) (w:World) (h:Px.RdR w w.heap.size A l):
  Calls Tryz.prog 84 #[.slice A l.length c] w fun e w'=>e= .returned (.bool (M.isExtra [] l))∧Below w.heap.size w w':=by
 have HR:=hid h
 clear h
 go_enter Tryz.func84,Tryz.ntmps84
 go_wp2
 go_loopw [3,8] (fun lv iv wr=> ∃ (k:Nat) (s:ByteArray),lv= .string s∧iv= .int .i64 k∧k≤l.length∧Hid (M.isExtra [] l=M.isExtra (tl s) (l.drop k))∧Hid (Below w.heap.size w wr)) (fun _ iv _=>l.length - (intOf iv).toNat)
 case atStart=>exact ⟨0,⟨#[]⟩,rfl,rfl,Nat.zero_le _,hid rfl,hid (Below.refl _ _)⟩
 case round=>
  obtain ⟨k,s,rfl,rfl,hk,HE,HB⟩:=hrel
  have hbs:=HB.out.size
  by_cases hlt:k<l.length
  ·obtain ⟨b,off,rfl,hbb,hc1,hc2⟩:=(HR.out.below HB.out).at_ hlt
   have HE2:=hid (show M.isExtra [] l=(M.extraOk (tl s) l[k]&&M.isExtra (tl l[k].1) (l.drop (k+1))) by rw [HE.out,drop_at hlt];rfl)
   obtain ⟨r,hr⟩: ∃ r,l[k]=r:=⟨_,rfl⟩
   rw [hr] at hc1 hc2 HE2
   clear hr HE
   have hi2:(k:Int)<(l.length:Int):=by omega
   obtain ⟨r1,r2⟩:=r
   dsimp only at hc1 hc2 HE2
   have HX:=hid (show M.extraOk (tl s) (r1,r2)=(Px.M.right (Px.rc (r1,r2))&&(!M.isKey (tl r1)&&(!(r2.toList== [])&& !(Op.bytesLess r1.toList s.toList||r1.toList==s.toList)))) by
    rw [leq_last,Bool.not_not,size_empty];rfl)
   have HRi:=hid (fun W=>Px.right_any' r1 r2 W)
   have HK:=hid (fun W=>isKnown_any r1 r2 W)
   clear hlt
   go_upto_region 5 with fail
   have hn:=heap_alloc_new wr (.cells #[.string r1, .string r2] 47)
   have hbW:=(Below.refl wr.heap.size wr).alloc (Nat.le_refl _) (.cells #[.string r1, .string r2] 47)
   have hsW:=World.size_alloc wr (.cells #[.string r1, .string r2] 47)
   generalize World.alloc wr _=W at*
   have HBW:=hid (HB.out.trans (hbW.mono hbs))
   have HC:=hid (show ∀ V,Below W.heap.size W V→V.cell? ⟨wr.heap.size,0,none⟩=some (.string r1)∧V.cell? ⟨wr.heap.size,1,none⟩=some (.string r2) from fun V hV=>by
    have e:=(hV.block wr.heap.size (by rw [hsW];omega)).trans hn
    constructor<;>(rw [cell_of_row V wr.heap.size _ _ _ _ e];rfl))
   obtain ⟨g0,g1⟩:=HC.out W (Below.refl _ _)
   clear hn hbW hc1 hc2
   go_wp2_with (first
    |(go_at_call 98;(with_reducible refine (HRi.out _).mono ?_);rintro e w1 ⟨rfl,hb1⟩;(have B1:=hid hb1);obtain ⟨p0,p1⟩:=HC.out w1 hb1;clear hb1)
    |(go_at_call 119;(with_reducible refine (HK.out _).mono ?_);rintro e w2 ⟨rfl,hb2⟩;(have B2:=hid (B1.out.trans (hb2.mono B1.out.size)));obtain ⟨q0,q1⟩:=HC.out w2 B2.out;clear hb2))
   ·go_ret
    exact ⟨ret_bool (by rw [HE2.out,HX.out];simp [*]),HBW.out.trans (B2.out.mono HBW.out.size)⟩
   ·go_ret
    exact ⟨ret_bool (by rw [HE2.out,HX.out];simp [*]),HBW.out.trans (B2.out.mono HBW.out.size)⟩
   ·rename_i hor
    have hx:(!(r2.toList== [])&& !(Op.bytesLess r1.toList s.toList||r1.toList==s.toList))=false:=by
     rcases hor with h|h|h
     ·rw [List.isEmpty_iff] at h;rw [h];rfl
     ·rw [h];simp
     ·rw [h];simp
    go_ret
    exact ⟨ret_bool (by rw [HE2.out,HX.out,hx];simp),HBW.out.trans (B2.out.mono HBW.out.size)⟩
   ·rename_i hkey hne hand
    have hx:(!(r2.toList== [])&& !(Op.bytesLess r1.toList s.toList||r1.toList==s.toList))=true:=by
     rw [hand.2.1,hand.2.2]
     simpa using hne
    have HK2:=hid (show M.isExtra [] l=M.isExtra (tl r1) (l.drop (k+1)) by
     rw [HE2.out,HX.out,hx]
     simp [*])
    go_roundw
    case rel=>exact ⟨k+1,r1,rfl,by go_num,by omega,HK2,hid (HBW.out.trans (B2.out.mono HBW.out.size))⟩
    case measure=>simp [intOf];omega
   ·go_ret
    exact ⟨ret_bool (by rw [HE2.out,HX.out];simp [*]),HBW.out.trans (B1.out.mono HBW.out.size)⟩
  ·obtain rfl:k=l.length:=by omega
   have HE2:=hid (show M.isExtra [] l=true by rw [HE.out,List.drop_length];rfl)
   clear hlt HE
   go_wp2
   go_ret
   exact ⟨ret_bool (by rw [HE2.out]),HB.out⟩
end Go.Proofs.YtgbgngdakkiclaaGreatDoor

namespace Go.Proofs.YtgbgngdakkiclaaGreatDoor
open Go.RowKit Go.Lib
open Px (R2 tl)
attribute [local go_sem ↓] add_plain
def full (p:Int × Int):Bool:= !(p.2==0)
def FirstEmpty (l:List (Int × Int)) (i:Int):Prop:=(i= -1∧l.all full=true)∨ ∃ (k:Nat) (h:k<l.length),i=k∧(l.take k).all full=true∧(l[k].2==0)=true
theorem all_take_succ {l:List (Int × Int)} {k:Nat} (h:k<l.length) (h1:(l.take k).all full=true) (h2:(l[k].2==0)=false):(l.take (k+1)).all full=true:=by
 rw [List.take_succ_eq_append_getElem h,List.all_append,h1]
 simp [full,h2]
set_option maxRecDepth 100000 in
set_option maxHeartbeats 1000000 in
theorem firstEmpty_any (A:Option Addr) (c n:Nat) (l:List (Int × Int)) (hl:n≤1048576) (w:World) (h:Sp.RdP w w.heap.size A n l):
  Calls Tryz.prog 153 #[.slice A n c, .func (.func 121) #[] #[]] w fun e w'=>(∃ i,e= .returned (.int .i64 i)∧FirstEmpty l i)∧Below w.heap.size w w':=by
 have HR:=hid h
 have HN:=hid h.len
 clear h
 go_enter Tryz.func153,Tryz.ntmps153
 go_wp2
 go_loopw [8] (fun iv wr=> ∃ (k:Nat),iv= .int .i64 k∧k≤n∧Hid ((l.take k).all full=true)∧Hid (Below w.heap.size w wr)) (fun iv _=>n - (intOf iv).toNat)
 case atStart=>exact ⟨0,rfl,Nat.zero_le _,hid rfl,hid (Below.refl _ _)⟩
 case round=>
  obtain ⟨k,rfl,hk,HA,HB⟩:=hrel
  have hbs:=HB.out.size
  by_cases hlt:k<n
  ·obtain ⟨b,off,p,rfl,hbb,hp,hc1,hc2⟩:=(HR.out.below HB.out).at_ hlt
   obtain ⟨p1,p2⟩:=p
   dsimp only at hc1 hc2
   have hi2:(k:Int)<(n:Int):=by omega
   have hkl:k<l.length:=by rw [HN.out];exact hlt
   have HP:=hid (show l[k]=(p1,p2) from by
    have:=List.getElem?_eq_getElem hkl
    rw [hp] at this
    exact (Option.some.inj this).symm)
   have HE:=hid (fun W=>isEmpty_any p1 p2 W)
   clear hp hlt
   cases hz:(p2==0) with
   |true=>
    rw [hz] at HE
    have HZ:=hid hz
    clear hz
    go_wp2_with (go_at_call 121;(with_reducible refine (HE.out _).mono ?_);rintro e w1 ⟨rfl,hb1⟩)
    go_ret
    exact ⟨⟨k,rfl, .inr ⟨k,hkl,rfl,HA.out,by rw [HP.out];exact HZ.out⟩⟩,HB.out.trans (hb1.mono hbs)⟩
   |false=>
    rw [hz] at HE
    have HZ:=hid hz
    clear hz
    have HA2:=hid (all_take_succ hkl HA.out (by rw [HP.out];exact HZ.out))
    go_wp2_with (go_at_call 121;(with_reducible refine (HE.out _).mono ?_);rintro e w1 ⟨rfl,hb1⟩)
    go_roundw
    case rel=>exact ⟨k+1,by go_num,by omega,HA2,hid (HB.out.trans (hb1.mono hbs))⟩
    case measure=>simp [intOf];omega
  ·obtain rfl:k=n:=by omega
   have HA2:=hid (show l.all full=true by have:=HA.out;rwa [List.take_of_length_le (by rw [HN.out];exact Nat.le_refl _)] at this)
   clear hlt
   go_wp2
   go_ret
   exact ⟨⟨-1,rfl, .inl ⟨rfl,HA2.out⟩⟩,HB.out⟩
set_option maxRecDepth 100000 in
set_option maxHeartbeats 1000000 in
theorem anyEmpty_any (A:Option Addr) (c n:Nat) (l:List (Int × Int)) (hl:n≤1048576) (w:World) (h:Sp.RdP w w.heap.size A n l):
  Calls Tryz.prog 120 #[.slice A n c, .func (.func 121) #[] #[]] w fun e w'=>e= .returned (.bool (!l.all full))∧Below w.heap.size w w':=by
 have HC:=hid (firstEmpty_any A c n l hl w h)
 clear h
 go_enter Tryz.func120,Tryz.ntmps120
 go_wp2_with fail
 refine HC.out.mono ?_
 rintro e w1 ⟨⟨i,rfl,hi⟩,hb1⟩
 have HB:=hid hb1
 have HI:=hid (show (!l.all full)=decide (i≥0) by
  rcases hi with ⟨rfl,h2⟩|⟨k,h1,rfl,h2,h3⟩
  ·rw [h2];rfl
  ·have h4:l.all full=false:=by
    rw [List.all_eq_false]
    exact ⟨l[k],List.getElem_mem h1,by simp [full,h3]⟩
   rw [h4];simp)
 clear hi hb1 HC
 go_wp2
 go_ret
 exact ⟨ret_bool (by rw [HI.out]),HB.out⟩
set_option maxRecDepth 100000 in
set_option maxHeartbeats 1000000 in
theorem hasHoles_any (m:M.Met) (pv ev:Value) (w:World) (hm:MIn w m pv ev):Calls Tryz.prog 85 #[.agg (mcells m pv ev)] w fun e w'=>e= .returned (.bool (M.hasHoles m))∧Below w.heap.size w w':=by
 have hb1:Below w.heap.size w (w.alloc (.cells (mcells m pv ev) 35)):=(Below.refl _ _).alloc (Nat.le_refl _) _
 have HW:=hid hb1
 have HE:=hid (show M.hasHoles m=(m.kind==48&&(m.parts.all full&&(Sp.M.check m.parts m.size m.real==0))) from rfl)
 obtain ⟨A,c,rfl,hr⟩:=hm.parts
 have B1:=hid (MB.new w m (.slice A m.parts.length c) ev)
 have HN:=hid hm.nparts
 have HI:=hid hm.i64s
 have HR:=hid (fun V (hV:Below w.heap.size w V)=>(hr.below hV).more hV.size)
 clear hm hb1 hr
 have HF:=hid (show ∀ V,Below (w.heap.size+1) (w.alloc (.cells (mcells m (.slice A m.parts.length c) ev) 35)) V→V.cell? ⟨w.heap.size,2,none⟩=some (.int .u8 m.kind)∧V.cell? ⟨w.heap.size,12,none⟩=some (.int .i64 m.size)∧V.cell? ⟨w.heap.size,13,none⟩=some (.int .i64 m.real)∧V.cell? ⟨w.heap.size,15,none⟩=some (.slice A m.parts.length c) from fun V hV=>by
  have hb:MB V w.heap.size m (.slice A m.parts.length c) ev:=B1.out.below hV (by omega)
  exact ⟨hb.cell (i:=2) rfl,hb.cell (i:=12) rfl,hb.cell (i:=13) rfl,hb.cell (i:=15) rfl⟩)
 have hsz:=World.size_alloc w (.cells (mcells m (.slice A m.parts.length c) ev) 35)
 clear B1
 go_enter Tryz.func85,Tryz.ntmps85
 go_upto_region 1 with fail
 generalize World.alloc w _=W at*
 obtain ⟨x2,x12,x13,x15⟩:=HF.out W (Below.refl _ _)
 have H1:=hid (fun V hV=>anyEmpty_any A c m.parts.length m.parts HN.out V (HR.out V hV))
 have H2:=hid (fun V hV=>Sp.check_any A m.parts.length c m.parts m.size m.real V (HR.out V hV) HI.out HN.out)
 clear HR HN HI
 generalize m.parts.length=n at*
 go_wp2_with (first
  |(go_at_call 120;(with_reducible refine (H1.out _ HW.out).mono ?_);rintro e w1 ⟨rfl,hb1⟩;(have B1:=hid hb1);obtain ⟨y2,y12,y13,y15⟩:=HF.out w1 (hsz▸hb1);clear hb1)
  |(go_at_call 122;(with_reducible refine (H2.out _ (HW.out.trans (B1.out.mono HW.out.size))).mono ?_);rintro e w2 ⟨rfl,hb2⟩;(have B2:=hid (B1.out.trans (hb2.mono B1.out.size)));clear hb2))
 all_goals first
  |(exfalso;simp_all;done)
  |(go_ret
    first
     |exact ⟨ret_bool (by rw [HE.out];simp [*]),HW.out.trans (B2.out.mono HW.out.size)⟩
     |exact ⟨ret_bool (by rw [HE.out];simp [*]),HW.out.trans (B1.out.mono HW.out.size)⟩
     |exact ⟨ret_bool (by rw [HE.out];simp [*]),HW.out⟩)
end Go.Proofs.YtgbgngdakkiclaaGreatDoor

namespace Go.Proofs.YtgbgngdakkiclaaGreatDoor
open Go.RowKit Go.Lib
def At2 (C:Array Value) (k:Nat) (x:Value × Value):Prop:=C[k*2]?=some x.1∧C[k*2+1]?=some x.2
structure Sift (C:Array Value) (cap:Nat) (F L:List (Value × Value)) (j:Nat):Prop where
 size:C.size=cap*2
 front: ∀ (k:Nat) (x:Value × Value),F[k]?=some x→At2 C k x
 rest: ∀ (k:Nat) (x:Value × Value),j≤k→L[k]?=some x→At2 C k x
theorem Sift.skip {C:Array Value} {cap j:Nat} {F L:List (Value × Value)} (h:Sift C cap F L j):Sift C cap F L (j+1):=⟨h.size,h.front,fun k x hk=>h.rest k x (by omega)⟩
theorem Sift.put {C:Array Value} {cap j:Nat} {F L:List (Value × Value)} (h:Sift C cap F L j) (x:Value × Value) (hF:F.length≤j) (hj:j<cap):
  Sift ((C.set! (F.length*2) x.1).set! (F.length*2+1) x.2) cap (F++ [x]) L (j+1):=by
 have hs:=h.size
 have get: ∀ i,((C.set! (F.length*2) x.1).set! (F.length*2+1) x.2)[i]?=if i=F.length*2+1 then some x.2 else if i=F.length*2 then some x.1 else C[i]?:=by
  intro i
  rw [Array.set!_eq_setIfInBounds,Array.set!_eq_setIfInBounds,Array.getElem?_setIfInBounds,Array.getElem?_setIfInBounds,Array.size_setIfInBounds]
  by_cases h1:F.length*2+1=i
  ·rw [if_pos h1,if_pos (by omega)]
   rw [if_pos h1.symm]
  ·rw [if_neg h1]
   by_cases h2:F.length*2=i
   ·rw [if_pos h2,if_pos (by omega)]
    rw [if_neg (fun e=>h1 e.symm),if_pos h2.symm]
   ·rw [if_neg h2]
    rw [if_neg (fun e=>h1 e.symm),if_neg (fun e=>h2 e.symm)]
 refine ⟨by simp [hs],fun k y hk=> ?_,fun k y hk hy=> ?_⟩
 ·rw [List.getElem?_append] at hk
  by_cases hlt:k<F.length
  ·rw [if_pos hlt] at hk
   have:=h.front k y hk
   exact ⟨by rw [get,if_neg (by omega),if_neg (by omega)];exact this.1,by rw [get,if_neg (by omega),if_neg (by omega)];exact this.2⟩
  ·rw [if_neg hlt] at hk
   obtain rfl:k=F.length:=by
    have:k - F.length<1:=by
     have:=(List.getElem?_eq_some_iff.1 hk).1
     simpa using this
    omega
   rw [Nat.sub_self] at hk
   simp only [List.getElem?_cons_zero,Option.some.injEq] at hk
   subst hk
   exact ⟨by rw [get,if_neg (by omega),if_pos rfl],by rw [get,if_pos rfl]⟩
 ·have:=h.rest k y (by omega) hy
  exact ⟨by rw [get,if_neg (by omega),if_neg (by omega)];exact this.1,by rw [get,if_neg (by omega),if_neg (by omega)];exact this.2⟩
end Go.Proofs.YtgbgngdakkiclaaGreatDoor

namespace Go.Proofs.YtgbgngdakkiclaaGreatDoor
open Go.RowKit Go.Lib
open Px (R2 tl)
attribute [local go_sem ↓] add_plain
end Go.Proofs.YtgbgngdakkiclaaGreatDoor
