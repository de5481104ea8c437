import Derived.Below
import Derived.Laws.OwnMore
import Derived.Deep.AppendLies
import Derived.Deep.Draws
import Derived.Lib.Hide
import Derived.Lib.ItoaNum
import Derived.Test.YtgbgngdakkiclaaGreatDoorProg
import Derived.Laws.BytesString
import Derived.Laws.IdiomStrings
import Derived.Laws.MakeOwn
import Derived.Deep.OwnRows
import Derived.Deep.WholeRow
import Derived.Lib.BufferWrite
import Derived.Lib.SlBytesConst
import Derived.Lib.AppendStr
import Derived.Maps.AppendAt
import Derived.RegionTactic
import Derived.OwnWalk
import Derived.WalkKit
import Derived.ProofKit
import Derived.Laws.RangeString
import Derived.Laws.RangeAny
import Derived.LoopTactic
import Derived.Tactics
set_option linter.unusedVariables false
set_option linter.unusedSimpArgs false
set_option linter.unusedVariables false
set_option linter.unusedSimpArgs false
namespace Go.Proofs.YtgbgngdakkiclaaGreatDoor.St
open Go.RowKit
def Rd (w:World) (B:Nat) (A:Option Addr) (n:Nat) (zs:List Int):Prop:=
 zs.length=n∧(∀ z∈zs,0≤z∧z≤255)∧
  (0<n→ ∃ b off,A=some ⟨b,off,none⟩∧b<B∧ ∀ j z,zs[j]?=some z→w.cell? ⟨b,off+j,none⟩=some (.int .u8 z))
section
variable {w w':World} {B B' n:Nat} {A:Option Addr} {zs:List Int}
theorem Rd.len (h:Rd w B A n zs):zs.length=n:=h.1
theorem Rd.keep (h:Rd w B A n zs) (hk: ∀ p:Addr,p.block<B→w'.cell? p=w.cell? p):Rd w' B A n zs:=
 ⟨h.1,h.2.1,fun hn=>by
  obtain ⟨b,off,e,hb,hc⟩:=h.2.2 hn
  exact ⟨b,off,e,hb,fun j z hz=>(hk _ hb).trans (hc j z hz)⟩⟩
theorem Rd.below (h:Rd w B A n zs) (hb:Below B w w'):Rd w' B A n zs:=h.keep fun _ hp=>hb.cell hp
theorem Rd.drew (h:Rd w B A n zs):Rd w.drew B A n zs:=h
theorem Rd.alloc (h:Rd w B A n zs) (hB:B≤w.heap.size) (o:Obj):Rd (w.alloc o) B A n zs:=h.keep fun p hp=>World.cell?_alloc_lt w o p (by omega)
theorem Rd.setCell (h:Rd w B A n zs) {p:Addr} (hB:B≤p.block) (u:Value):Rd (w.setCell p u) B A n zs:=
 h.keep fun q hq=>World.cell?_setCell_other w p q u (fun e=>by subst e;omega)
end
end Go.Proofs.YtgbgngdakkiclaaGreatDoor.St
namespace Go.Proofs.YtgbgngdakkiclaaGreatDoor.St
namespace M
open Go.Lib (decDigits nDigits)
abbrev Rc:=List UInt8 × List UInt8
def keyOk (c:UInt8):Bool:=decide (33≤c.toNat)&&decide (c.toNat≤126)&& !(decide (c.toNat=61))
def right (r:Rc):Bool:=r.1.all keyOk&&r.2.all (fun c=> !(c==0))&& !r.1.isEmpty
def body (r:Rc):List UInt8:=32::(r.1++61::(r.2++ [10]))
def wid (L:Nat):Nat:=
 if L+1<10 then 1 else if L+2<100 then 2 else if L+3<1000 then 3 else if L+4<10000 then 4 else if L+5<100000 then 5 else if L+6<1000000 then 6 else if L+7<10000000 then 7 else 8
def line (r:Rc):List UInt8:=decDigits ((body r).length+wid (body r).length)++body r
def isDig (c:UInt8):Bool:=decide (48≤c.toNat)&&decide (c.toNat≤57)
def num:List UInt8→Nat→Nat
 | [],a=>a
 |c::l,a=>num l (10*a+(c.toNat - 48))
theorem num_app (l t:List UInt8) (a:Nat):num (l++t) a=num t (num l a):=by
 induction l generalizing a with
 |nil=>rfl
 |cons c l ih=>exact ih _
theorem dig_byte {k:Nat} (h:k<10):(UInt8.ofNat (48+k)).toNat=48+k:=by
 rw [UInt8.toNat_ofNat'];omega
theorem decDigits_dig (u:Nat): ∀ c∈decDigits u,isDig c=true:=by
 induction u using Nat.strongRecOn with
 |_ u ih=>
  have key: ∀ k,k<10→isDig (UInt8.ofNat (48+k))=true:=fun k hk=>by unfold isDig;rw [dig_byte hk];simp;omega
  by_cases h:u<10
  ·rw [decDigits,dif_pos h]
   intro c hc
   rw [List.mem_singleton] at hc
   subst hc
   exact key u h
  ·rw [decDigits,dif_neg h]
   intro c hc
   rcases List.mem_append.1 hc with hc|hc
   ·exact ih (u/10) (by omega) c hc
   ·rw [List.mem_singleton] at hc
    subst hc
    exact key _ (by omega)
theorem num_decDigits (u:Nat):num (decDigits u) 0=u:=by
 induction u using Nat.strongRecOn with
 |_ u ih=>
  by_cases h:u<10
  ·rw [decDigits,dif_pos h]
   simp only [num]
   rw [dig_byte h];omega
  ·rw [decDigits,dif_neg h,num_app,ih (u/10) (by omega)]
   simp only [num]
   rw [dig_byte (by omega)];omega
def one (b:List UInt8):Option (Rc × Nat):=
 let ds:=(b.take 8).takeWhile isDig
 let n:=num ds 0
 if n≤ds.length∨b.length<n then none
 else
  let u:=((b.take n).drop (ds.length+1)).dropLast
  let key:=u.takeWhile fun c=> !(c==61)
  let r:Rc:=(key,u.drop (key.length+1))
  if key.length<u.length∧right r=true∧line r=b.take n then some (r,n) else none
end M
end Go.Proofs.YtgbgngdakkiclaaGreatDoor.St
namespace Go.Proofs.YtgbgngdakkiclaaGreatDoor.St
namespace M
open Go.Lib (decDigits nDigits)
theorem num_snoc (D:List UInt8) (c:UInt8) (a:Nat):num (D++ [c]) a=10*num D a+(c.toNat - 48):=by rw [num_app];rfl
theorem isDig_iff (c:UInt8):isDig c=true↔48≤c.toNat∧c.toNat≤57:=by unfold isDig;simp
theorem dec_of_num: ∀ (n:Nat) (D:List UInt8),D.length=n→D≠ []→D.all isDig=true→D.length=nDigits (num D 0)→D=decDigits (num D 0):=by
 intro n
 induction n with
 |zero=>intro D h hne;exact absurd (List.eq_nil_of_length_eq_zero h) hne
 |succ n ih=>
  intro D hl hne hall hnd
  obtain ⟨E,c,rfl⟩: ∃ E c,D=E++ [c]:=⟨D.dropLast,D.getLast hne,(List.dropLast_concat_getLast hne).symm⟩
  rw [List.all_append,Bool.and_eq_true] at hall
  have hc:isDig c=true:=by have:=hall.2;simpa using this
  rw [isDig_iff] at hc
  have hd:UInt8.ofNat (48+(c.toNat - 48))=c:=by
   rw [show 48+(c.toNat - 48)=c.toNat by omega]
   exact UInt8.ofNat_toNat
  by_cases hE:E= []
  ·subst hE
   rw [num_snoc]
   simp only [num]
   rw [show 10*0+(c.toNat - 48)=c.toNat - 48 by omega,decDigits,dif_pos (by omega),hd]
   rfl
  ·have hEl:0<E.length:=List.length_pos_iff.2 hE
   rw [num_snoc] at hnd⊢
   rw [List.length_append,List.length_singleton] at hnd hl
   have hbig: ¬ 10*num E 0+(c.toNat - 48)<10:=by
    intro hlt
    rw [Lib.nDigits_small hlt] at hnd
    omega
   have hdiv:(10*num E 0+(c.toNat - 48))/10=num E 0:=by omega
   have hmod:(10*num E 0+(c.toNat - 48))%10=c.toNat - 48:=by omega
   rw [Lib.nDigits_big (by omega),hdiv] at hnd
   have e:=ih E (by omega) hE hall.1 (by omega)
   rw [decDigits,dif_neg hbig,hdiv,hmod,←e,hd]
section
variable {b:List UInt8} {i:Nat}
end
end M
end Go.Proofs.YtgbgngdakkiclaaGreatDoor.St
namespace Go.Proofs.YtgbgngdakkiclaaGreatDoor.St
namespace M
open Go.Lib (decDigits nDigits)
theorem num_lt: ∀ (l:List UInt8) (a:Nat),l.all isDig=true→num l a<(a+1)*10^l.length
 | [],a,_=>by simp [num]
 |c::l,a,h=>by
  rw [List.all_cons,Bool.and_eq_true,isDig_iff] at h
  have ih:=num_lt l (10*a+(c.toNat - 48)) h.2
  show num l (10*a+(c.toNat - 48))<_
  rw [List.length_cons,Nat.pow_succ,Nat.mul_comm (10^l.length) 10,←Nat.mul_assoc]
  exact Nat.lt_of_lt_of_le ih (Nat.mul_le_mul_right _ (by omega))
theorem num_noughts (k:Nat) (l:List UInt8):num (List.replicate k 48++l) 0=num l 0:=by
 induction k with
 |zero=>rfl
 |succ k ih=>rw [List.replicate_succ,List.cons_append];exact ih
def number (l:List UInt8) (most:Nat):Option Nat:=if l= []∨most<l.length∨l.all isDig=false then none else some (num l 0)
theorem number_some {l:List UInt8} {most:Nat} (h1:l≠ []) (h2:l.length≤most) (h3:l.all isDig=true):number l most=some (num l 0):=by
 unfold number
 rw [if_neg]
 rintro (h|h|h)
 ·exact h1 h
 ·omega
 ·rw [h3] at h;cases h
theorem number_none {l:List UInt8} {most:Nat} (h:l= []∨most<l.length∨l.all isDig=false):number l most=none:=by unfold number;rw [if_pos h]
theorem number_lt {l:List UInt8} {most n:Nat} (h:number l most=some n):n<10^most:=by
 unfold number at h
 split at h
 ·cases h
 ·rename_i hc
  injection h with h
  have h3:l.all isDig=true:=by cases hx:l.all isDig with
   |true=>rfl
   |false=>exact absurd (.inr (.inr hx)) hc
  have hlt:=num_lt l 0 h3
  have h2:l.length≤most:=by
   rcases Nat.lt_or_ge most l.length with hm|hm
   ·exact absurd (.inr (.inl hm)) hc
   ·exact hm
  rw [Nat.zero_add,Nat.one_mul] at hlt
  rw [←h]
  exact Nat.lt_of_lt_of_le hlt (Nat.pow_le_pow_right (by omega) h2)
def nine:List UInt8:=List.replicate 9 48
theorem nine_len:nine.length=9:=rfl
def billionths (l:List UInt8):Option Nat:=if number l 18=none then none else some (num ((l++nine).take 9) 0)
theorem all_app9 {l:List UInt8} (h:l.all isDig=true):((l++nine).take 9).all isDig=true:=by
 rw [List.all_eq_true] at h⊢
 intro c hc
 rcases List.mem_append.1 (List.mem_of_mem_take hc) with h1|h1
 ·exact h c h1
 ·have:=List.eq_of_mem_replicate h1
  subst this
  rfl
theorem number_all {l:List UInt8} {most:Nat} (h:number l most≠none):l≠ []∧l.length≤most∧l.all isDig=true:=by
 unfold number at h
 split at h
 ·exact absurd rfl h
 ·rename_i hc
  refine ⟨fun e=>hc (.inl e), ?_, ?_⟩
  ·rcases Nat.lt_or_ge most l.length with hm|hm
   ·exact absurd (.inr (.inl hm)) hc
   ·exact hm
  ·cases hx:l.all isDig with
   |true=>rfl
   |false=>exact absurd (.inr (.inr hx)) hc
theorem app9_len (l:List UInt8):((l++nine).take 9).length=9:=by rw [List.length_take,List.length_append,nine_len];omega
theorem billionths_eq (l:List UInt8):billionths l=if number l 18=none then none else number ((l++nine).take 9) 9:=by
 unfold billionths
 split
 ·rfl
 ·rename_i h
  have h3:=(number_all h).2.2
  rw [number_some (by intro e;have:=app9_len l;rw [e] at this;cases this) (by rw [app9_len];exact Nat.le_refl _) (all_app9 h3)]
theorem billionths_lt {l:List UInt8} {n:Nat} (h:billionths l=some n):n<1000000000:=by
 rw [billionths_eq] at h
 split at h
 ·cases h
 ·have:=number_lt h;omega
abbrev Tm:=Int × Int
def opp (t:Tm):Tm:=if t.2=0 then (-t.1,0) else (-t.1 - 1,1000000000 - t.2)
def ptOf (l:List UInt8):List UInt8:=l.takeWhile fun c=> !(c==46)
def aftPt (l:List UInt8):List UInt8:=l.drop ((ptOf l).length+1)
def frac (t:List UInt8):Option Nat:=if (ptOf t).length<t.length then billionths (aftPt t) else some 0
def minus (l:List UInt8):Bool:=decide (l.head?=some 45)
def noSign (l:List UInt8):List UInt8:=if minus l=true then l.tail else l
def sgn (b:Bool) (t:Tm):Tm:=if b=true then opp t else t
def parse (l:List UInt8):Option Tm:=
 match number (ptOf (noSign l)) 15 with
 |none=>none
 |some a=>match frac (noSign l) with
  |none=>none
  |some b=>some (sgn (minus l) (a,b))
theorem ptOf_take (l:List UInt8):l.take (ptOf l).length=ptOf l:=by
 unfold ptOf
 exact (List.prefix_iff_eq_take.1 (List.takeWhile_prefix _)).symm
def trim0 (l:List UInt8):List UInt8:=(l.reverse.dropWhile fun c=>c==48).reverse
def pad9 (n:Nat):List UInt8:=List.replicate (9 - nDigits n) 48++decDigits n
theorem trim0_app (l:List UInt8): ∃ k,l=trim0 l++List.replicate k 48:=by
 have h:=List.takeWhile_append_dropWhile (p:=fun c:UInt8=>c==48) (l:=l.reverse)
 refine ⟨(l.reverse.takeWhile fun c=>c==48).length, ?_⟩
 have h2:=congrArg List.reverse h
 rw [List.reverse_reverse,List.reverse_append] at h2
 unfold trim0
 conv=>lhs;rw [←h2]
 congr 1
 have:l.reverse.takeWhile (fun c=>c==48)=List.replicate (l.reverse.takeWhile fun c=>c==48).length 48:=by
  rw [List.eq_replicate_iff]
  refine ⟨rfl,fun c hc=> ?_⟩
  have:=List.all_takeWhile (p:=fun c:UInt8=>c==48) (l:=l.reverse)
  have h3:=List.all_eq_true.1 this c hc
  simpa using h3
 rw [this,List.reverse_replicate,List.length_replicate]
theorem dec_len {n k:Nat} (h:n<10^k) (hk:0<k):nDigits n≤k:=by
 rcases Nat.lt_or_ge k (nDigits n) with hlt|hge
 ·exfalso
  have h1:=num_lt
  obtain ⟨j,rfl⟩: ∃ j,k=j+1:=⟨k - 1,by omega⟩
  clear h1
  have key: ∀ (j n:Nat),n<10^(j+1)→nDigits n≤j+1:=by
   intro j
   induction j with
   |zero=>intro n hn;rw [Lib.nDigits_small (by omega)];exact Nat.le_refl _
   |succ j ih=>
    intro n hn
    by_cases h10:n<10
    ·rw [Lib.nDigits_small h10];omega
    ·rw [Lib.nDigits_big h10]
     have:=ih (n/10) (by rw [Nat.pow_succ] at hn;omega)
     omega
  have:=key j n h
  omega
 ·exact hge
theorem dec_all (n:Nat):(decDigits n).all isDig=true:=List.all_eq_true.2 (decDigits_dig n)
theorem pad9_len {n:Nat} (h:n<1000000000):(pad9 n).length=9:=by
 unfold pad9
 have:=dec_len (k:=9) (n:=n) (by omega) (by omega)
 rw [List.length_append,List.length_replicate,Lib.decDigits_length]
 omega
theorem pad9_all (n:Nat):(pad9 n).all isDig=true:=by
 unfold pad9
 rw [List.all_append,dec_all,Bool.and_true,List.all_eq_true]
 intro c hc
 rw [List.eq_of_mem_replicate hc]
 rfl
theorem pad9_num (n:Nat):num (pad9 n) 0=n:=by unfold pad9;rw [num_noughts,num_decDigits]
theorem trim_len {n:Nat} (h:n<1000000000):(trim0 (pad9 n)).length≤9:=by
 obtain ⟨k,hk⟩:=trim0_app (pad9 n)
 have h2:=pad9_len h
 rw [hk,List.length_append] at h2
 omega
theorem trim_ne {n:Nat} (h:0<n):trim0 (pad9 n)≠ []:=by
 intro e
 obtain ⟨k,hk⟩:=trim0_app (pad9 n)
 rw [e,List.nil_append] at hk
 have h1:=pad9_num n
 rw [hk] at h1
 have h2:=num_noughts k []
 rw [List.append_nil] at h2
 rw [h2] at h1
 have:num [] 0=0:=rfl
 omega
def fracText (n:Nat):List UInt8:=if n=0 then [] else 46::trim0 (pad9 n)
def below0 (t:Tm):Bool:=decide (t.1<0)
def pr (t:Tm):List UInt8:=(if below0 t=true then [45] else [])++(decDigits (sgn (below0 t) t).1.toNat++fracText (sgn (below0 t) t).2.toNat)
def norm (t:Tm):Tm:=(min (max t.1 (-999999999999999)) 999999999999999,min (max t.2 0) 999999999)
structure Ok (t:Tm):Prop where
 s1: -999999999999999≤t.1
 s2:t.1≤999999999999999
 n1:0≤t.2
 n2:t.2≤999999999
theorem norm_ok (t:Tm):Ok (norm t):=by
 obtain ⟨S,n⟩:=t
 constructor<;>(unfold norm;dsimp only;omega)
theorem sgn_parts {t:Tm} (h:Ok t):0≤(sgn (below0 t) t).1∧(sgn (below0 t) t).1≤999999999999999∧0≤(sgn (below0 t) t).2∧(sgn (below0 t) t).2≤999999999∧((sgn (below0 t) t).2=0↔t.2=0):=by
 obtain ⟨S,n⟩:=t
 obtain ⟨h1,h2,h3,h4⟩:=h
 dsimp only at h1 h2 h3 h4
 unfold sgn below0
 by_cases hs:S<0
 ·rw [if_pos (by rw [decide_eq_true_eq];exact hs)]
  unfold opp
  by_cases h0:n=0
  ·subst h0;simp;omega
  ·rw [if_neg h0]
   show 0≤ -S - 1∧ -S - 1≤999999999999999∧0≤1000000000 - n∧1000000000 - n≤999999999∧(1000000000 - n=0↔n=0)
   omega
 ·rw [if_neg (by rw [decide_eq_true_eq];exact hs)]
  dsimp only
  omega
end M
end Go.Proofs.YtgbgngdakkiclaaGreatDoor.St
namespace Go.Proofs.YtgbgngdakkiclaaGreatDoor.St
open Go.RowKit
def tl (s:ByteArray):List UInt8:=s.data.toList
theorem tl_len (s:ByteArray):(tl s).length=s.size:=rfl
theorem tl_mk (l:List UInt8):tl ⟨l.toArray⟩=l:=rfl
theorem tl_append (a b:ByteArray):tl (a++b)=tl a++tl b:=by unfold tl;simp
theorem tl_eq (x:ByteArray):x.toList=tl x:=ByteArray.toList_eq x
theorem tl_inj {a b:ByteArray} (h:tl a=tl b):a=b:=WideShapes.bytes_inj h
theorem below_drew' {B:Nat} {a w:World} (h:Below B a w):Below B a w.drew:=⟨h.os,h.tape,h.output,h.size,h.block⟩
theorem block_of_add (a:Addr) (n:Nat):(a.add n).block=a.block:=by unfold Addr.add;split<;>rfl
def Reads (w:World) (B size:Nat) (A:Option Addr) (n:Nat) (xs:List Value):Prop:=
 xs.length=n*size∧(0<n→ ∃ ad,A=some ad∧ad.block<B∧ ∀ j u,xs[j]?=some u→w.cell? (ad.add j)=some u)
section
variable {w w':World} {B B' size n:Nat} {A:Option Addr} {xs:List Value}
theorem Reads.keep (h:Reads w B size A n xs) (hk: ∀ p:Addr,p.block<B→w'.cell? p=w.cell? p):Reads w' B size A n xs:=
 ⟨h.1,fun hn=>by
  obtain ⟨ad,e,hb,hc⟩:=h.2 hn
  exact ⟨ad,e,hb,fun j u hu=>(hk _ (by rw [block_of_add];exact hb)).trans (hc j u hu)⟩⟩
theorem Reads.below (h:Reads w B size A n xs) (hb:Below B w w'):Reads w' B size A n xs:=h.keep fun _ hp=>hb.cell hp
theorem Reads.drew (h:Reads w B size A n xs):Reads w.drew B size A n xs:=h
theorem Reads.alloc (h:Reads w B size A n xs) (hB:B≤w.heap.size) (o:Obj):Reads (w.alloc o) B size A n xs:=h.keep fun p hp=>World.cell?_alloc_lt w o p (by omega)
theorem Reads.setCell (h:Reads w B size A n xs) {p:Addr} (hB:B≤p.block) (u:Value):Reads (w.setCell p u) B size A n xs:=
 h.keep fun q hq=>World.cell?_setCell_other w p q u (fun e=>by subst e;omega)
end
section
variable {P:Program} (w:World)
end
theorem Rd.reads {w:World} {B n:Nat} {A:Option Addr} {zs:List Int} (h:Rd w B A n zs):Reads w B 1 A n (zs.map (Value.int .u8)):=by
 refine ⟨by rw [List.length_map,h.len,Nat.mul_one],fun hn=> ?_⟩
 obtain ⟨b,off,e,hb,hc⟩:=h.2.2 hn
 refine ⟨_,e,hb,fun j u hj=> ?_⟩
 rw [List.getElem?_map] at hj
 cases hz:zs[j]? with
 |none=>rw [hz] at hj;cases hj
 |some z=>
  rw [hz] at hj
  injection hj with hj
  subst hj
  have hcj:=hc j z hz
  unfold Addr.add
  split
  ·rename_i h0
   subst h0
   exact hcj
  ·exact hcj
def ints (l:List UInt8):List Int:=l.map fun b=>(b.toNat:Int)
theorem ints_length (l:List UInt8):(ints l).length=l.length:=by simp [ints]
theorem ints_bd (l:List UInt8): ∀ z∈ints l,0≤z∧z≤255:=by
 intro z hz
 obtain ⟨b,_,rfl⟩:=List.mem_map.1 hz
 have:=UInt8.toNat_lt b
 omega
theorem Rd.new (w:World) (t:TypeId) (l:List UInt8):Rd (w.alloc (.cells (Lib.byteCells l).toArray t)) (w.heap.size+1) (some ⟨w.heap.size,0,none⟩) l.length (ints l):=by
 refine ⟨ints_length l,ints_bd l,fun _=>⟨_,0,rfl,Nat.lt_succ_self _,fun j z hj=> ?_⟩⟩
 have hb:(w.alloc (.cells (Lib.byteCells l).toArray t)).heap[w.heap.size]?=some (.cells (Lib.byteCells l).toArray t (0,0)):=heap_alloc_new w _
 rw [cell_of_row _ _ _ _ _ _ hb,Nat.zero_add]
 unfold ints at hj
 rw [List.getElem?_map] at hj
 cases hx:l[j]? with
 |none=>rw [hx] at hj;cases hj
 |some x=>
  rw [hx] at hj
  injection hj with hj
  subst hj
  simp [Lib.byteCells,hx]
theorem ownsRow_below {A B:World} {base:Nat} {e:TypeId} {size n:Nat} {v:Value} {xs:List Value} (h:A.ownsRow base e size v n xs) (hb:Below A.heap.size A B):B.ownsRow base e size v n xs:=by
 refine ⟨h.1, ?_⟩
 rcases h.2 with h0|⟨g,cap,cur,e,hb0,hh,h1⟩
 ·exact .inl h0
 ·exact .inr ⟨g,cap,cur,e,hb0,(hb.block g (Array.getElem?_eq_some_iff.1 hh).1).trans hh,h1⟩
def OwnB (w:World) (base:Nat) (v:Value) (l:List UInt8):Prop:=w.ownsRow base 5 1 v l.length (Lib.byteCells l)
theorem OwnB.nil (w:World) (base:Nat):OwnB w base (.slice none 0 0) []:=World.ownsRow_nil _ _ _ _
theorem OwnB.alloc {w:World} {base:Nat} {v:Value} {l:List UInt8} (h:OwnB w base v l) (o:Obj):OwnB (w.alloc o) base v l:=World.ownsRow.alloc h o
theorem OwnB.below {A B:World} {base:Nat} {v:Value} {l:List UInt8} (h:OwnB A base v l) (hb:Below A.heap.size A B):OwnB B base v l:=ownsRow_below h hb
end Go.Proofs.YtgbgngdakkiclaaGreatDoor.St
namespace Go.Proofs.YtgbgngdakkiclaaGreatDoor.St
open Go.RowKit
def tv (t:M.Tm):Value:= .agg #[.int .i64 t.1, .int .i64 t.2]
def BoxT (w:World) (g:Nat) (t:M.Tm):Prop:=w.heap[g]?=some (.cells #[.int .i64 t.1, .int .i64 t.2] 31 (0,0))
section
variable {w w':World} {g:Nat} {t:M.Tm}
theorem BoxT.new (w:World) (t:M.Tm):BoxT (w.alloc (.cells #[.int .i64 t.1, .int .i64 t.2] 31)) w.heap.size t:=heap_alloc_new w _
theorem BoxT.lt (h:BoxT w g t):g<w.heap.size:=(Array.getElem?_eq_some_iff.1 h).1
theorem BoxT.cell0 (h:BoxT w g t):w.cell? ⟨g,0,none⟩=some (.int .i64 t.1):=by rw [cell_of_row _ _ _ _ _ _ h];rfl
theorem BoxT.cell1 (h:BoxT w g t):w.cell? ⟨g,1,none⟩=some (.int .i64 t.2):=by rw [cell_of_row _ _ _ _ _ _ h];rfl
theorem BoxT.below {B:Nat} (h:BoxT w g t) (hb:Below B w w') (hg:g<B):BoxT w' g t:=(hb.block g hg).trans h
theorem BoxT.alloc (h:BoxT w g t) (o:Obj):BoxT (w.alloc o) g t:=(Below.heap_alloc w o g h.lt).trans h
theorem BoxT.drew (h:BoxT w g t):BoxT w.drew g t:=h
theorem BoxT.frozen (h:BoxT w g t) (i:Nat):w.frozen? ⟨g,i,none⟩=false:=by
 unfold BoxT at h
 simp [World.frozen?,h]
theorem BoxT.set (h:BoxT w g t) (u:M.Tm):BoxT ((w.setCell ⟨g,0,none⟩ (.int .i64 u.1)).setCell ⟨g,1,none⟩ (.int .i64 u.2)) g u:=by
 unfold BoxT at h⊢
 simp [World.setCell,Array.getElem?_modify,h]
theorem BoxT.other {g' i:Nat} (h:BoxT w g t) (hne:g'≠g) (v:Value):BoxT (w.setCell ⟨g',i,none⟩ v) g t:=by
 unfold BoxT at h⊢
 simp [World.setCell,Array.getElem?_modify,h,hne]
end
theorem below_set2 {B g:Nat} {a w:World} (h:Below B a w) (hg:B≤g) (u v:Value):Below B a ((w.setCell ⟨g,0,none⟩ u).setCell ⟨g,1,none⟩ v):=
 (h.setCell (p:=⟨g,0,none⟩) hg u).setCell (p:=⟨g,1,none⟩) hg v
theorem results_time {f:Func} {k:Nat} (hf:f.results= #[ResultVar.cell k 31]) {tmps:Array Value} {g:Nat} {t:M.Tm} {w:World} (hk:tmps.getD k undef= .pointer (some ⟨g,0,none⟩)) (hb:BoxT w g t):
  (results f tmps).run Tryz.prog w= .ok (tv t) w:=by
 simp only [results,hf]
 rw [Array.getD_eq_getD_getElem?] at hk
 have c0:=hb.cell0
 have c1:=hb.cell1
 simp [go_sem,hk,c0,c1,tv]
def i64 (z:Int):Prop:= -9223372036854775808≤z∧z≤9223372036854775807
def TimeIs (t:M.Tm) (w:World) (e:Ending) (w':World):Prop:=e= .returned (tv t)∧Below w.heap.size w w'
theorem box2 (w:World) (o:Obj) (t:M.Tm):BoxT ((w.alloc o).alloc (.cells #[.int .i64 t.1, .int .i64 t.2] 31)) (w.heap.size+1) t:=by
 have:=BoxT.new (w.alloc o) t
 rwa [World.size_alloc] at this
theorem below2 (w:World) (o o2:Obj):Below w.heap.size w ((w.alloc o).alloc o2):=((Below.refl _ w).alloc (Nat.le_refl _) _).alloc (by simp) _
theorem below3 (w:World) (o o2 o3:Obj):Below w.heap.size w (((w.alloc o).alloc o2).alloc o3):=(below2 w o o2).alloc (by simp;omega) _
set_option maxRecDepth 100000 in
set_option maxHeartbeats 1000000 in
theorem opp_any (S n:Int) (h:M.Ok (S,n)) (w:World):Calls Tryz.prog 160 #[.agg #[.int .i64 S, .int .i64 n]] w (TimeIs (M.opp (S,n)) w):=by
 obtain ⟨h1,h2,h3,h4⟩:=h
 dsimp only at h1 h2 h3 h4
 by_cases h0:n=0
 ·subst h0
  have ho:M.opp (S,0)=(-S,0):=rfl
  rw [ho]
  clear ho
  go_enter Tryz.func160,Tryz.ntmps160
  go_wp2
  exact bodyPost_ret (results_time rfl rfl (box2 w _ (-S,0))) rfl ⟨rfl,below2 _ _ _⟩
 ·have ho:M.opp (S,n)=(-S - 1,1000000000 - n):=by unfold M.opp;rw [if_neg h0]
  rw [ho]
  clear ho
  go_enter Tryz.func160,Tryz.ntmps160
  go_wp2
  exact bodyPost_ret (results_time rfl rfl (box2 w _ (-S - 1,1000000000 - n))) rfl ⟨rfl,below2 _ _ _⟩
def NormTo (t u:M.Tm) (w:World) (e:Ending) (w':World):Prop:=
 e= .returned (.agg #[.int .i64 u.1, .int .i64 u.2])∧w'=(w.alloc (.cells #[.int .i64 t.1, .int .i64 t.2] 31)).alloc (.cells #[.int .i64 u.1, .int .i64 u.2] 31)
theorem NormTo.of {S n p q:Int} {w w':World} (h:(p,q)=M.norm (S,n)) (hw:w'=(w.alloc (.cells #[.int .i64 S, .int .i64 n] 31)).alloc (.cells #[.int .i64 p, .int .i64 q] 31)):NormTo (S,n) (M.norm (S,n)) w (.returned (tv (p,q))) w':=by
 rw [←h];exact ⟨rfl,hw⟩
set_option maxRecDepth 100000 in
set_option maxHeartbeats 1000000 in
theorem norm_to (S n:Int) (w:World):Calls Tryz.prog 118 #[.agg #[.int .i64 S, .int .i64 n]] w (NormTo (S,n) (M.norm (S,n)) w):=by
 go_enter Tryz.func118,Tryz.ntmps118
 go_wp2
 all_goals
  refine bodyPost_ret (results_time rfl rfl (box2 w _ (_,_))) rfl (NormTo.of ?_ rfl)
  unfold M.norm
  simp only [Prod.mk.injEq]
  omega
set_option maxRecDepth 100000 in
set_option maxHeartbeats 1000000 in
theorem refNorm_to (S n:Int) (w:World):Calls Tryz.prog 42 #[.agg #[.int .i64 S, .int .i64 n]] w (NormTo (S,n) (M.norm (S,n)) w):=by
 go_enter Tryz.func42,Tryz.ntmps42
 go_wp2
 all_goals
  refine bodyPost_ret (results_time rfl rfl (box2 w _ (_,_))) rfl (NormTo.of ?_ rfl)
  unfold M.norm
  simp only [Prod.mk.injEq]
  omega
theorem NormTo.is {t u:M.Tm} {w w':World} {e:Ending} (h:NormTo t u w e w'):TimeIs u w e w':=by
 obtain ⟨rfl,rfl⟩:=h
 exact ⟨rfl,below2 _ _ _⟩
theorem norm_any (S n:Int) (w:World):Calls Tryz.prog 118 #[.agg #[.int .i64 S, .int .i64 n]] w (TimeIs (M.norm (S,n)) w):=(norm_to S n w).mono fun _ _ h=>h.is
theorem refNorm_any (S n:Int) (w:World):Calls Tryz.prog 42 #[.agg #[.int .i64 S, .int .i64 n]] w (TimeIs (M.norm (S,n)) w):=(refNorm_to S n w).mono fun _ _ h=>h.is
end Go.Proofs.YtgbgngdakkiclaaGreatDoor.St
namespace Go.Proofs.YtgbgngdakkiclaaGreatDoor.St
open Go.RowKit
theorem all_not {p:UInt8→Bool} {l:List UInt8} {k:Nat} (hk:k<l.length) (h:p l[k]=false):l.all p=false:=by
 rw [List.all_eq_false]
 exact ⟨l[k],List.getElem_mem hk,by rw [h];decide⟩
theorem all_take_succ {p:UInt8→Bool} {l:List UInt8} {k:Nat} (hk:k<l.length) (h:(l.take k).all p=true) (h2:p l[k]=true):(l.take (k+1)).all p=true:=by
 rw [List.take_succ_eq_append_getElem hk,List.all_append,h,Bool.true_and,List.all_cons,h2,List.all_nil];rfl
theorem decode_low (s:ByteArray) (pos:Nat) (h:pos<s.size) (hb:(s[pos]'h).toNat<128):Utf8.decode s pos=((s[pos]'h).toNat,1):=by
 unfold Utf8.decode
 simp only [get_at s pos h,if_pos hb]
theorem at_tl (s:ByteArray) (k:Nat) (h:k<s.size):(tl s)[k]'h=s[k]'h:=rfl
theorem num_take_succ {l:List UInt8} {k:Nat} (hk:k<l.length):M.num (l.take (k+1)) 0=10*M.num (l.take k) 0+((l[k]).toNat - 48):=by
 rw [List.take_succ_eq_append_getElem hk,M.num_snoc]
def numV:Option Nat→Value
 |none=> .tuple #[.int .i64 0, .bool false]
 |some n=> .tuple #[.int .i64 n, .bool true]
def NumIs (o:Option Nat) (w:World) (e:Ending) (w':World):Prop:=e= .returned (numV o)∧Below w.heap.size w w'
theorem ret_num {a b:Option Nat} (h:a=b):Ending.returned (numV a)= .returned (numV b):=by rw [h]
theorem iter_below (w:World) (s:ByteArray) (pos:Nat):Below w.heap.size w (w.iter s pos):=(Below.refl _ w).alloc (Nat.le_refl _) _
theorem num_bound {l:List UInt8} {k:Nat} (h:(l.take k).all M.isDig=true) (hk:k<l.length) (hl:l.length≤18):M.num (l.take k) 0≤99999999999999999:=by
 have h1:=M.num_lt (l.take k) 0 h
 have h2:10^(l.take k).length≤10^17:=Nat.pow_le_pow_right (by omega) (by rw [List.length_take];omega)
 omega
set_option maxRecDepth 100000 in
set_option maxHeartbeats 1000000 in
theorem number_any (s:ByteArray) (most:Nat) (hm:most≤18) (w:World):
  Calls Tryz.prog 158 #[.string s, .int .i64 most] w (NumIs (M.number (tl s) most) w):=by
 by_cases h0:tl s= []
 ·obtain rfl:s=⟨#[]⟩:=tl_inj (by rw [h0];rfl)
  have hn:=M.number_none (l:=tl ⟨#[]⟩) (most:=most) (.inl h0)
  have HN:=Lib.hid hn
  clear hn h0
  go_enter Tryz.func158,Tryz.ntmps158
  go_wp2
  go_ret2
  exact ⟨ret_num HN.out.symm,Below.refl _ _⟩
 have hne:s.toList.isEmpty=false:=by rw [tl_eq];simpa using h0
 by_cases hlong:most<s.size
 ·have hn:=M.number_none (l:=tl s) (most:=most) (.inr (.inl hlong))
  have HN:=Lib.hid hn
  have hd:decide (most<s.size)=true:=by rw [decide_eq_true_eq];omega
  clear hn h0
  go_enter Tryz.func158,Tryz.ntmps158
  go_wp2
  go_ret2
  exact ⟨ret_num HN.out.symm,Below.refl _ _⟩
 have hle:s.size≤most:=by omega
 have h18:s.size≤18:=by omega
 have hd:decide (most<s.size)=false:=by rw [decide_eq_false_iff_not];omega
 have HNE:=Lib.hid h0
 have HLE:=Lib.hid hle
 clear hlong hle h0
 go_enter Tryz.func158,Tryz.ntmps158
 go_wp2
 clear hd hne
 go_loopw [6] (fun v w'=> ∃ pos n:Nat,v= .int .i64 n∧w'=w.iter s pos∧pos≤s.size∧((tl s).take pos).all M.isDig=true∧Hid (M.num ((tl s).take pos) 0=n)) (fun _ w'=>s.size - w'.iterPos w.heap.size)
 case atStart=>exact ⟨0,0,rfl,rfl,Nat.zero_le _,rfl,Lib.hid rfl⟩
 case round=>
  obtain ⟨pos,n,rfl,rfl,hle,hu,hN⟩:=hrel
  by_cases hp:pos<s.size
  ·have hnx:=fun ty=>run_next_any (P:=Tryz.prog) w s pos ty hp
   by_cases hb:(s[pos]'hp).toNat<128
   ·simp only [decode_low s pos hp hb] at hnx
    by_cases hk:M.isDig ((tl s)[pos]'hp)=true
    ·have hs:=all_take_succ hp hu hk
     have hbd:=num_bound hu hp h18
     rw [hN.out] at hbd
     have hst:=num_take_succ (l:=tl s) hp
     rw [hN.out,at_tl] at hst
     rw [M.isDig_iff,at_tl] at hk
     obtain ⟨k1,k2⟩:=hk
     have HS:=Lib.hid hs
     have HT:=Lib.hid hst
     have e1:decide (((s[pos]'hp).toNat:Int)<48)=false:=by rw [decide_eq_false_iff_not];omega
     have e2:decide (((s[pos]'hp).toNat:Int)>57)=false:=by rw [decide_eq_false_iff_not];omega
     clear hs hu hst hN
     go_wp2
     refine ⟨⟨pos+1,n*10+((s[pos]'hp).toNat - 48),by go_num,rfl,by omega,HS.out,Lib.hid (by rw [HT.out];omega)⟩, ?_⟩
     simp;omega
    ·have hk':M.isDig ((tl s)[pos]'hp)=false:=by simpa using hk
     have HF:=Lib.hid (M.number_none (l:=tl s) (most:=most) (.inr (.inr (all_not hp hk'))))
     rw [M.isDig_iff,at_tl] at hk
     clear hk' hu
     by_cases c1:(s[pos]'hp).toNat<48
     ·have e1:decide (((s[pos]'hp).toNat:Int)<48)=true:=by rw [decide_eq_true_eq];omega
      clear hk
      go_wp2
      go_ret2
      exact ⟨ret_num HF.out.symm,iter_below _ _ _⟩
     ·have e1:decide (((s[pos]'hp).toNat:Int)<48)=false:=by rw [decide_eq_false_iff_not];omega
      have e2:decide (((s[pos]'hp).toNat:Int)>57)=true:=by rw [decide_eq_true_eq];omega
      clear hk
      go_wp2
      go_ret2
      exact ⟨ret_num HF.out.symm,iter_below _ _ _⟩
   ·have hh:=(decode_high s pos hp (by omega)).1
    have hl:=decode_le s pos
    have hk':M.isDig ((tl s)[pos]'hp)=false:=by
     rw [←Bool.not_eq_true,M.isDig_iff,at_tl];omega
    have HF:=Lib.hid (M.number_none (l:=tl s) (most:=most) (.inr (.inr (all_not hp hk'))))
    clear hk' hu
    generalize (Utf8.decode s pos).1=c at*
    generalize (Utf8.decode s pos).2=n2 at*
    have e1:decide ((c:Int)<48)=false:=by rw [decide_eq_false_iff_not];omega
    have e2:decide ((c:Int)>57)=true:=by rw [decide_eq_true_eq];omega
    go_wp2
    go_ret2
    exact ⟨ret_num HF.out.symm,iter_below _ _ _⟩
  ·have hnx: ∀ ty,(Instr.next (.pointer (some ⟨w.heap.size,0,none⟩)) true ty).run Tryz.prog (w.iter s pos)=_:=fun ty=>run_next_end w s pos ty hp
   have hall:(tl s).all M.isDig=true:=by
    rw [List.take_of_length_le (by rw [tl_len];omega)] at hu;exact hu
   have hnum:M.num (tl s) 0=n:=by
    have:=hN.out
    rwa [List.take_of_length_le (by rw [tl_len];omega)] at this
   have HF:=Lib.hid (M.number_some (most:=most) HNE.out (by rw [tl_len];exact HLE.out) hall)
   rw [hnum] at HF
   clear hall hu hnum hN
   go_wp2
   go_ret2
   exact ⟨ret_num HF.out.symm,iter_below _ _ _⟩
end Go.Proofs.YtgbgngdakkiclaaGreatDoor.St
