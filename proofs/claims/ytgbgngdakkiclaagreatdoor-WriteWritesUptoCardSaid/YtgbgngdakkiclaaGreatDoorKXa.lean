import Derived.Below
import Derived.Laws.OwnMore
import Derived.Deep.AppendLies
import Derived.Deep.Draws
import Derived.Lib.Hide
import Derived.Lib.ItoaNum
import Derived.Test.YtgbgngdakkiclaaGreatDoorProg
import Derived.Laws.BytesString
import Derived.Laws.IdiomStrings
import Derived.Laws.MakeOwn
import Derived.Deep.OwnRows
import Derived.Deep.WholeRow
import Derived.Lib.BufferWrite
import Derived.Lib.SlBytesConst
import Derived.Lib.AppendStr
import Derived.Maps.AppendAt
import Derived.RegionTactic
import Derived.OwnWalk
import Derived.WalkKit
import Derived.ProofKit
import Derived.Lib.OthersKept
import Derived.Laws.AppendOwn
import Derived.Sort.KeysCollected
import Derived.Maps.Own
import Derived.Maps.Views
set_option linter.unusedVariables false
set_option linter.unusedSimpArgs false
set_option linter.unusedVariables false
set_option linter.unusedSimpArgs false
namespace Go.Proofs.YtgbgngdakkiclaaGreatDoor.Px
open Go.RowKit
def cutA (A:Option Addr) (c k:Nat):Option Addr:=if c=k then A else A.map (·.add k)
def Rd (w:World) (B:Nat) (A:Option Addr) (n:Nat) (zs:List Int):Prop:=
 zs.length=n∧(∀ z∈zs,0≤z∧z≤255)∧
  (0<n→ ∃ b off,A=some ⟨b,off,none⟩∧b<B∧ ∀ j z,zs[j]?=some z→w.cell? ⟨b,off+j,none⟩=some (.int .u8 z))
section
variable {w w':World} {B B' n:Nat} {A:Option Addr} {zs:List Int}
theorem Rd.len (h:Rd w B A n zs):zs.length=n:=h.1
theorem Rd.none_:Rd w B A 0 []:=⟨rfl,by simp,fun h=>absurd h (by omega)⟩
theorem Rd.at_ {k:Nat} (h:Rd w B A n zs) (hk:k<n):
  ∃ b off z,A=some ⟨b,off,none⟩∧b<B∧0≤z∧z≤255∧zs[k]?=some z∧w.cell? ⟨b,off+k,none⟩=some (.int .u8 z):=by
 obtain ⟨b,off,e,hb,hc⟩:=h.2.2 (by omega)
 have hl:k<zs.length:=by have:=h.1;omega
 have hz:=h.2.1 zs[k] (List.getElem_mem hl)
 exact ⟨b,off,zs[k],e,hb,hz.1,hz.2,List.getElem?_eq_getElem hl,hc k _ (List.getElem?_eq_getElem hl)⟩
theorem Rd.keep (h:Rd w B A n zs) (hk: ∀ p:Addr,p.block<B→w'.cell? p=w.cell? p):Rd w' B A n zs:=
 ⟨h.1,h.2.1,fun hn=>by
  obtain ⟨b,off,e,hb,hc⟩:=h.2.2 hn
  exact ⟨b,off,e,hb,fun j z hz=>(hk _ hb).trans (hc j z hz)⟩⟩
theorem Rd.more (h:Rd w B A n zs) (hB:B≤B'):Rd w B' A n zs:=
 ⟨h.1,h.2.1,fun hn=>by
  obtain ⟨b,off,e,hb,hc⟩:=h.2.2 hn
  exact ⟨b,off,e,by omega,hc⟩⟩
theorem Rd.below (h:Rd w B A n zs) (hb:Below B w w'):Rd w' B A n zs:=h.keep fun _ hp=>hb.cell hp
theorem Rd.drew (h:Rd w B A n zs):Rd w.drew B A n zs:=h
theorem Rd.drewN (h:Rd w B A n zs) (k:Nat):Rd (w.drewN k) B A n zs:=h
theorem Rd.alloc (h:Rd w B A n zs) (hB:B≤w.heap.size) (o:Obj):Rd (w.alloc o) B A n zs:=h.keep fun p hp=>World.cell?_alloc_lt w o p (by omega)
theorem Rd.cut {c k:Nat} (h:Rd w B A n zs) (hk:k≤n) (hc:n≤c):Rd w B (cutA A c k) (n - k) (zs.drop k):=by
 unfold cutA
 refine ⟨by rw [List.length_drop,h.1],fun z hz=>h.2.1 z (List.mem_of_mem_drop hz),fun hn=> ?_⟩
 obtain ⟨b,off,rfl,hb,hcell⟩:=h.2.2 (by omega)
 rw [if_neg (by omega)]
 refine ⟨b,off+k, ?_,hb,fun j z hz=> ?_⟩
 ·simp [Addr.add]
 ·rw [Nat.add_assoc]
  exact hcell _ z (by rw [←hz,List.getElem?_drop])
theorem Rd.front {k:Nat} (h:Rd w B A n zs) (hk:k≤n):Rd w B A k (zs.take k):=by
 refine ⟨by rw [List.length_take,h.1];omega,fun z hz=>h.2.1 z (List.mem_of_mem_take hz),fun hn=> ?_⟩
 obtain ⟨b,off,e,hb,hcell⟩:=h.2.2 (by omega)
 refine ⟨b,off,e,hb,fun j z hz=>hcell j z ?_⟩
 rw [List.getElem?_take] at hz
 split at hz
 ·exact hz
 ·cases hz
theorem Rd.of_own {base:Nat} {e:TypeId} {c:Nat} (h:w.ownsRow base e 1 (.slice A n c) n (zs.map (Value.int .u8))) (hz: ∀ z∈zs,0≤z∧z≤255):Rd w w.heap.size A n zs:=by
 refine ⟨by have:=h.1;simpa using this,hz,fun hn=> ?_⟩
 obtain ⟨g,cap,hv,_,hlt⟩:=h.form hn
 have hA:A=some ⟨g,0,none⟩:=by injection hv
 subst hA
 refine ⟨g,0,rfl,hlt,fun j z hj=> ?_⟩
 have:=h.cells (g:=g) rfl j (.int .u8 z) (by simp [List.getElem?_map,hj])
 unfold Addr.add at this
 split at this
 ·rename_i h0
  subst h0
  exact this
 ·simpa using this
end
theorem ret_int {k:IntKind} {a b:Int} (h:a=b):Ending.returned (.int k a)= .returned (.int k b):=by rw [h]
theorem ret_bool {a b:Bool} (h:a=b):Ending.returned (.bool a)= .returned (.bool b):=by rw [h]
end Go.Proofs.YtgbgngdakkiclaaGreatDoor.Px
namespace Go.Proofs.YtgbgngdakkiclaaGreatDoor.Px
namespace M
open Go.Lib (decDigits nDigits)
abbrev Rc:=List UInt8 × List UInt8
def keyOk (c:UInt8):Bool:=decide (33≤c.toNat)&&decide (c.toNat≤126)&& !(decide (c.toNat=61))
def right (r:Rc):Bool:=r.1.all keyOk&&r.2.all (fun c=> !(c==0))&& !r.1.isEmpty
def body (r:Rc):List UInt8:=32::(r.1++61::(r.2++ [10]))
theorem body_length (r:Rc):(body r).length=r.1.length+r.2.length+3:=by simp [body];omega
def wid (L:Nat):Nat:=
 if L+1<10 then 1 else if L+2<100 then 2 else if L+3<1000 then 3 else if L+4<10000 then 4 else if L+5<100000 then 5 else if L+6<1000000 then 6 else if L+7<10000000 then 7 else 8
def line (r:Rc):List UInt8:=decDigits ((body r).length+wid (body r).length)++body r
theorem nDigits_ge {u k:Nat} (h:10^k≤u):k+1≤nDigits u:=by
 induction k generalizing u with
 |zero=>exact Lib.nDigits_pos u
 |succ k ih=>
  have h1:10≤10^(k+1):=by rw [Nat.pow_succ];have:0<10^k:=Nat.pow_pos (by omega);omega
  rw [Lib.nDigits_big (by omega)]
  have:=ih (u:=u/10) (by rw [Nat.pow_succ] at h;omega)
  omega
theorem wid_spec {L:Nat} (h:L+8<100000000):1≤wid L∧wid L≤8∧nDigits (L+wid L)=wid L∧ ∀ d,1≤d→d<wid L→nDigits (L+d)≠d:=by
 have big: ∀ d,10^d≤L+d→nDigits (L+d)≠d:=fun d hd=>by have:=nDigits_ge hd;omega
 unfold wid
 by_cases h1:L+1<10
 ·rw [if_pos h1];exact ⟨by omega,by omega,Lib.nDigits_small (by omega),fun d a b=>by omega⟩
 rw [if_neg h1]
 by_cases h2:L+2<100
 ·rw [if_pos h2]
  refine ⟨by omega,by omega,Lib.nDigits_unique 1 _ (by omega) (by omega),fun d a b=>big d ?_⟩
  have e:d=1:=by omega
  subst e
  omega
 rw [if_neg h2]
 have b1:10^1≤L+1:=by omega
 have b2:10^2≤L+2:=by omega
 by_cases h3:L+3<1000
 ·rw [if_pos h3]
  refine ⟨by omega,by omega,Lib.nDigits_unique 2 _ (by omega) (by omega),fun d a b=>big d ?_⟩
  have:d=1∨d=2:=by omega
  rcases this with rfl|rfl<;>assumption
 rw [if_neg h3]
 have b3:10^3≤L+3:=by omega
 by_cases h4:L+4<10000
 ·rw [if_pos h4]
  refine ⟨by omega,by omega,Lib.nDigits_unique 3 _ (by omega) (by omega),fun d a b=>big d ?_⟩
  have:d=1∨d=2∨d=3:=by omega
  rcases this with rfl|rfl|rfl<;>assumption
 rw [if_neg h4]
 have b4:10^4≤L+4:=by omega
 by_cases h5:L+5<100000
 ·rw [if_pos h5]
  refine ⟨by omega,by omega,Lib.nDigits_unique 4 _ (by omega) (by omega),fun d a b=>big d ?_⟩
  have:d=1∨d=2∨d=3∨d=4:=by omega
  rcases this with rfl|rfl|rfl|rfl<;>assumption
 rw [if_neg h5]
 have b5:10^5≤L+5:=by omega
 by_cases h6:L+6<1000000
 ·rw [if_pos h6]
  refine ⟨by omega,by omega,Lib.nDigits_unique 5 _ (by omega) (by omega),fun d a b=>big d ?_⟩
  have:d=1∨d=2∨d=3∨d=4∨d=5:=by omega
  rcases this with rfl|rfl|rfl|rfl|rfl<;>assumption
 rw [if_neg h6]
 have b6:10^6≤L+6:=by omega
 by_cases h7:L+7<10000000
 ·rw [if_pos h7]
  refine ⟨by omega,by omega,Lib.nDigits_unique 6 _ (by omega) (by omega),fun d a b=>big d ?_⟩
  have:d=1∨d=2∨d=3∨d=4∨d=5∨d=6:=by omega
  rcases this with rfl|rfl|rfl|rfl|rfl|rfl<;>assumption
 rw [if_neg h7]
 have b7:10^7≤L+7:=by omega
 refine ⟨by omega,by omega,Lib.nDigits_unique 7 _ (by omega) (by omega),fun d a b=>big d ?_⟩
 have:d=1∨d=2∨d=3∨d=4∨d=5∨d=6∨d=7:=by omega
 rcases this with rfl|rfl|rfl|rfl|rfl|rfl|rfl<;>assumption
def isDig (c:UInt8):Bool:=decide (48≤c.toNat)&&decide (c.toNat≤57)
def num:List UInt8→Nat→Nat
 | [],a=>a
 |c::l,a=>num l (10*a+(c.toNat - 48))
def lineLen (r:Rc):Nat:=(body r).length+wid (body r).length
theorem line_eq (r:Rc):line r=decDigits (lineLen r)++body r:=rfl
theorem line_length {r:Rc} (h:(body r).length+8<100000000):(line r).length=lineLen r:=by
 have hw:=wid_spec h
 rw [line_eq,List.length_append,Lib.decDigits_length]
 unfold lineLen
 omega
def one (b:List UInt8):Option (Rc × Nat):=
 let ds:=(b.take 8).takeWhile isDig
 let n:=num ds 0
 if n≤ds.length∨b.length<n then none
 else
  let u:=((b.take n).drop (ds.length+1)).dropLast
  let key:=u.takeWhile fun c=> !(c==61)
  let r:Rc:=(key,u.drop (key.length+1))
  if key.length<u.length∧right r=true∧line r=b.take n then some (r,n) else none
theorem keys_no_eq {r:Rc} (h:right r=true): ∀ c∈r.1,(!(c==61))=true:=by
 intro c hc
 unfold right at h
 simp only [Bool.and_eq_true,List.all_eq_true] at h
 have:=h.1.1 c hc
 unfold keyOk at this
 simp only [Bool.and_eq_true,Bool.not_eq_true',decide_eq_true_eq,decide_eq_false_iff_not] at this
 have h2:c≠61:=by rintro rfl;exact this.2 rfl
 simpa using h2
def lines (l:List Rc):List UInt8:=(l.map line).flatten
theorem lines_app (l m:List Rc):lines (l++m)=lines l++lines m:=by simp [lines]
end M
end Go.Proofs.YtgbgngdakkiclaaGreatDoor.Px
namespace Go.Proofs.YtgbgngdakkiclaaGreatDoor.Px
open Go.RowKit
def tl (s:ByteArray):List UInt8:=s.data.toList
theorem tl_len (s:ByteArray):(tl s).length=s.size:=rfl
theorem tl_mk (l:List UInt8):tl ⟨l.toArray⟩=l:=rfl
theorem tl_append (a b:ByteArray):tl (a++b)=tl a++tl b:=by unfold tl;simp
theorem tl_eq (x:ByteArray):x.toList=tl x:=ByteArray.toList_eq x
theorem tl_inj {a b:ByteArray} (h:tl a=tl b):a=b:=WideShapes.bytes_inj h
theorem below_drewN' {B:Nat} {a w:World} (h:Below B a w) (n:Nat):Below B a (w.drewN n):=⟨h.os,h.tape,h.output,h.size,h.block⟩
theorem below_drew' {B:Nat} {a w:World} (h:Below B a w):Below B a w.drew:=⟨h.os,h.tape,h.output,h.size,h.block⟩
theorem block_of_add (a:Addr) (n:Nat):(a.add n).block=a.block:=by unfold Addr.add;split<;>rfl
theorem add_of_add (a:Addr) (i j:Nat):(a.add i).add j=a.add (i+j):=by
 unfold Addr.add
 by_cases hi:i=0<;>by_cases hj:j=0<;>simp [hi,hj,Nat.add_assoc]
def Reads (w:World) (B size:Nat) (A:Option Addr) (n:Nat) (xs:List Value):Prop:=
 xs.length=n*size∧(0<n→ ∃ ad,A=some ad∧ad.block<B∧ ∀ j u,xs[j]?=some u→w.cell? (ad.add j)=some u)
section
variable {w w':World} {B B' size n:Nat} {A:Option Addr} {xs:List Value}
theorem Reads.none_:Reads w B size A 0 []:=⟨by simp,fun h=>absurd h (by omega)⟩
theorem Reads.at_ {k:Nat} (h:Reads w B 1 A n xs) (hk:k<n): ∃ ad u,A=some ad∧ad.block<B∧xs[k]?=some u∧w.cell? (ad.add k)=some u:=by
 obtain ⟨ad,e,hb,hc⟩:=h.2 (by omega)
 have hl:k<xs.length:=by have:=h.1;omega
 exact ⟨ad,xs[k],e,hb,List.getElem?_eq_getElem hl,hc k _ (List.getElem?_eq_getElem hl)⟩
theorem Reads.keep (h:Reads w B size A n xs) (hk: ∀ p:Addr,p.block<B→w'.cell? p=w.cell? p):Reads w' B size A n xs:=
 ⟨h.1,fun hn=>by
  obtain ⟨ad,e,hb,hc⟩:=h.2 hn
  exact ⟨ad,e,hb,fun j u hu=>(hk _ (by rw [block_of_add];exact hb)).trans (hc j u hu)⟩⟩
theorem Reads.more (h:Reads w B size A n xs) (hB:B≤B'):Reads w B' size A n xs:=
 ⟨h.1,fun hn=>by
  obtain ⟨ad,e,hb,hc⟩:=h.2 hn
  exact ⟨ad,e,by omega,hc⟩⟩
theorem Reads.below (h:Reads w B size A n xs) (hb:Below B w w'):Reads w' B size A n xs:=h.keep fun _ hp=>hb.cell hp
theorem Reads.drew (h:Reads w B size A n xs):Reads w.drew B size A n xs:=h
theorem Reads.drewN (h:Reads w B size A n xs) (k:Nat):Reads (w.drewN k) B size A n xs:=h
theorem Reads.alloc (h:Reads w B size A n xs) (hB:B≤w.heap.size) (o:Obj):Reads (w.alloc o) B size A n xs:=h.keep fun p hp=>World.cell?_alloc_lt w o p (by omega)
theorem Reads.grown (h:Reads w B size A n xs) {row:Option Nat} (hg:w.grownBy w' row) (hB:B≤w.heap.size) (hr: ∀ g,row=some g→B≤g):Reads w' B size A n xs:=
 h.keep fun p hp=>World.cell?_of_block (hg.block p.block (by omega) (fun e=>by have:=hr _ e.symm;omega))
theorem Reads.cut (h:Reads w B size A n xs) {k cap:Nat} (hk:k≤n) (hc:n≤cap):
  Reads w B size (if cap=k then A else A.map (·.add (k*size))) (n - k) (xs.drop (k*size)):=by
 refine ⟨by rw [List.length_drop,h.1,Nat.sub_mul],fun hn=> ?_⟩
 obtain ⟨ad,rfl,hb,hcell⟩:=h.2 (by omega)
 rw [if_neg (by omega)]
 refine ⟨ad.add (k*size),rfl,by rw [block_of_add];exact hb,fun j u hu=> ?_⟩
 rw [add_of_add]
 exact hcell _ u (by rw [←hu,List.getElem?_drop])
theorem Reads.of_own {base:Nat} {e:TypeId} {c:Nat} (h:w.ownsRow base e size (.slice A n c) n xs):Reads w w.heap.size size A n xs:=by
 refine ⟨h.1,fun hn=> ?_⟩
 obtain ⟨g,cap,hv,_,hlt⟩:=h.form hn
 have hA:A=some ⟨g,0,none⟩:=by injection hv
 subst hA
 exact ⟨_,rfl,hlt,h.cells (g:=g) rfl⟩
end
section
variable {P:Program} (w:World)
theorem run_append_of_nil (base:Nat) (t ty e:TypeId) (i:TypeInfo) (size:Nat) (ht:P.underlying t=some (.slice e)) (hi:P.info? e=some i)
  (v:Value) (n:Nat) (xs:List Value) (hown:w.ownsRow base e size v n xs) (c:Nat):(Builtin.append_ #[t,t] ty #[v, .slice none 0 c]).run P w= .ok v w:=by
 rcases hown.2 with ⟨rfl,rfl⟩|⟨g,cap,cur,rfl,_,_,hnc,_⟩
 ·simp [Builtin.append_,run_underlying ht,sizeOf,typeInfo,hi,Builtin.lenOf,Builtin.firstCells]
 ·simp [Builtin.append_,run_underlying ht,sizeOf,typeInfo,hi,Builtin.lenOf,Builtin.firstCells,hnc,storeCells]
theorem run_append_any (base:Nat) (t ty e:TypeId) (i:TypeInfo) (z:Value) (size bytes:Nat) (ht:P.underlying t=some (.slice e)) (hi:P.info? e=some i) (hz:i.zero=some z)
  (hsize:i.size=size) (hby:i.bytes=bytes) (hzs:z.cells.size=size) (hsz:0<size)
  (v:Value) (n:Nat) (xs:List Value) (hown:w.ownsRow base e size v n xs)
  (B:Nat) (A:Option Addr) (m c:Nat) (news:List Value) (hr:Reads w B size A m news) (h1: ∀ u∈news,u.oneCell'=true)
  (h63:n+m≤maxLen) (hbytes:(n+m)*bytes≤140737488355328) (hbase:base≤w.heap.size):
  ∃ v' w',(Builtin.append_ #[t,t] ty #[v, .slice A m c]).run P w= .ok v' w'∧w'.ownsRow base e size v' (n+m) (xs++news)∧w.grownBy w' v.ownBlock∧
    (v'.ownBlock=v.ownBlock∨v'.ownBlock=some w.heap.size):=by
 rcases A with _|ad
 ·have hm:m=0:=by
   rcases Nat.eq_zero_or_pos m with h0|h0
   ·exact h0
   ·obtain ⟨ad,h,_⟩:=hr.2 h0
    cases h
  subst hm
  have hn:news= []:=List.eq_nil_of_length_eq_zero (by simpa using hr.1)
  subst hn
  exact ⟨v,w,run_append_of_nil w base t ty e i size ht hi v n xs hown c,by simpa using hown,World.grownBy.refl w _, .inl rfl⟩
 ·have hcells: ∀ j u,news[j]?=some u→w.cell? (ad.add j)=some u:=by
   intro j u hu
   rcases Nat.eq_zero_or_pos m with h0|h0
   ·subst h0
    have hn:news= []:=List.eq_nil_of_length_eq_zero (by simpa using hr.1)
    subst hn
    simp at hu
   ·obtain ⟨ad',h,_,hc⟩:=hr.2 h0
    injection h with h
    subst h
    exact hc j u hu
  obtain ⟨v',w',hrun,h2,h3,_,h5⟩:=run_append_own_at (P:=P) w base t ty e i z size bytes ht hi hz hsize hby hzs hsz v n xs hown ad m c news hr.1 hcells h1 h63 hbytes hbase
  exact ⟨v',w',hrun,h2,h3,h5⟩
theorem wp_append_any {o:Oper} {a:Act} {K:Act→World→Prop} {Q:Exit→Act→World→Prop} (s x:Operand) (t:TypeId)
  (ho:o.op= .call { callee:= .builtin .append,args:= #[s,x],argTypes:= #[t,t] })
  (base:Nat) (e:TypeId) (i:TypeInfo) (z:Value) (size bytes:Nat) (ht:P.underlying t=some (.slice e)) (hi:P.info? e=some i) (hz:i.zero=some z)
  (hsize:i.size=size) (hby:i.bytes=bytes) (hzs:z.cells.size=size) (hsz:0<size)
  (v:Value) (n:Nat) (xs:List Value) (hs:a.eval s=v) (hown:w.ownsRow base e size v n xs)
  (B:Nat) (A:Option Addr) (m c:Nat) (news:List Value) (hx:a.eval x= .slice A m c) (hr:Reads w B size A m news) (h1: ∀ u∈news,u.oneCell'=true)
  (h63:n+m≤maxLen) (hbytes:(n+m)*bytes≤140737488355328) (hbase:base≤w.heap.size)
  (h: ∀ v' w',w'.ownsRow base e size v' (n+m) (xs++news)→w.grownBy w' v.ownBlock→(v'.ownBlock=v.ownBlock∨v'.ownBlock=some w.heap.size)→K (a.put o.dst v') w'):o.wp P a w K Q:=by
 obtain ⟨v',w',hrun,h2,h3,h4⟩:=run_append_any (P:=P) w base t o.type e i z size bytes ht hi hz hsize hby hzs hsz v n xs hown B A m c news hr h1 h63 hbytes hbase
 unfold Oper.wp execOp
 simp only [ho,resolve,invoke,builtin,Sem.run_bind,Sem.run_pure,Result.andThen_ok,List.map_toArray,List.map_cons,List.map_nil,hs,hx,hrun]
 exact h v' w' h2 h3 h4
theorem wpList_append_any {ops:Array Oper} {rest:List Oper} {o:Oper} {a:Act} {Q:Exit→Act→World→Prop} (hgd:o.guard=none) (s x:Operand) (t:TypeId)
  (ho:o.op= .call { callee:= .builtin .append,args:= #[s,x],argTypes:= #[t,t] })
  (base:Nat) (e:TypeId) (i:TypeInfo) (z:Value) (size bytes:Nat) (ht:P.underlying t=some (.slice e)) (hi:P.info? e=some i) (hz:i.zero=some z)
  (hsize:i.size=size) (hby:i.bytes=bytes) (hzs:z.cells.size=size) (hsz:0<size)
  (v:Value) (n:Nat) (xs:List Value) (hs:a.eval s=v) (hown:w.ownsRow base e size v n xs)
  (B:Nat) (A:Option Addr) (m c:Nat) (news:List Value) (hx:a.eval x= .slice A m c) (hr:Reads w B size A m news) (h1: ∀ u∈news,u.oneCell'=true)
  (h63:n+m≤maxLen) (hbytes:(n+m)*bytes≤140737488355328) (hbase:base≤w.heap.size)
  (h: ∀ v' w',w'.ownsRow base e size v' (n+m) (xs++news)→w.grownBy w' v.ownBlock→(v'.ownBlock=v.ownBlock∨v'.ownBlock=some w.heap.size)→wpList P ops Q rest (a.put o.dst v') w'):wpList P ops Q (o::rest) a w:=
 wpList_plain hgd fun _ hK=>wp_append_any w s x t ho base e i z size bytes ht hi hz hsize hby hzs hsz v n xs hs hown B A m c news hx hr h1 h63 hbytes hbase fun v' w' h2 h3 h4=>hK _ _ (h v' w' h2 h3 h4)
end
theorem Rd.reads {w:World} {B n:Nat} {A:Option Addr} {zs:List Int} (h:Rd w B A n zs):Reads w B 1 A n (zs.map (Value.int .u8)):=by
 refine ⟨by rw [List.length_map,h.len,Nat.mul_one],fun hn=> ?_⟩
 obtain ⟨b,off,e,hb,hc⟩:=h.2.2 hn
 refine ⟨_,e,hb,fun j u hj=> ?_⟩
 rw [List.getElem?_map] at hj
 cases hz:zs[j]? with
 |none=>rw [hz] at hj;cases hj
 |some z=>
  rw [hz] at hj
  injection hj with hj
  subst hj
  have hcj:=hc j z hz
  unfold Addr.add
  split
  ·rename_i h0
   subst h0
   exact hcj
  ·exact hcj
def ints (l:List UInt8):List Int:=l.map fun b=>(b.toNat:Int)
theorem ints_length (l:List UInt8):(ints l).length=l.length:=by simp [ints]
theorem ints_bd (l:List UInt8): ∀ z∈ints l,0≤z∧z≤255:=by
 intro z hz
 obtain ⟨b,_,rfl⟩:=List.mem_map.1 hz
 have:=UInt8.toNat_lt b
 omega
def strOf (zs:List Int):ByteArray:=zs.foldl (fun r n=>r.push (UInt8.ofNat n.toNat)) ByteArray.empty
theorem strOf_ints (l:List UInt8):strOf (ints l)=⟨l.toArray⟩:=by
 have key: ∀ (l:List UInt8) (r:ByteArray),(ints l).foldl (fun r n=>r.push (UInt8.ofNat n.toNat)) r=⟨(r.data.toList++l).toArray⟩:=by
  intro l
  induction l with
  |nil=>intro r;simp [ints]
  |cons c l ih=>
   intro r
   have e:ints (c::l)=(c.toNat:Int)::ints l:=rfl
   rw [e,List.foldl_cons,ih]
   simp [ByteArray.push]
 unfold strOf
 rw [key]
 rfl
theorem Rd.new (w:World) (t:TypeId) (l:List UInt8):Rd (w.alloc (.cells (Lib.byteCells l).toArray t)) (w.heap.size+1) (some ⟨w.heap.size,0,none⟩) l.length (ints l):=by
 refine ⟨ints_length l,ints_bd l,fun _=>⟨_,0,rfl,Nat.lt_succ_self _,fun j z hj=> ?_⟩⟩
 have hb:(w.alloc (.cells (Lib.byteCells l).toArray t)).heap[w.heap.size]?=some (.cells (Lib.byteCells l).toArray t (0,0)):=heap_alloc_new w _
 rw [cell_of_row _ _ _ _ _ _ hb,Nat.zero_add]
 unfold ints at hj
 rw [List.getElem?_map] at hj
 cases hx:l[j]? with
 |none=>rw [hx] at hj;cases hj
 |some x=>
  rw [hx] at hj
  injection hj with hj
  subst hj
  simp [Lib.byteCells,hx]
theorem ownsRow_block {A:World} {base:Nat} {e:TypeId} {size n:Nat} {v:Value} {xs:List Value} (h:A.ownsRow base e size v n xs): ∀ g,v.ownBlock=some g→base≤g:=by
 intro g hg
 rcases h.2 with ⟨hv,_⟩|⟨g',cap,cur,hv,hb,_⟩
 ·subst hv;simp [Value.ownBlock] at hg
 ·subst hv
  have:g'=g:=by simpa [Value.ownBlock] using hg
  omega
theorem infoB:(Tryz.prog.info? 5).map (fun i=>(i.zero,i.size,i.bytes))=some (some (.int .u8 0),1,1):=by kernel_rfl
theorem infoS:(Tryz.prog.info? 9).map (fun i=>(i.zero,i.size,i.bytes))=some (some (.string ⟨#[]⟩),1,16):=by kernel_rfl
theorem infoR:(Tryz.prog.info? 47).map (fun i=>(i.zero,i.size,i.bytes))=some (some (.agg #[.string ⟨#[]⟩, .string ⟨#[]⟩]),2,32):=by kernel_rfl
theorem ownsRow_below {A B:World} {base:Nat} {e:TypeId} {size n:Nat} {v:Value} {xs:List Value} (h:A.ownsRow base e size v n xs) (hb:Below A.heap.size A B):B.ownsRow base e size v n xs:=by
 refine ⟨h.1, ?_⟩
 rcases h.2 with h0|⟨g,cap,cur,e,hb0,hh,h1⟩
 ·exact .inl h0
 ·exact .inr ⟨g,cap,cur,e,hb0,(hb.block g (Array.getElem?_eq_some_iff.1 hh).1).trans hh,h1⟩
def OwnB (w:World) (base:Nat) (v:Value) (l:List UInt8):Prop:=w.ownsRow base 5 1 v l.length (Lib.byteCells l)
theorem OwnB.nil (w:World) (base:Nat):OwnB w base (.slice none 0 0) []:=World.ownsRow_nil _ _ _ _
theorem byteCells_ints (l:List UInt8):Lib.byteCells l=(ints l).map (Value.int .u8):=by simp [Lib.byteCells,ints]
theorem OwnB.rd {w:World} {base:Nat} {v:Value} {l:List UInt8} (h:OwnB w base v l):
  ∃ A c,v= .slice A l.length c∧Rd w w.heap.size A l.length (ints l)∧l.length≤c∧c≤maxLen:=by
 unfold OwnB at h
 rw [byteCells_ints] at h
 rcases h.2 with ⟨hv,h0⟩|⟨g,cap,cur,hv,hb,hh,hnc,hcm,hcs,htk⟩
 ·have hz:l= []:=List.eq_nil_of_length_eq_zero h0
  subst hz
  exact ⟨none,0,hv,Rd.none_,Nat.le_refl _,Nat.zero_le _⟩
 ·subst hv
  exact ⟨_,cap,rfl,Rd.of_own h (ints_bd l),hnc,hcm⟩
theorem OwnB.alloc {w:World} {base:Nat} {v:Value} {l:List UInt8} (h:OwnB w base v l) (o:Obj):OwnB (w.alloc o) base v l:=World.ownsRow.alloc h o
theorem OwnB.below {A B:World} {base:Nat} {v:Value} {l:List UInt8} (h:OwnB A base v l) (hb:Below A.heap.size A B):OwnB B base v l:=ownsRow_below h hb
abbrev R2:=ByteArray × ByteArray
def rc (r:R2):M.Rc:=(tl r.1,tl r.2)
def rcs (l:List R2):List M.Rc:=l.map rc
theorem rcs_app (a b:List R2):rcs (a++b)=rcs a++rcs b:=by simp [rcs]
theorem rcs_len (a:List R2):(rcs a).length=a.length:=by simp [rcs]
def mk (r:M.Rc):R2:=(⟨r.1.toArray⟩,⟨r.2.toArray⟩)
def recCells (r:R2):List Value:= [.string r.1, .string r.2]
def cellsR (l:List R2):List Value:=l.flatMap recCells
theorem cellsR_len (l:List R2):(cellsR l).length=l.length*2:=by
 induction l with
 |nil=>rfl
 |cons r l ih=>rw [cellsR,List.flatMap_cons,List.length_append,List.length_cons,←cellsR,ih];simp [recCells];omega
theorem cellsR_app (a b:List R2):cellsR (a++b)=cellsR a++cellsR b:=by simp [cellsR]
theorem cellsR_at: ∀ {l:List R2} {k:Nat} {r:R2},l[k]?=some r→(cellsR l)[k*2]?=some (.string r.1)∧(cellsR l)[k*2+1]?=some (.string r.2)
 | [],k,r,h=>by simp at h
 |x::l,0,r,h=>by
  simp at h
  subst h
  exact ⟨rfl,rfl⟩
 |x::l,k+1,r,h=>by
  have ih:=cellsR_at (l:=l) (k:=k) (r:=r) (by simpa using h)
  have e:cellsR (x::l)= .string x.1:: .string x.2::cellsR l:=rfl
  rw [e,show (k+1)*2=k*2+1+1 by omega]
  exact ⟨by simpa using ih.1,by simpa using ih.2⟩
def RdR (w:World) (B:Nat) (A:Option Addr) (l:List R2):Prop:=
 0<l.length→ ∃ b off,A=some ⟨b,off,none⟩∧b<B∧ ∀ k r,l[k]?=some r→w.cell? ⟨b,off+k*2,none⟩=some (.string r.1)∧w.cell? ⟨b,off+k*2+1,none⟩=some (.string r.2)
section
variable {w w':World} {B B':Nat} {A:Option Addr} {l:List R2}
theorem RdR.none_:RdR w B A []:=fun h=>absurd h (by simp)
theorem RdR.at_ {k:Nat} (h:RdR w B A l) (hk:k<l.length):
  ∃ b off,A=some ⟨b,off,none⟩∧b<B∧w.cell? ⟨b,off+k*2,none⟩=some (.string (l[k]).1)∧w.cell? ⟨b,off+k*2+1,none⟩=some (.string (l[k]).2):=by
 obtain ⟨b,off,e,hb,hc⟩:=h (by omega)
 obtain ⟨h1,h2⟩:=hc k _ (List.getElem?_eq_getElem hk)
 exact ⟨b,off,e,hb,h1,h2⟩
theorem RdR.keep (h:RdR w B A l) (hk: ∀ p:Addr,p.block<B→w'.cell? p=w.cell? p):RdR w' B A l:=fun hn=>by
 obtain ⟨b,off,e,hb,hc⟩:=h hn
 exact ⟨b,off,e,hb,fun k r hr=>⟨(hk _ hb).trans (hc k r hr).1,(hk _ hb).trans (hc k r hr).2⟩⟩
theorem RdR.more (h:RdR w B A l) (hB:B≤B'):RdR w B' A l:=fun hn=>by
 obtain ⟨b,off,e,hb,hc⟩:=h hn
 exact ⟨b,off,e,by omega,hc⟩
theorem RdR.below (h:RdR w B A l) (hb:Below B w w'):RdR w' B A l:=h.keep fun _ hp=>hb.cell hp
theorem RdR.drewN (h:RdR w B A l) (k:Nat):RdR (w.drewN k) B A l:=h
theorem RdR.alloc (h:RdR w B A l) (hB:B≤w.heap.size) (o:Obj):RdR (w.alloc o) B A l:=h.keep fun p hp=>World.cell?_alloc_lt w o p (by omega)
theorem RdR.grown (h:RdR w B A l) {row:Option Nat} (hg:w.grownBy w' row) (hB:B≤w.heap.size) (hr: ∀ g,row=some g→B≤g):RdR w' B A l:=
 h.keep fun p hp=>World.cell?_of_block (hg.block p.block (by omega) (fun e=>by have:=hr _ e.symm;omega))
theorem RdR.front {k:Nat} (h:RdR w B A l):RdR w B A (l.take k):=fun hn=>by
 rw [List.length_take] at hn
 obtain ⟨b,off,e,hb,hc⟩:=h (by omega)
 refine ⟨b,off,e,hb,fun j r hr=>hc j r ?_⟩
 rw [List.getElem?_take] at hr
 split at hr
 ·exact hr
 ·cases hr
end
theorem add_mk (b off j:Nat):(⟨b,off,none⟩:Addr).add j=⟨b,off+j,none⟩:=by
 unfold Addr.add
 split
 ·rename_i h0
  subst h0
  rfl
 ·rfl
def cutR (A:Option Addr) (c k:Nat):Option Addr:=if c=k then A else A.map (·.add (k*2))
theorem RdR.cut {w:World} {B:Nat} {A:Option Addr} {l:List R2} {k c:Nat} (h:RdR w B A l) (hc:l.length≤c):RdR w B (cutR A c k) (l.drop k):=fun hn=>by
 rw [List.length_drop] at hn
 obtain ⟨b,off,rfl,hb,hcell⟩:=h (by omega)
 unfold cutR
 rw [if_neg (by omega)]
 refine ⟨b,off+k*2, ?_,hb,fun j r hr=> ?_⟩
 ·rw [Option.map_some,add_mk]
 ·rw [List.getElem?_drop] at hr
  have:=hcell (k+j) r hr
  rw [show off+k*2+j*2=off+(k+j)*2 by omega]
  exact this
theorem RdR.reads {w:World} {B:Nat} {A:Option Addr} {l:List R2} (h:RdR w B A l):Reads w B 2 A l.length (cellsR l):=by
 refine ⟨cellsR_len l,fun hn=> ?_⟩
 obtain ⟨b,off,e,hb,hc⟩:=h hn
 refine ⟨_,e,hb,fun j u hj=> ?_⟩
 rw [add_mk]
 have hjl:j<(cellsR l).length:=(List.getElem?_eq_some_iff.1 hj).1
 rw [cellsR_len] at hjl
 obtain ⟨k,hk⟩: ∃ k,k=j/2:=⟨_,rfl⟩
 have hkl:k<l.length:=by omega
 have hr:=hc k _ (List.getElem?_eq_getElem hkl)
 have hx:=cellsR_at (List.getElem?_eq_getElem hkl)
 rcases Nat.mod_two_eq_zero_or_one j with h2|h2
 ·obtain rfl:j=k*2:=by omega
  rw [hx.1] at hj
  injection hj with hj
  subst hj
  exact hr.1
 ·obtain rfl:j=k*2+1:=by omega
  rw [hx.2] at hj
  injection hj with hj
  subst hj
  exact hr.2
def OwnR (w:World) (base:Nat) (v:Value) (l:List R2):Prop:=w.ownsRow base 47 2 v l.length (cellsR l)
theorem OwnR.nil (w:World) (base:Nat):OwnR w base (.slice none 0 0) []:=World.ownsRow_nil _ _ _ _
theorem OwnR.alloc {w:World} {base:Nat} {v:Value} {l:List R2} (h:OwnR w base v l) (o:Obj):OwnR (w.alloc o) base v l:=World.ownsRow.alloc h o
theorem OwnR.below {A B:World} {base:Nat} {v:Value} {l:List R2} (h:OwnR A base v l) (hb:Below A.heap.size A B):OwnR B base v l:=ownsRow_below h hb
theorem OwnR.snoc {w:World} {base:Nat} {v:Value} {l:List R2} {r:R2} (h:w.ownsRow base 47 2 v (l.length+1) (cellsR l++ [.string r.1, .string r.2])):OwnR w base v (l++ [r]):=by
 unfold OwnR
 rw [cellsR_app,List.length_append]
 exact h
theorem OwnR.app {w:World} {base:Nat} {v:Value} {l m:List R2} (h:w.ownsRow base 47 2 v (l.length+m.length) (cellsR l++cellsR m)):OwnR w base v (l++m):=by
 unfold OwnR
 rw [cellsR_app,List.length_append]
 exact h
theorem OwnR.rd {w:World} {base:Nat} {v:Value} {l:List R2} (h:OwnR w base v l):
  ∃ A c,v= .slice A l.length c∧RdR w w.heap.size A l∧l.length≤c∧c≤maxLen:=by
 rcases h.2 with ⟨hv,h0⟩|⟨g,cap,cur,hv,hb,hh,hnc,hcm,hcs,htk⟩
 ·have hz:l= []:=List.eq_nil_of_length_eq_zero h0
  subst hz
  exact ⟨none,0,hv,RdR.none_,Nat.le_refl _,Nat.zero_le _⟩
 ·refine ⟨_,cap,hv,fun _=>⟨g,0,rfl,(Array.getElem?_eq_some_iff.1 hh).1,fun k r hr=> ?_⟩,hnc,hcm⟩
  have hx:=cellsR_at hr
  have hcell:=Go.World.ownsRow.cells h (g:=g) (by rw [hv];rfl)
  have h1:=hcell (k*2) _ hx.1
  have h2:=hcell (k*2+1) _ hx.2
  rw [add_mk] at h1 h2
  exact ⟨h1,by rw [Nat.add_assoc];exact h2⟩
end Go.Proofs.YtgbgngdakkiclaaGreatDoor.Px
namespace Go.Proofs.YtgbgngdakkiclaaGreatDoor.Px
open Go.RowKit
def BoxR (w:World) (g:Nat) (s t:ByteArray):Prop:=w.heap[g]?=some (.cells #[.string s, .string t] 47 (0,0))
section
variable {w w':World} {g:Nat} {s t:ByteArray}
theorem BoxR.new (w:World) (s t:ByteArray):BoxR (w.alloc (.cells #[.string s, .string t] 47)) w.heap.size s t:=heap_alloc_new w _
theorem BoxR.lt (h:BoxR w g s t):g<w.heap.size:=(Array.getElem?_eq_some_iff.1 h).1
theorem BoxR.cell0 (h:BoxR w g s t):w.cell? ⟨g,0,none⟩=some (.string s):=by rw [cell_of_row _ _ _ _ _ _ h];rfl
theorem BoxR.cell1 (h:BoxR w g s t):w.cell? ⟨g,1,none⟩=some (.string t):=by rw [cell_of_row _ _ _ _ _ _ h];rfl
theorem BoxR.below {B:Nat} (h:BoxR w g s t) (hb:Below B w w') (hg:g<B):BoxR w' g s t:=(hb.block g hg).trans h
theorem BoxR.alloc (h:BoxR w g s t) (o:Obj):BoxR (w.alloc o) g s t:=(Below.heap_alloc w o g h.lt).trans h
theorem BoxR.drew (h:BoxR w g s t):BoxR w.drew g s t:=h
theorem BoxR.kept (h:BoxR w g s t) (hk:Lib.OthersKept 5 none w w'):BoxR w' g s t:=
 hk g _ h (by simp) (fun c fz e=>by injection e with _ e;exact absurd e (by decide))
theorem BoxR.grown {base:Nat} {e:TypeId} {size n:Nat} {v:Value} {xs:List Value} (h:BoxR w g s t) (hown:w.ownsRow base e size v n xs) (he:e≠47) (hg:w.grownBy w' v.ownBlock):BoxR w' g s t:=by
 refine (hg.block g h.lt ?_).trans h
 rcases hown.2 with ⟨rfl,_⟩|⟨g',cap,cur,rfl,_,hh,_⟩
 ·simp [Value.ownBlock]
 ·intro hc
  have hc2:g=g':=by simpa [Value.ownBlock] using hc
  subst hc2
  unfold BoxR at h
  rw [h] at hh
  injection hh with hh
  injection hh with _ ht
  exact he ht.symm
end
theorem byteCells_app1 (l:List UInt8) (c:UInt8):Lib.byteCells (l++ [c])=Lib.byteCells l++ [.int .u8 c.toNat]:=by simp [Lib.byteCells]
theorem byteCells_appS (l:List UInt8) (s:ByteArray):Lib.byteCells (l++tl s)=Lib.byteCells l++Lib.strCells s:=by simp [Lib.byteCells,Lib.strCells,tl]
theorem wpList_app1 {W:World} {ops:Array Oper} {rest:List Oper} {o:Oper} {a:Act} {Q:Exit→Act→World→Prop} (hgd:o.guard=none) (s x:Operand)
  (ho:o.op= .call { callee:= .builtin .append,args:= #[s,x],argTypes:= #[22,22] })
  (base:Nat) (v:Value) (l:List UInt8) (c:UInt8) {z:Int} (hz:(c.toNat:Int)=z) (hs:a.eval s=v) (hown:OwnB W base v l) (hbase:base≤W.heap.size)
  (hx:a.eval x= .slice (some ⟨W.heap.size,0,none⟩) 1 1) (hl:l.length≤100000000)
  (h: ∀ v' w' l',Hid (l'=l++ [c])→l'.length≤l.length+1→OwnB w' base v' l'→Below base W w'→(∀ g p q,BoxR W g p q→BoxR w' g p q)→wpList Tryz.prog ops Q rest (a.put o.dst v') w'):
  wpList Tryz.prog ops Q (o::rest) a (W.alloc (.cells #[.int .u8 z] 5)):=by
 subst hz
 obtain ⟨i0,hi,hz0,hz1,hz2⟩:=info_parts infoB
 have hownA:(W.alloc (.cells #[.int .u8 c.toNat] 5)).ownsRow base 5 1 v l.length (Lib.byteCells l):=World.ownsRow.alloc hown _
 refine wpList_append_own _ hgd s x 22 ho base 5 i0 (.int .u8 0) 1 1 Tryz.underlying22 hi hz0 hz1 hz2 rfl (by decide) v l.length (Lib.byteCells l) hs hownA ⟨W.heap.size,0,none⟩ 1 1 [.int .u8 c.toNat] hx rfl ?_ ?_ ?_ ?_ ?_ ?_
 ·intro j u hj
  match j,hj with
  |0,hj=>simp at hj;subst hj;simp [Addr.add]
 ·intro u hu;simp at hu;subst hu;rfl
 ·unfold maxLen;omega
 ·omega
 ·simp;omega
 ·intro v' w' hown' hgrow _
  refine h v' w' _ (Lib.hid rfl) (by simp) ?_ ?_ ?_
  ·unfold OwnB
   rw [byteCells_app1,List.length_append]
   exact hown'
  ·exact ((Below.refl _ W).alloc hbase _).grown hgrow (by simp;omega) (fun k hk=>ownsRow_block hownA k hk)
  ·intro g p q hb
   exact (hb.alloc _).grown hownA (by decide) hgrow
theorem wpList_appS {W:World} {ops:Array Oper} {rest:List Oper} {o:Oper} {a:Act} {Q:Exit→Act→World→Prop} (hgd:o.guard=none) (sl x:Operand)
  (ho:o.op= .call { callee:= .builtin .append,args:= #[sl,x],argTypes:= #[22,9] })
  (base:Nat) (v:Value) (l:List UInt8) (s:ByteArray) (hs:a.eval sl=v) (hown:OwnB W base v l) (hbase:base≤W.heap.size)
  (hx:a.eval x= .string s) (hl:l.length≤100000000) (hsl:s.size≤100000000)
  (h: ∀ v' w' l',Hid (l'=l++tl s)→l'.length≤l.length+s.size→OwnB w' base v' l'→Below base W w'→(∀ g p q,BoxR W g p q→BoxR w' g p q)→wpList Tryz.prog ops Q rest (a.put o.dst v') w'):
  wpList Tryz.prog ops Q (o::rest) a W:=by
 obtain ⟨i0,hi,hz0,hz1,hz2⟩:=info_parts infoB
 refine Lib.wpList_append_own_string _ hgd sl x 22 9 ho base 5 i0 Tryz.underlying22 Tryz.underlying9 hi hz0 hz1 hz2 v l.length (Lib.byteCells l) hs hown s hx (by unfold maxLen;omega) (by omega) hbase ?_
 intro v' w' hown' hgrow _
 refine h v' w' _ (Lib.hid rfl) (by rw [List.length_append,tl_len];exact Nat.le_refl _) ?_ ?_ ?_
 ·unfold OwnB
  rw [byteCells_appS,List.length_append]
  exact hown'
 ·exact (Below.refl _ W).grown hgrow hbase (fun k hk=>ownsRow_block hown k hk)
 ·intro g p q hb
  exact hb.grown hown (by decide) hgrow
theorem wpList_appR {W:World} {ops:Array Oper} {rest:List Oper} {o:Oper} {a:Act} {Q:Exit→Act→World→Prop} (hgd:o.guard=none) (s x:Operand)
  (ho:o.op= .call { callee:= .builtin .append,args:= #[s,x],argTypes:= #[33,33] })
  (base:Nat) (v:Value) (l:List R2) {p q:ByteArray} (r:R2) (hp:r.1=p) (hq:r.2=q) (hs:a.eval s=v) (hown:OwnR W base v l) (hbase:base≤W.heap.size)
  (hx:a.eval x= .slice (some ⟨W.heap.size,0,none⟩) 1 1) (hl:l.length≤100000000)
  (h: ∀ v' w' l',Hid (l'=l++ [r])→l'.length=l.length+1→OwnR w' base v' l'→Below base W w'→W.grownBy w' v.ownBlock→wpList Tryz.prog ops Q rest (a.put o.dst v') w'):
  wpList Tryz.prog ops Q (o::rest) a (W.alloc (.cells #[.string p, .string q] 47)):=by
 subst hp;subst hq
 obtain ⟨i0,hi,hz0,hz1,hz2⟩:=info_parts infoR
 have hownA:(W.alloc (.cells #[.string r.1, .string r.2] 47)).ownsRow base 47 2 v l.length (cellsR l):=World.ownsRow.alloc hown _
 refine wpList_append_own _ hgd s x 33 ho base 47 i0 (.agg #[.string ⟨#[]⟩, .string ⟨#[]⟩]) 2 32 Tryz.underlying33 hi hz0 hz1 hz2 rfl (by decide) v l.length (cellsR l) hs hownA ⟨W.heap.size,0,none⟩ 1 1 [.string r.1, .string r.2] hx rfl ?_ ?_ ?_ ?_ ?_ ?_
 ·intro j u hj
  match j,hj with
  |0,hj=>simp at hj;subst hj;simp [Addr.add]
  |1,hj=>simp at hj;subst hj;simp [Addr.add]
 ·intro u hu;simp at hu;rcases hu with rfl|rfl<;>rfl
 ·unfold maxLen;omega
 ·omega
 ·simp;omega
 ·intro v' w' hown' hgrow _
  refine h v' w' _ (Lib.hid rfl) (by simp) (OwnR.snoc hown') ?_ ?_
  ·exact ((Below.refl _ W).alloc hbase _).grown hgrow (by simp;omega) (fun k hk=>ownsRow_block hownA k hk)
  ·exact (World.grownBy_alloc W _ _).trans hgrow
theorem wpList_appRs {W:World} {ops:Array Oper} {rest:List Oper} {o:Oper} {a:Act} {Q:Exit→Act→World→Prop} (hgd:o.guard=none) (s x:Operand)
  (ho:o.op= .call { callee:= .builtin .append,args:= #[s,x],argTypes:= #[33,33] })
  (base:Nat) (v:Value) (l m:List R2) (hs:a.eval s=v) (hown:OwnR W base v l) (hbase:base≤W.heap.size)
  (A:Option Addr) (c:Nat) (hx:a.eval x= .slice A m.length c) (B:Nat) (hr:RdR W B A m) (hl:l.length+m.length≤100000000)
  (h: ∀ v' w' l',Hid (l'=l++m)→l'.length=l.length+m.length→OwnR w' base v' l'→Below base W w'→W.grownBy w' v.ownBlock→wpList Tryz.prog ops Q rest (a.put o.dst v') w'):
  wpList Tryz.prog ops Q (o::rest) a W:=by
 obtain ⟨i0,hi,hz0,hz1,hz2⟩:=info_parts infoR
 refine wpList_append_any W hgd s x 33 ho base 47 i0 _ 2 32 Tryz.underlying33 hi hz0 hz1 hz2 rfl (by decide) v l.length (cellsR l) hs hown B A m.length c (cellsR m) hx hr.reads ?_ (by unfold maxLen;omega) (by omega) hbase ?_
 ·intro u hu
  unfold cellsR recCells at hu
  rw [List.mem_flatMap] at hu
  obtain ⟨r,_,hu⟩:=hu
  simp at hu
  rcases hu with rfl|rfl<;>rfl
 ·intro v' w' hown' hg hat
  refine h v' w' _ (Lib.hid rfl) (by simp) (OwnR.app hown') ?_ hg
  exact (Below.refl _ W).grown hg hbase (fun g hg'=>ownsRow_block hown g hg')
end Go.Proofs.YtgbgngdakkiclaaGreatDoor.Px
namespace Go.Proofs.YtgbgngdakkiclaaGreatDoor.Px
namespace M
def find (l:List Rc) (k:List UInt8):Option (List UInt8):=l.foldl (fun a r=>if r.1=k then some r.2 else a) none
theorem find_nil (k:List UInt8):find [] k=none:=rfl
theorem foldl_find (l:List Rc) (k:List UInt8) (a:Option (List UInt8)):l.foldl (fun a r=>if r.1=k then some r.2 else a) a=(find l k).or a:=by
 induction l generalizing a with
 |nil=>simp [find]
 |cons r l ih=>
  have e:find (r::l) k=(find l k).or (if r.1=k then some r.2 else none):=by
   unfold find
   rw [List.foldl_cons,ih]
   rfl
  rw [List.foldl_cons,ih,e]
  by_cases h:r.1=k
  ·simp only [h,if_true]
   cases find l k<;>rfl
  ·simp only [h,if_false]
   cases find l k<;>rfl
theorem find_cons (r:Rc) (l:List Rc) (k:List UInt8):find (r::l) k=(find l k).or (if r.1=k then some r.2 else none):=by
 have:=foldl_find l k (if r.1=k then some r.2 else none)
 unfold find at this⊢
 rw [List.foldl_cons]
 exact this
theorem find_app (l m:List Rc) (k:List UInt8):find (l++m) k=(find m k).or (find l k):=by
 unfold find
 rw [List.foldl_append]
 exact foldl_find m k _
theorem find_snoc (l:List Rc) (r:Rc) (k:List UInt8):find (l++ [r]) k=if r.1=k then some r.2 else find l k:=by
 rw [find_app,find_cons,find_nil]
 by_cases h:r.1=k<;>simp [h]
structure Ord (lt:List UInt8→List UInt8→Bool):Prop where
 irr: ∀ a,lt a a=false
 tr: ∀ a b c,lt a b=true→lt b c=true→lt a c=true
 tot: ∀ a b,lt a b=false→lt b a=false→a=b
def Rising (lt:List UInt8→List UInt8→Bool):List Rc→Prop
 | []=>True
 |r::l=>(∀ x∈l,lt r.1 x.1=true)∧Rising lt l
section
variable {lt:List UInt8→List UInt8→Bool} (O:Ord lt)
def put (lt:List UInt8→List UInt8→Bool):List Rc→Rc→List Rc
 | [],r=> [r]
 |x::l,r=>if lt x.1 r.1 then x::put lt l r else if x.1=r.1 then r::l else r::x::l
theorem put_mem {l:List Rc} {r y:Rc} (h:y∈put lt l r):y=r∨y∈l:=by
 induction l with
 |nil=>simp [put] at h;exact .inl h
 |cons x l ih=>
  unfold put at h
  split at h
  ·rcases List.mem_cons.1 h with rfl|h
   ·exact .inr (by simp)
   ·rcases ih h with h|h
    ·exact .inl h
    ·exact .inr (List.mem_cons_of_mem _ h)
  ·split at h
   ·rcases List.mem_cons.1 h with rfl|h
    ·exact .inl rfl
    ·exact .inr (List.mem_cons_of_mem _ h)
   ·rcases List.mem_cons.1 h with rfl|h
    ·exact .inl rfl
    ·exact .inr h
include O in
theorem put_rising {l:List Rc} (r:Rc) (h:Rising lt l):Rising lt (put lt l r):=by
 induction l with
 |nil=>exact ⟨by simp,trivial⟩
 |cons x l ih=>
  unfold put
  split
  ·rename_i h1
   refine ⟨fun y hy=> ?_,ih h.2⟩
   rcases put_mem hy with rfl|hy
   ·exact h1
   ·exact h.1 y hy
  ·rename_i h1
   have h1':lt x.1 r.1=false:=by simpa using h1
   split
   ·rename_i h2
    exact ⟨fun y hy=>by rw [←h2];exact h.1 y hy,h.2⟩
   ·rename_i h2
    have h3:lt r.1 x.1=true:=by
     cases h4:lt r.1 x.1 with
     |true=>rfl
     |false=>exact absurd (O.tot _ _ h1' h4) h2
    refine ⟨fun y hy=> ?_,h⟩
    rcases List.mem_cons.1 hy with rfl|hy
    ·exact h3
    ·exact O.tr _ _ _ h3 (h.1 y hy)
include O in
theorem find_none_of_rising {l:List Rc} {k:List UInt8} (h: ∀ x∈l,lt k x.1=true):find l k=none:=by
 induction l with
 |nil=>rfl
 |cons x l ih=>
  rw [find_cons,ih fun y hy=>h y (List.mem_cons_of_mem _ hy)]
  have:x.1≠k:=by
   rintro e
   have:=h x (by simp)
   rw [e,O.irr] at this
   cases this
  simp [this]
include O in
theorem find_put {l:List Rc} (r:Rc) (h:Rising lt l) (k:List UInt8):find (put lt l r) k=if r.1=k then some r.2 else find l k:=by
 induction l with
 |nil=>simp [put,find]
 |cons x l ih=>
  unfold put
  split
  ·rename_i h1
   rw [find_cons,ih h.2,find_cons]
   by_cases hk:r.1=k
   ·simp [hk]
   ·simp [hk]
  ·rename_i h1
   have h1':lt x.1 r.1=false:=by simpa using h1
   split
   ·rename_i h2
    rw [find_cons,find_cons]
    by_cases hk:r.1=k
    ·have hn:find l k=none:=find_none_of_rising O (fun y hy=>by rw [←hk,←h2];exact h.1 y hy)
     simp [hk,hn]
    ·have:x.1≠k:=by rw [h2];exact hk
     simp [hk,this]
   ·rename_i h2
    have h3:lt r.1 x.1=true:=by
     cases h4:lt r.1 x.1 with
     |true=>rfl
     |false=>exact absurd (O.tot _ _ h1' h4) h2
    rw [find_cons]
    by_cases hk:r.1=k
    ·have hn:find (x::l) k=none:=find_none_of_rising O (fun y hy=>by
      rw [←hk]
      rcases List.mem_cons.1 hy with rfl|hy
      ·exact h3
      ·exact O.tr _ _ _ h3 (h.1 y hy))
     simp [hk,hn]
    ·simp [hk]
def puts (lt:List UInt8→List UInt8→Bool) (l m:List Rc):List Rc:=m.foldl (put lt) l
include O in
theorem puts_rising (m:List Rc): ∀ (l:List Rc),Rising lt l→Rising lt (puts lt l m):=by
 induction m with
 |nil=>intro l h;exact h
 |cons r m ih=>intro l h;exact ih _ (put_rising O r h)
include O in
theorem find_puts (m:List Rc): ∀ (l:List Rc),Rising lt l→ ∀ k,find (puts lt l m) k=(find m k).or (find l k):=by
 induction m with
 |nil=>intro l _ k;simp [puts,find_nil]
 |cons r m ih=>
  intro l h k
  show find (puts lt (put lt l r) m) k=_
  rw [ih _ (put_rising O r h),find_put O r h,find_cons]
  by_cases hk:r.1=k
  ·simp only [hk,if_true];cases find m k<;>rfl
  ·simp only [hk,if_false];cases find m k<;>rfl
theorem rising_filter (p:Rc→Bool) {l:List Rc} (h:Rising lt l):Rising lt (l.filter p):=by
 induction l with
 |nil=>exact h
 |cons r l ih=>
  rw [List.filter_cons]
  split
  ·exact ⟨fun x hx=>h.1 x (List.mem_filter.1 hx).1,ih h.2⟩
  ·exact ih h.2
def hasValue (r:Rc):Bool:= !r.2.isEmpty
def noEmpty (v:List UInt8):Bool:= !v.isEmpty
include O in
theorem find_filter {l:List Rc} (h:Rising lt l) (k:List UInt8):find (l.filter hasValue) k=(find l k).filter noEmpty:=by
 induction l with
 |nil=>rfl
 |cons r l ih=>
  rw [List.filter_cons,find_cons]
  by_cases hk:r.1=k
  ·have hn:find l k=none:=find_none_of_rising O (fun y hy=>by rw [←hk];exact h.1 y hy)
   have hn2:find (l.filter hasValue) k=none:=by rw [ih h.2,hn];rfl
   have hf:Option.filter noEmpty (some r.2)=if hasValue r=true then some r.2 else none:=rfl
   rw [hn,if_pos hk,Option.none_or,hf]
   split
   ·rw [find_cons,hn2,if_pos hk,Option.none_or]
   ·exact hn2
  ·rw [if_neg hk,Option.or_none]
   split
   ·rw [find_cons,ih h.2,if_neg hk,Option.or_none]
   ·exact ih h.2
def merge (lt:List UInt8→List UInt8→Bool) (l over:List Rc):List Rc:=(puts lt (puts lt [] l) over).filter hasValue
include O in
theorem merge_rising (l m:List Rc):Rising lt (merge lt l m):=rising_filter _ (puts_rising O _ _ (puts_rising O _ _ trivial))
include O in
theorem find_merge (l m:List Rc) (k:List UInt8):find (merge lt l m) k=((find m k).or (find l k)).filter noEmpty:=by
 unfold merge
 have h0:Rising lt []:=trivial
 rw [find_filter O (puts_rising O _ _ (puts_rising O _ _ h0)),find_puts O _ _ (puts_rising O _ _ h0),find_puts O _ _ h0,find_nil,Option.or_none]
include O in
theorem find_mem_rising {l:List Rc} (h:Rising lt l) {r:Rc} (hr:r∈l):find l r.1=some r.2:=by
 induction l with
 |nil=>cases hr
 |cons x l ih=>
  rw [find_cons]
  rcases List.mem_cons.1 hr with rfl|hr
  ·rw [find_none_of_rising O h.1];simp
  ·rw [ih h.2 hr];rfl
theorem mem_of_find {l:List Rc} {k v:List UInt8} (h:find l k=some v):(k,v)∈l:=by
 induction l with
 |nil=>cases h
 |cons x l ih=>
  rw [find_cons] at h
  cases hf:find l k with
  |some u=>
   rw [hf] at h
   exact List.mem_cons_of_mem _ (ih (by rw [hf];exact h))
  |none=>
   rw [hf] at h
   by_cases hx:x.1=k
   ·simp only [hx,if_true] at h
    injection h with h
    have:x=(k,v):=by rw [←hx,←h]
    rw [this];simp
   ·simp [hx] at h
include O in
theorem rising_ext: ∀ {l m:List Rc},Rising lt l→Rising lt m→(∀ k,find l k=find m k)→l=m
 | [], [],_,_,_=>rfl
 | [],y::m,_,hm,h=>by
   have h1:=find_mem_rising O hm (r:=y) (by simp)
   rw [←h,find_nil] at h1
   cases h1
 |x::l, [],hl,_,h=>by
  have h1:=find_mem_rising O hl (r:=x) (by simp)
  rw [h,find_nil] at h1
  cases h1
 |x::l,y::m,hl,hm,h=>by
  have hx:=find_mem_rising O hl (r:=x) (by simp)
  have hy:=find_mem_rising O hm (r:=y) (by simp)
  rw [h] at hx
  rw [←h] at hy
  have mx:=mem_of_find hx
  have my:=mem_of_find hy
  have exy:x=y:=by
   rcases List.mem_cons.1 mx with mx|mx
   ·exact mx
   ·rcases List.mem_cons.1 my with my|my
    ·exact my.symm
    ·have a:=hm.1 _ mx
     have b:=hl.1 _ my
     have c:=O.tr _ _ _ a b
     rw [O.irr] at c
     cases c
  subst exy
  congr 1
  refine rising_ext hl.2 hm.2 (fun k=> ?_)
  have hk:=h k
  rw [find_cons,find_cons] at hk
  by_cases e:x.1=k
  ·rw [find_none_of_rising O (fun y hy=>by rw [←e];exact hl.1 y hy),find_none_of_rising O (fun y hy=>by rw [←e];exact hm.1 y hy)]
  ·simpa [e] using hk
theorem puts_app (l a b:List Rc):puts lt l (a++b)=puts lt (puts lt l a) b:=by simp [puts]
theorem merge_app (l m:List Rc):merge lt (l++m) []=merge lt l m:=by
 unfold merge
 rw [puts_app]
 rfl
include O in
include O in
include O in
end
end M
end Go.Proofs.YtgbgngdakkiclaaGreatDoor.Px
namespace Go.Proofs.YtgbgngdakkiclaaGreatDoor.Px
open Go.RowKit Go.Maps
def ltB (x y:List UInt8):Bool:=decide (x<y)
theorem ltB_ord:M.Ord ltB where
 irr a:=by unfold ltB;simp
 tr a b c h1 h2:=by
  unfold ltB at*
  simp only [decide_eq_true_eq] at*
  exact List.lt_trans h1 h2
 tot a b h1 h2:=by
  unfold ltB at*
  simp only [decide_eq_false_iff_not] at*
  exact List.le_antisymm (List.not_lt.1 h2) (List.not_lt.1 h1)
def DF (D:DataW Unit) (p:List R2):Prop:=
 IsMap D∧(∀ k,D.atKey (.string k) (.lit (.string []))= .lit (.string ((M.find (rcs p) k).getD [])))∧ ∀ k,has D (.string k)=(M.find (rcs p) k).isSome
theorem DF.nil:DF (.map []) []:=⟨isMap_empty,fun _=>rfl,fun _=>rfl⟩
theorem DF.put {D:DataW Unit} {p:List R2} (h:DF D p) (r:R2):DF (D.put (.string (tl r.1)) (.lit (.string (tl r.2)))) (p++ [r]):=by
 have e:rcs (p++ [r])=rcs p++ [rc r]:=by simp [rcs]
 refine ⟨?_,fun k=> ?_,fun k=> ?_⟩
 ·obtain ⟨es,rfl⟩:=h.1
  exact ⟨_,rfl⟩
 ·rw [e,M.find_snoc]
  by_cases hk:tl r.1=k
  ·subst hk
   rw [atKey_put_same h.1 (k:= .string (tl r.1)) trivial]
   simp [rc]
  ·rw [atKey_put_other (fun e'=>hk (by injection e' with e';exact e'.symm)),h.2.1]
   simp [rc,hk]
 ·rw [e,M.find_snoc]
  by_cases hk:tl r.1=k
  ·subst hk
   rw [has_put_same h.1 (k:= .string (tl r.1)) trivial]
   simp [rc]
  ·rw [has_put_other (fun e'=>hk (by injection e' with e';exact e'.symm)),h.2.2]
   simp [rc,hk]
section
variable {H:Type} {P:Program} {k:TypeId} {R:Value→Option (DataW H × List MemPlace)} {w:World} {b n:Nat} {D:DataW H}
theorem mem_strKeys (hown:w.ownsMap P k R b n D) (hk:P.underlying k=some .string) (x:List UInt8):x∈strKeys D↔has D (.string x)=true:=by
 obtain ⟨es,rfl,hko⟩:=hown.keysOf
 have hk': ∀ p∈es,∃ x,p.1= .string x:=fun p hp=>by obtain ⟨v,hv⟩:=hko p hp;obtain ⟨x,_,hx,_⟩:=Maps.keyOf_str hk hv;exact ⟨x,hx⟩
 rw [has_eq,List.any_eq_true]
 show x∈es.map (fun p=>Go.strOf p.1)↔_
 rw [List.mem_map]
 constructor
 ·rintro ⟨p,hp',rfl⟩
  obtain ⟨a,ha⟩:=hk' p hp'
  exact ⟨p,hp',by rw [ha];simp [Lit.sameKey,Go.strOf]⟩
 ·rintro ⟨p,hp',hs⟩
  obtain ⟨a,ha⟩:=hk' p hp'
  rw [ha] at hs
  exact ⟨p,hp',by rw [ha];simpa [Lit.sameKey,Go.strOf] using hs⟩
theorem nodup_strKeys (hown:w.ownsMap P k R b n D) (hk:P.underlying k=some .string):(strKeys D).Nodup:=by
 obtain ⟨es,rfl,hko⟩:=hown.keysOf
 obtain ⟨es',hD',hpw,_⟩:=hown.entries (string_keyed hk)
 obtain rfl:es=es':=by simpa using hD'
 have hk': ∀ p∈es,∃ x,p.1= .string x:=fun p hp=>by obtain ⟨v,hv⟩:=hko p hp;obtain ⟨x,_,hx,_⟩:=Maps.keyOf_str hk hv;exact ⟨x,hx⟩
 show (es.map fun p=>Go.strOf p.1).Nodup
 refine List.pairwise_map.2 (hpw.imp_of_mem fun {p q} hp' hq' hne e=>hne ?_)
 obtain ⟨a,ha⟩:=hk' p hp'
 obtain ⟨b,hb⟩:=hk' q hq'
 rw [ha,hb] at e⊢
 exact congrArg _ e
end
theorem sorted_lt {ss:List (List UInt8)} (h:ss.Nodup):(ss.mergeSort leB).Pairwise (fun a b=>ltB a b=true):=by
 have tr: ∀ a b c:List UInt8,leB a b=true→leB b c=true→leB a c=true:=fun a b c h1 h2=>by simp only [leB,decide_eq_true_eq] at*;exact List.le_trans h1 h2
 have to: ∀ a b:List UInt8,(leB a b||leB b a)=true:=fun a b=>by simp only [leB,Bool.or_eq_true,decide_eq_true_eq];exact List.le_total a b
 have h1:=List.pairwise_mergeSort tr to ss
 have h2:(ss.mergeSort leB).Nodup:=(List.mergeSort_perm ss leB).nodup_iff.2 h
 refine (h1.and h2).imp fun {a b} hab=> ?_
 obtain ⟨hle,hne⟩:=hab
 unfold ltB
 simp only [leB,decide_eq_true_eq] at hle⊢
 exact Classical.byContradiction fun hn=>hne (List.le_antisymm hle (List.not_lt.1 hn))
def pick (L:List M.Rc) (k:List UInt8):M.Rc:=(k,(M.find L k).getD [])
theorem rising_keys (L:List M.Rc): ∀ {ks:List (List UInt8)},ks.Pairwise (fun a b=>ltB a b=true)→M.Rising ltB (ks.map (pick L))
 | [],_=>trivial
 |x::ks,h=>by
  obtain ⟨h1,h2⟩:=List.pairwise_cons.1 h
  refine ⟨fun y hy=> ?_,rising_keys L h2⟩
  obtain ⟨z,hz,rfl⟩:=List.mem_map.1 hy
  exact h1 z hz
theorem find_keys (L:List M.Rc) (k:List UInt8): ∀ ks:List (List UInt8),M.find (ks.map (pick L)) k=if k∈ks then some ((M.find L k).getD []) else none
 | []=>rfl
 |x::ks=>by
  rw [List.map_cons,M.find_cons,find_keys L k ks]
  by_cases h1:k∈ks
  ·simp [h1]
  ·by_cases h2:x=k
   ·subst h2;simp [h1,pick]
   ·have h3: ¬ k=x:=fun e=>h2 e.symm
    simp [h1,h2,h3,pick]
theorem merge_keys {L:List M.Rc} {ks:List (List UInt8)} (hp:ks.Pairwise (fun a b=>ltB a b=true)) (hm: ∀ k,k∈ks↔(M.find L k).isSome=true):(ks.map (pick L)).filter M.hasValue=M.merge ltB L []:=by
 refine M.rising_ext ltB_ord (M.rising_filter _ (rising_keys L hp)) (M.merge_rising ltB_ord _ _) fun k=> ?_
 rw [M.find_filter ltB_ord (rising_keys L hp),find_keys,M.find_merge ltB_ord,M.find_nil,Option.none_or]
 congr 1
 have:=hm k
 cases hf:M.find L k with
 |none=>rw [hf] at this;simp [this]
 |some v=>rw [hf] at this;simp [this]
theorem plainString_inv {H:Type} {P:Program} {e:TypeId} (he:P.underlying e=some .string) {v:Value} {z:DataW H × List MemPlace} (h:plainElem P e v=some z): ∃ s:ByteArray,v= .string s∧z.1= .lit (.string (tl s))∧s.size≤maxLen:=by
 cases v<;>simp [plainElem,he] at h
 rename_i s
 obtain ⟨hs,rfl⟩:=h
 exact ⟨s,rfl,rfl,hs⟩
theorem size_le {H:Type} {P:Program} {k:TypeId} {R:Value→Option (DataW H × List MemPlace)} {w:World} {b n:Nat} {D:DataW H} (h:w.ownsMap P k R b n D):Maps.size D≤n:=by
 obtain ⟨es,clock,_,_,hs,rfl⟩:=h
 show ((es.toList.map _).foldr DataW.insert []).length≤n
 rw [length_sorted]
 simpa using hs
theorem ownsMap_below {H:Type} {P:Program} {k:TypeId} {R:Value→Option (DataW H × List MemPlace)} {w w':World} {b n B:Nat} {D:DataW H} (h:w.ownsMap P k R b n D) (hb:Below B w w') (hB:b<B):w'.ownsMap P k R b n D:=by
 obtain ⟨es,clock,h1,F,hs,hD⟩:=h
 exact ⟨es,clock,(hb.block b hB).trans h1,F,hs,hD⟩
def RdS (w:World) (B:Nat) (A:Option Addr) (ks:List (List UInt8)):Prop:=
 0<ks.length→ ∃ b off,A=some ⟨b,off,none⟩∧b<B∧ ∀ k x,ks[k]?=some x→w.cell? ⟨b,off+k,none⟩=some (.string ⟨x.toArray⟩)
theorem RdS.below {w w':World} {B:Nat} {A:Option Addr} {ks:List (List UInt8)} (h:RdS w B A ks) (hb:Below B w w'):RdS w' B A ks:=fun hn=>by
 obtain ⟨b,off,e,hbb,hc⟩:=h hn
 exact ⟨b,off,e,hbb,fun k x hk=>(hb.cell (p:=⟨b,off+k,none⟩) hbb).trans (hc k x hk)⟩
theorem RdS.at_ {w:World} {B:Nat} {A:Option Addr} {ks:List (List UInt8)} (h:RdS w B A ks) {k:Nat} (hk:k<ks.length): ∃ b off,A=some ⟨b,off,none⟩∧b<B∧w.cell? ⟨b,off+k,none⟩=some (.string ⟨ks[k].toArray⟩):=by
 obtain ⟨b,off,e,hbb,hc⟩:=h (by omega)
 exact ⟨b,off,e,hbb,hc k _ (List.getElem?_eq_getElem hk)⟩
theorem row_rd {w:World} {base n:Nat} {t:TypeId} {v:Value} {ks:List (List UInt8)} (h:w.ownsRow base t 1 v n (ks.map Go.Proofs.encStr)): ∃ A c,v= .slice A n c∧RdS w w.heap.size A ks∧ks.length=n∧n≤c∧c≤maxLen:=by
 have hl:ks.length=n:=by have:=h.1;simpa using this
 rcases h.2 with ⟨hv,h0⟩|⟨g,cap,cur,hv,hb,hh,hnc,hcm,hcs,htk⟩
 ·subst h0
  exact ⟨none,0,hv,fun h=>absurd h (by omega),hl,Nat.le_refl _,Nat.zero_le _⟩
 ·refine ⟨_,cap,hv,fun _=>⟨g,0,rfl,(Array.getElem?_eq_some_iff.1 hh).1,fun k x hk=> ?_⟩,hl,hnc,hcm⟩
  have hcell:=Go.World.ownsRow.cells h (g:=g) (by rw [hv];rfl)
  have h1:=hcell k (Go.Proofs.encStr x) (by rw [List.getElem?_map,hk];rfl)
  rw [add_mk] at h1
  exact h1
end Go.Proofs.YtgbgngdakkiclaaGreatDoor.Px
