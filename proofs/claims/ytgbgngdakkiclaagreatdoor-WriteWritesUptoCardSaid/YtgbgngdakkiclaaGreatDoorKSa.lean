import Derived.Below
import Derived.Laws.OwnMore
import Derived.Deep.AppendLies
import Derived.Deep.Draws
import Derived.Lib.Hide
import Derived.Lib.AtoiAll
import Derived.Lib.ItoaNum
import Derived.Lib.ItoaMem
import Derived.Lib.Bytealg
import Derived.Lib.Strings
import Derived.Test.YtgbgngdakkiclaaGreatDoorProg
import Derived.Laws.BytesString
import Derived.Laws.IdiomStrings
import Derived.Laws.CopyOwn
import Derived.Laws.MakeOwn
import Derived.Deep.OwnRows
import Derived.Deep.WholeRow
import Derived.Deep.RegionLawGrows
import Derived.Lib.SliceRun
import Derived.Lib.SlBytesConst
import Derived.Lib.BufferWrite
import Derived.Deep.CutRange
import Derived.LoopTactic
import Derived.LoopN
import Derived.IntWalk
import Derived.Maps.AppendAt
import Derived.RegionTactic
import Derived.OwnWalk
import Derived.WalkKit
import Derived.ProofKit
set_option linter.unusedVariables false
set_option linter.unusedSimpArgs false
set_option linter.unusedVariables false
set_option linter.unusedSimpArgs false
namespace Go.Proofs.YtgbgngdakkiclaaGreatDoor.Sp
open Go.RowKit
def cutA (A:Option Addr) (c k:Nat):Option Addr:=if c=k then A else A.map (·.add k)
def Rd (w:World) (B:Nat) (A:Option Addr) (n:Nat) (zs:List Int):Prop:=
 zs.length=n∧(∀ z∈zs,0≤z∧z≤255)∧
  (0<n→ ∃ b off,A=some ⟨b,off,none⟩∧b<B∧ ∀ j z,zs[j]?=some z→w.cell? ⟨b,off+j,none⟩=some (.int .u8 z))
section
variable {w w':World} {B B' n:Nat} {A:Option Addr} {zs:List Int}
theorem Rd.len (h:Rd w B A n zs):zs.length=n:=h.1
theorem Rd.bd (h:Rd w B A n zs): ∀ z∈zs,0≤z∧z≤255:=h.2.1
theorem Rd.none_:Rd w B A 0 []:=⟨rfl,by simp,fun h=>absurd h (by omega)⟩
theorem Rd.at_ {k:Nat} (h:Rd w B A n zs) (hk:k<n):
  ∃ b off z,A=some ⟨b,off,none⟩∧b<B∧0≤z∧z≤255∧zs[k]?=some z∧w.cell? ⟨b,off+k,none⟩=some (.int .u8 z):=by
 obtain ⟨b,off,e,hb,hc⟩:=h.2.2 (by omega)
 have hl:k<zs.length:=by have:=h.1;omega
 have hz:=h.2.1 zs[k] (List.getElem_mem hl)
 exact ⟨b,off,zs[k],e,hb,hz.1,hz.2,List.getElem?_eq_getElem hl,hc k _ (List.getElem?_eq_getElem hl)⟩
theorem Rd.keep (h:Rd w B A n zs) (hk: ∀ p:Addr,p.block<B→w'.cell? p=w.cell? p):Rd w' B A n zs:=
 ⟨h.1,h.2.1,fun hn=>by
  obtain ⟨b,off,e,hb,hc⟩:=h.2.2 hn
  exact ⟨b,off,e,hb,fun j z hz=>(hk _ hb).trans (hc j z hz)⟩⟩
theorem Rd.more (h:Rd w B A n zs) (hB:B≤B'):Rd w B' A n zs:=
 ⟨h.1,h.2.1,fun hn=>by
  obtain ⟨b,off,e,hb,hc⟩:=h.2.2 hn
  exact ⟨b,off,e,by omega,hc⟩⟩
theorem Rd.below (h:Rd w B A n zs) (hb:Below B w w'):Rd w' B A n zs:=h.keep fun _ hp=>hb.cell hp
theorem Rd.drew (h:Rd w B A n zs):Rd w.drew B A n zs:=h
theorem Rd.drewN (h:Rd w B A n zs) (k:Nat):Rd (w.drewN k) B A n zs:=h
theorem Rd.alloc (h:Rd w B A n zs) (hB:B≤w.heap.size) (o:Obj):Rd (w.alloc o) B A n zs:=h.keep fun p hp=>World.cell?_alloc_lt w o p (by omega)
theorem Rd.setCell (h:Rd w B A n zs) {p:Addr} (hB:B≤p.block) (u:Value):Rd (w.setCell p u) B A n zs:=
 h.keep fun q hq=>World.cell?_setCell_other w p q u (fun e=>by subst e;omega)
theorem Rd.cut {c k:Nat} (h:Rd w B A n zs) (hk:k≤n) (hc:n≤c):Rd w B (cutA A c k) (n - k) (zs.drop k):=by
 unfold cutA
 refine ⟨by rw [List.length_drop,h.1],fun z hz=>h.2.1 z (List.mem_of_mem_drop hz),fun hn=> ?_⟩
 obtain ⟨b,off,rfl,hb,hcell⟩:=h.2.2 (by omega)
 rw [if_neg (by omega)]
 refine ⟨b,off+k, ?_,hb,fun j z hz=> ?_⟩
 ·simp [Addr.add]
 ·rw [Nat.add_assoc]
  exact hcell _ z (by rw [←hz,List.getElem?_drop])
theorem Rd.of_own {base:Nat} {e:TypeId} {c:Nat} (h:w.ownsRow base e 1 (.slice A n c) n (zs.map (Value.int .u8))) (hz: ∀ z∈zs,0≤z∧z≤255):Rd w w.heap.size A n zs:=by
 refine ⟨by have:=h.1;simpa using this,hz,fun hn=> ?_⟩
 obtain ⟨g,cap,hv,_,hlt⟩:=h.form hn
 have hA:A=some ⟨g,0,none⟩:=by injection hv
 subst hA
 refine ⟨g,0,rfl,hlt,fun j z hj=> ?_⟩
 have:=h.cells (g:=g) rfl j (.int .u8 z) (by simp [List.getElem?_map,hj])
 unfold Addr.add at this
 split at this
 ·rename_i h0
  subst h0
  exact this
 ·simpa using this
end
end Go.Proofs.YtgbgngdakkiclaaGreatDoor.Sp
namespace Go.Proofs.YtgbgngdakkiclaaGreatDoor.Sp
namespace M
abbrev Pt:=Int × Int
def walk (real:Int):Int→Int→List Pt→Option (Int × Int)
 |e,s, []=>some (e,s)
 |e,s,p::l=>if p.1<e∨p.2<0∨real - p.1<p.2 then none else walk real (p.1+p.2) (s+p.2) l
def checkW (real stored:Int):Option (Int × Int)→Int
 |none=>11
 |some (_,s)=>if s=stored then 0 else 11
def check (l:List Pt) (stored real:Int):Int:=
 if 1000<l.length then 3 else if real<0∨1099511627776<real then 11 else checkW real stored (walk real 0 0 l)
def i64s (l:List Pt):Prop:= ∀ p∈l,(-9223372036854775808≤p.1∧p.1≤9223372036854775807)∧(-9223372036854775808≤p.2∧p.2≤9223372036854775807)
theorem digit_nat {d:Nat} (h:d<10):(UInt8.ofNat (48+d)).toNat=48+d:=by
 rw [UInt8.toNat_ofNat'];omega
theorem dec_bytes (n:Nat): ∀ c∈Lib.decDigits n,48≤c.toNat∧c.toNat≤57:=by
 induction n using Nat.strongRecOn with
 |ind n ih=>
  intro c hc
  by_cases h:n<10
  ·rw [Lib.decDigits_one h] at hc
   obtain rfl:=List.mem_singleton.1 hc
   rw [digit_nat h];omega
  ·rw [Lib.decDigits,dif_neg h,List.mem_append] at hc
   rcases hc with hc|hc
   ·exact ih (n/10) (by omega) c hc
   ·obtain rfl:=List.mem_singleton.1 hc
    rw [digit_nat (by omega)];omega
def numE (t:List UInt8):Lib.NumEnd Int→Option Int
 | .ok v=>if t.length≤13∧0≤v∧Lib.itoa v=t then some v else none
 |_=>none
def numOf (t:List UInt8):Option Int:=numE t (Lib.atoiAll t)
theorem nDigits_le13 {n:Nat} (h:n<10^13):Lib.nDigits n≤13:=by
 have key: ∀ (k n:Nat),n<10^k→1≤k→Lib.nDigits n≤k:=by
  intro k
  induction k with
  |zero=>intro n _ h;omega
  |succ k ih=>
   intro n h _
   by_cases h1:n<10
   ·rw [Lib.nDigits_small h1];omega
   ·rw [Lib.nDigits,dif_neg h1]
    have hk:1≤k:=by
     rcases Nat.eq_zero_or_pos k with h0|h0
     ·subst h0;simp at h;omega
     ·exact h0
    have:=ih (n/10) (by rw [Nat.pow_succ] at h;omega) hk
    omega
 exact key 13 n h (by decide)
def cuts:List UInt8→List (List UInt8)
 | []=> [[]]
 |c::l=>if c=44 then []::cuts l else match cuts l with
  | []=> [[c]]
  |p::ps=>(c::p)::ps
def nums:List (List UInt8)→Option (List Int)
 | []=>some []
 |t::ts=>match numOf t with
  |none=>none
  |some v=>(nums ts).map (v:: ·)
def pairs:List Int→List Pt
 |a::b::l=>(a,b)::pairs l
 |_=> []
def parseN:Option (List Int)→Option (List Pt)
 |none=>none
 |some ns=>if ns.length%2=1∨2000<ns.length then none else some (pairs ns)
def parse (s:List UInt8):Option (List Pt):=if s= [] then some [] else parseN (nums (cuts s))
def clip13 (n:Int):Int:=min (max n 0) 9999999999999
def numT (n:Int):List UInt8:=Lib.itoa (clip13 n)
def ptT (p:Pt):List UInt8:=numT p.1++44::numT p.2
def print:List Pt→List UInt8
 | []=> []
 | [p]=>ptT p
 |p::q::l=>ptT p++44::print (q::l)
theorem print_snoc: ∀ (l:List Pt) (p:Pt),print (l++ [p])=if l= [] then ptT p else print l++44::ptT p
 | [],p=>by simp [print]
 | [q],p=>by simp [print]
 |q::r::l,p=>by
  have ih:=print_snoc (r::l) p
  rw [if_neg (by simp)] at ih
  rw [if_neg (by simp),List.cons_append]
  show ptT q++44::print ((r::l)++ [p])=(ptT q++44::print (r::l))++44::ptT p
  rw [ih];simp
theorem numT_plain (n:Int): ∀ c∈numT n,c≠44:=by
 intro c hc
 unfold numT at hc
 obtain ⟨k,hk⟩: ∃ k:Nat,clip13 n=k:=⟨(clip13 n).toNat,by unfold clip13;omega⟩
 rw [hk,Lib.itoa_nonneg] at hc
 have:=dec_bytes k c hc
 intro e;subst e
 simp at this
theorem numT_len (n:Int):(numT n).length≤13:=by
 unfold numT
 obtain ⟨k,hk⟩: ∃ k:Nat,clip13 n=k:=⟨(clip13 n).toNat,by unfold clip13;omega⟩
 rw [hk,Lib.itoa_nonneg,Lib.decDigits_length]
 exact nDigits_le13 (by unfold clip13 at hk;omega)
theorem print_len: ∀ (l:List Pt),(print l).length≤28*l.length
 | []=>by simp [print]
 | [p]=>by
   have h1:=numT_len p.1;have h2:=numT_len p.2
   simp [print,ptT];omega
 |p::q::l=>by
  have ih:=print_len (q::l)
  have h1:=numT_len p.1;have h2:=numT_len p.2
  simp only [print,ptT,List.length_append,List.length_cons] at ih⊢;omega
def small (l:List Pt):Prop:= ∀ p∈l,(0≤p.1∧p.1≤9999999999999)∧(0≤p.2∧p.2≤9999999999999)
theorem print_ne {l:List Pt} (h:l≠ []):print l≠ []:=by
 match l,h with
 | [p],_=>simp [print,ptT]
 |p::q::l,_=>simp [print,ptT]
end M
end Go.Proofs.YtgbgngdakkiclaaGreatDoor.Sp
namespace Go.Proofs.YtgbgngdakkiclaaGreatDoor.Sp
namespace M
end M
end Go.Proofs.YtgbgngdakkiclaaGreatDoor.Sp
namespace Go.Proofs.YtgbgngdakkiclaaGreatDoor.Sp
open Go.RowKit Go.Lib
theorem below_drewN' {B:Nat} {a w:World} (h:Below B a w) (n:Nat):Below B a (w.drewN n):=⟨h.os,h.tape,h.output,h.size,h.block⟩
theorem below_drew' {B:Nat} {a w:World} (h:Below B a w):Below B a w.drew:=⟨h.os,h.tape,h.output,h.size,h.block⟩
theorem below_grown {B:Nat} {w0 w w':World} {row:Option Nat} (h:Below B w0 w) (hg:w.grownBy w' row) (hB:B≤w.heap.size) (hr: ∀ g,row=some g→B≤g):Below B w0 w':=
 h.trans ⟨hg.os,hg.tape,hg.output,hg.size,fun k hk=>hg.block k (by omega) (fun e=>by have:=hr k e.symm;omega)⟩
theorem block_of_add (a:Addr) (n:Nat):(a.add n).block=a.block:=by unfold Addr.add;split<;>rfl
theorem add_of_add (a:Addr) (i j:Nat):(a.add i).add j=a.add (i+j):=by
 unfold Addr.add
 by_cases hi:i=0<;>by_cases hj:j=0<;>simp [hi,hj,Nat.add_assoc]
def Reads (w:World) (B size:Nat) (A:Option Addr) (n:Nat) (xs:List Value):Prop:=
 xs.length=n*size∧(0<n→ ∃ ad,A=some ad∧ad.block<B∧ ∀ j u,xs[j]?=some u→w.cell? (ad.add j)=some u)
section
variable {w w':World} {B B' size n:Nat} {A:Option Addr} {xs:List Value}
theorem Reads.none_:Reads w B size A 0 []:=⟨by simp,fun h=>absurd h (by omega)⟩
theorem Reads.at_ {k:Nat} (h:Reads w B 1 A n xs) (hk:k<n): ∃ ad u,A=some ad∧ad.block<B∧xs[k]?=some u∧w.cell? (ad.add k)=some u:=by
 obtain ⟨ad,e,hb,hc⟩:=h.2 (by omega)
 have hl:k<xs.length:=by have:=h.1;omega
 exact ⟨ad,xs[k],e,hb,List.getElem?_eq_getElem hl,hc k _ (List.getElem?_eq_getElem hl)⟩
theorem Reads.keep (h:Reads w B size A n xs) (hk: ∀ p:Addr,p.block<B→w'.cell? p=w.cell? p):Reads w' B size A n xs:=
 ⟨h.1,fun hn=>by
  obtain ⟨ad,e,hb,hc⟩:=h.2 hn
  exact ⟨ad,e,hb,fun j u hu=>(hk _ (by rw [block_of_add];exact hb)).trans (hc j u hu)⟩⟩
theorem Reads.more (h:Reads w B size A n xs) (hB:B≤B'):Reads w B' size A n xs:=
 ⟨h.1,fun hn=>by
  obtain ⟨ad,e,hb,hc⟩:=h.2 hn
  exact ⟨ad,e,by omega,hc⟩⟩
theorem Reads.below (h:Reads w B size A n xs) (hb:Below B w w'):Reads w' B size A n xs:=h.keep fun _ hp=>hb.cell hp
theorem Reads.drew (h:Reads w B size A n xs):Reads w.drew B size A n xs:=h
theorem Reads.drewN (h:Reads w B size A n xs) (k:Nat):Reads (w.drewN k) B size A n xs:=h
theorem Reads.alloc (h:Reads w B size A n xs) (hB:B≤w.heap.size) (o:Obj):Reads (w.alloc o) B size A n xs:=h.keep fun p hp=>World.cell?_alloc_lt w o p (by omega)
theorem Reads.setCell (h:Reads w B size A n xs) {p:Addr} (hB:B≤p.block) (u:Value):Reads (w.setCell p u) B size A n xs:=
 h.keep fun q hq=>World.cell?_setCell_other w p q u (fun e=>by subst e;omega)
theorem Reads.grown (h:Reads w B size A n xs) {row:Option Nat} (hg:w.grownBy w' row) (hB:B≤w.heap.size) (hr: ∀ g,row=some g→B≤g):Reads w' B size A n xs:=
 h.keep fun p hp=>World.cell?_of_block (hg.block p.block (by omega) (fun e=>by have:=hr _ e.symm;omega))
theorem Reads.cut (h:Reads w B size A n xs) {k cap:Nat} (hk:k≤n) (hc:n≤cap):
  Reads w B size (if cap=k then A else A.map (·.add (k*size))) (n - k) (xs.drop (k*size)):=by
 refine ⟨by rw [List.length_drop,h.1,Nat.sub_mul],fun hn=> ?_⟩
 obtain ⟨ad,rfl,hb,hcell⟩:=h.2 (by omega)
 rw [if_neg (by omega)]
 refine ⟨ad.add (k*size),rfl,by rw [block_of_add];exact hb,fun j u hu=> ?_⟩
 rw [add_of_add]
 exact hcell _ u (by rw [←hu,List.getElem?_drop])
theorem Reads.of_own {base:Nat} {e:TypeId} {c:Nat} (h:w.ownsRow base e size (.slice A n c) n xs):Reads w w.heap.size size A n xs:=by
 refine ⟨h.1,fun hn=> ?_⟩
 obtain ⟨g,cap,hv,_,hlt⟩:=h.form hn
 have hA:A=some ⟨g,0,none⟩:=by injection hv
 subst hA
 exact ⟨_,rfl,hlt,h.cells (g:=g) rfl⟩
end
section
variable {P:Program} (w:World)
theorem run_append_of_nil (base:Nat) (t ty e:TypeId) (i:TypeInfo) (size:Nat) (ht:P.underlying t=some (.slice e)) (hi:P.info? e=some i)
  (v:Value) (n:Nat) (xs:List Value) (hown:w.ownsRow base e size v n xs) (c:Nat):(Builtin.append_ #[t,t] ty #[v, .slice none 0 c]).run P w= .ok v w:=by
 rcases hown.2 with ⟨rfl,rfl⟩|⟨g,cap,cur,rfl,_,_,hnc,_⟩
 ·simp [Builtin.append_,run_underlying ht,sizeOf,typeInfo,hi,Builtin.lenOf,Builtin.firstCells]
 ·simp [Builtin.append_,run_underlying ht,sizeOf,typeInfo,hi,Builtin.lenOf,Builtin.firstCells,hnc,storeCells]
theorem run_append_any (base:Nat) (t ty e:TypeId) (i:TypeInfo) (z:Value) (size bytes:Nat) (ht:P.underlying t=some (.slice e)) (hi:P.info? e=some i) (hz:i.zero=some z)
  (hsize:i.size=size) (hby:i.bytes=bytes) (hzs:z.cells.size=size) (hsz:0<size)
  (v:Value) (n:Nat) (xs:List Value) (hown:w.ownsRow base e size v n xs)
  (B:Nat) (A:Option Addr) (m c:Nat) (news:List Value) (hr:Reads w B size A m news) (h1: ∀ u∈news,u.oneCell'=true)
  (h63:n+m≤maxLen) (hbytes:(n+m)*bytes≤140737488355328) (hbase:base≤w.heap.size):
  ∃ v' w',(Builtin.append_ #[t,t] ty #[v, .slice A m c]).run P w= .ok v' w'∧w'.ownsRow base e size v' (n+m) (xs++news)∧w.grownBy w' v.ownBlock∧
    (v'.ownBlock=v.ownBlock∨v'.ownBlock=some w.heap.size):=by
 rcases A with _|ad
 ·have hm:m=0:=by
   rcases Nat.eq_zero_or_pos m with h0|h0
   ·exact h0
   ·obtain ⟨ad,h,_⟩:=hr.2 h0
    cases h
  subst hm
  have hn:news= []:=List.eq_nil_of_length_eq_zero (by simpa using hr.1)
  subst hn
  exact ⟨v,w,run_append_of_nil w base t ty e i size ht hi v n xs hown c,by simpa using hown,World.grownBy.refl w _, .inl rfl⟩
 ·have hcells: ∀ j u,news[j]?=some u→w.cell? (ad.add j)=some u:=by
   intro j u hu
   rcases Nat.eq_zero_or_pos m with h0|h0
   ·subst h0
    have hn:news= []:=List.eq_nil_of_length_eq_zero (by simpa using hr.1)
    subst hn
    simp at hu
   ·obtain ⟨ad',h,_,hc⟩:=hr.2 h0
    injection h with h
    subst h
    exact hc j u hu
  obtain ⟨v',w',hrun,h2,h3,_,h5⟩:=run_append_own_at (P:=P) w base t ty e i z size bytes ht hi hz hsize hby hzs hsz v n xs hown ad m c news hr.1 hcells h1 h63 hbytes hbase
  exact ⟨v',w',hrun,h2,h3,h5⟩
theorem wp_append_any {o:Oper} {a:Act} {K:Act→World→Prop} {Q:Exit→Act→World→Prop} (s x:Operand) (t:TypeId)
  (ho:o.op= .call { callee:= .builtin .append,args:= #[s,x],argTypes:= #[t,t] })
  (base:Nat) (e:TypeId) (i:TypeInfo) (z:Value) (size bytes:Nat) (ht:P.underlying t=some (.slice e)) (hi:P.info? e=some i) (hz:i.zero=some z)
  (hsize:i.size=size) (hby:i.bytes=bytes) (hzs:z.cells.size=size) (hsz:0<size)
  (v:Value) (n:Nat) (xs:List Value) (hs:a.eval s=v) (hown:w.ownsRow base e size v n xs)
  (B:Nat) (A:Option Addr) (m c:Nat) (news:List Value) (hx:a.eval x= .slice A m c) (hr:Reads w B size A m news) (h1: ∀ u∈news,u.oneCell'=true)
  (h63:n+m≤maxLen) (hbytes:(n+m)*bytes≤140737488355328) (hbase:base≤w.heap.size)
  (h: ∀ v' w',w'.ownsRow base e size v' (n+m) (xs++news)→w.grownBy w' v.ownBlock→(v'.ownBlock=v.ownBlock∨v'.ownBlock=some w.heap.size)→K (a.put o.dst v') w'):o.wp P a w K Q:=by
 obtain ⟨v',w',hrun,h2,h3,h4⟩:=run_append_any (P:=P) w base t o.type e i z size bytes ht hi hz hsize hby hzs hsz v n xs hown B A m c news hr h1 h63 hbytes hbase
 unfold Oper.wp execOp
 simp only [ho,resolve,invoke,builtin,Sem.run_bind,Sem.run_pure,Result.andThen_ok,List.map_toArray,List.map_cons,List.map_nil,hs,hx,hrun]
 exact h v' w' h2 h3 h4
theorem wpList_append_any {ops:Array Oper} {rest:List Oper} {o:Oper} {a:Act} {Q:Exit→Act→World→Prop} (hgd:o.guard=none) (s x:Operand) (t:TypeId)
  (ho:o.op= .call { callee:= .builtin .append,args:= #[s,x],argTypes:= #[t,t] })
  (base:Nat) (e:TypeId) (i:TypeInfo) (z:Value) (size bytes:Nat) (ht:P.underlying t=some (.slice e)) (hi:P.info? e=some i) (hz:i.zero=some z)
  (hsize:i.size=size) (hby:i.bytes=bytes) (hzs:z.cells.size=size) (hsz:0<size)
  (v:Value) (n:Nat) (xs:List Value) (hs:a.eval s=v) (hown:w.ownsRow base e size v n xs)
  (B:Nat) (A:Option Addr) (m c:Nat) (news:List Value) (hx:a.eval x= .slice A m c) (hr:Reads w B size A m news) (h1: ∀ u∈news,u.oneCell'=true)
  (h63:n+m≤maxLen) (hbytes:(n+m)*bytes≤140737488355328) (hbase:base≤w.heap.size)
  (h: ∀ v' w',w'.ownsRow base e size v' (n+m) (xs++news)→w.grownBy w' v.ownBlock→(v'.ownBlock=v.ownBlock∨v'.ownBlock=some w.heap.size)→wpList P ops Q rest (a.put o.dst v') w'):wpList P ops Q (o::rest) a w:=
 wpList_plain hgd fun _ hK=>wp_append_any w s x t ho base e i z size bytes ht hi hz hsize hby hzs hsz v n xs hs hown B A m c news hx hr h1 h63 hbytes hbase fun v' w' h2 h3 h4=>hK _ _ (h v' w' h2 h3 h4)
end
theorem Rd.reads {w:World} {B n:Nat} {A:Option Addr} {zs:List Int} (h:Rd w B A n zs):Reads w B 1 A n (zs.map (Value.int .u8)):=by
 refine ⟨by rw [List.length_map,h.len,Nat.mul_one],fun hn=> ?_⟩
 obtain ⟨b,off,e,hb,hc⟩:=h.2.2 hn
 refine ⟨_,e,hb,fun j u hj=> ?_⟩
 rw [List.getElem?_map] at hj
 cases hz:zs[j]? with
 |none=>rw [hz] at hj;cases hj
 |some z=>
  rw [hz] at hj
  injection hj with hj
  subst hj
  have hcj:=hc j z hz
  unfold Addr.add
  split
  ·rename_i h0
   subst h0
   exact hcj
  ·exact hcj
def strOf (zs:List Int):ByteArray:=zs.foldl (fun r n=>r.push (UInt8.ofNat n.toNat)) ByteArray.empty
theorem run_str {w:World} {B n:Nat} {A:Option Addr} {zs:List Int} (h:Rd w B A n zs) (c:Nat):
  (convert 22 9 (.slice A n c)).run Tryz.prog w= .ok (.string (strOf zs)) w:=by
 rw [run_convert_bytes_string w 22 9 5 A n c Tryz.underlying22 Tryz.underlying5 Tryz.underlying9]
 have hlen:=h.len
 cases A with
 |none=>
  have h0:n=0:=by
   rcases Nat.eq_zero_or_pos n with h0|h0
   ·exact h0
   ·obtain ⟨b,off,e,_⟩:=h.2.2 h0
    cases e
  subst h0
  have hz:zs= []:=List.eq_nil_of_length_eq_zero hlen
  subst hz
  simp [Conv.bytesToString,strOf]
 |some a=>
  subst hlen
  have hl:=run_loadCells_list (P:=Tryz.prog) w a (zs.map (Value.int .u8)) (fun j v hj=>by
   rw [List.getElem?_map] at hj
   cases hz:zs[j]? with
   |none=>rw [hz] at hj;cases hj
   |some z=>
    rw [hz] at hj
    injection hj with hj
    subst hj
    have hlt:j<zs.length:=(List.getElem?_eq_some_iff.1 hz).1
    obtain ⟨b,off,e,_,hc⟩:=h.2.2 (by omega)
    injection e with e
    subst e
    have hcj:=hc j z hz
    unfold Addr.add
    split
    ·rename_i h0
     subst h0
     exact hcj
    ·exact hcj)
  simp only [List.length_map] at hl
  exact run_bytesToString w a zs.length c zs hl
def bcells (zs:List Int):List Value:=zs.map (Value.int .u8)
theorem bcells_len (zs:List Int):(bcells zs).length=zs.length:=by simp [bcells]
theorem bcells_app (a b:List Int):bcells (a++b)=bcells a++bcells b:=by simp [bcells]
theorem bcells_one (zs:List Int): ∀ v∈bcells zs,v.oneCell'=true:=by
 intro v hv
 obtain ⟨z,_,rfl⟩:=List.mem_map.1 hv
 rfl
def u8s (zs:List Int):Prop:= ∀ z∈zs,0≤z∧z≤255
theorem own_room {w:World} {base n:Nat} {e:TypeId} {v:Value} {xs:List Value} (h:w.ownsRow base e 1 v n xs): ∃ A c,v= .slice A n c∧n≤c∧c≤maxLen:=by
 rcases h.2 with ⟨hv,h0⟩|⟨g,cap,cur,hv,_,_,hnc,hcm,_⟩
 ·subst h0;exact ⟨none,0,hv,Nat.le_refl _,Nat.zero_le _⟩
 ·exact ⟨_,cap,hv,hnc,hcm⟩
def Blk (w:World) (g:Nat) (t:TypeId) (vs:List Value):Prop:=w.heap[g]?=some (.cells vs.toArray t (0,0))
section
variable {w w':World} {g:Nat} {t:TypeId} {vs:List Value}
theorem Blk.new (w:World) (t:TypeId) (vs:List Value):Blk (w.alloc (.cells vs.toArray t)) w.heap.size t vs:=heap_alloc_new w _
theorem Blk.lt (h:Blk w g t vs):g<w.heap.size:=(Array.getElem?_eq_some_iff.1 h).1
theorem Blk.cell (h:Blk w g t vs) {i:Nat} {v:Value} (hv:vs[i]?=some v):w.cell? ⟨g,i,none⟩=some v:=by
 rw [cell_of_row w g i _ t (0,0) h]
 simpa using hv
theorem Blk.set (h:Blk w g t vs) (i:Nat) (v:Value):Blk (w.setCell ⟨g,i,none⟩ v) g t (vs.set i v):=by
 unfold Blk
 rw [heap_setCell_same w g i _ t _ h]
 simp
theorem Blk.of_block (h:Blk w g t vs) (e:w'.heap[g]?=w.heap[g]?):Blk w' g t vs:=e.trans h
theorem Blk.alloc (h:Blk w g t vs) (o:Obj):Blk (w.alloc o) g t vs:=h.of_block (by show (w.heap.push o)[g]?=_;rw [Array.getElem?_push,if_neg (Nat.ne_of_lt h.lt)])
theorem Blk.drew (h:Blk w g t vs):Blk w.drew g t vs:=h
theorem Blk.below {B:Nat} (h:Blk w g t vs) (hb:Below B w w') (hB:g<B):Blk w' g t vs:=h.of_block (hb.block g hB)
theorem Blk.grown (h:Blk w g t vs) {row:Option Nat} (hg:w.grownBy w' row) (hr:row≠some g):Blk w' g t vs:=h.of_block (hg.block g h.lt (fun e=>hr e.symm))
end
theorem u8_parts:(Tryz.prog.info? 5).map (fun i=>(i.zero,i.size,i.bytes))=some (some (.int .u8 0),1,1):=by kernel_rfl
def OwnY (w:World) (base:Nat) (v:Value) (zs:List Int):Prop:=w.ownsRow base 5 1 v zs.length (bcells zs)
theorem OwnY.nil (w:World) (base:Nat):OwnY w base (.slice none 0 0) []:=World.ownsRow_nil _ _ _ _
theorem OwnY.rd {w:World} {base:Nat} {v:Value} {zs:List Int} (h:OwnY w base v zs) (hz:u8s zs): ∃ A c,v= .slice A zs.length c∧Rd w w.heap.size A zs.length zs∧zs.length≤c∧c≤maxLen:=by
 obtain ⟨A,c,rfl,h1,h2⟩:=own_room h
 exact ⟨A,c,rfl,Rd.of_own h hz,h1,h2⟩
theorem wpList_app_bytes {ops:Array Oper} {rest:List Oper} {o:Oper} {a:Act} {w:World} {Q:Exit→Act→World→Prop} (hgd:o.guard=none) (s x:Operand)
  (ho:o.op= .call { callee:= .builtin .append,args:= #[s,x],argTypes:= #[22,22] }) (base:Nat) (v:Value) (zs:List Int) (hs:a.eval s=v) (hown:OwnY w base v zs)
  (B:Nat) (A:Option Addr) (m c:Nat) (news:List Int) (hx:a.eval x= .slice A m c) (hr:Rd w B A m news) (h63:zs.length+m≤1000000000) (hbase:base≤w.heap.size)
  (h: ∀ v' w',OwnY w' base v' (zs++news)→w.grownBy w' v.ownBlock→(v'.ownBlock=v.ownBlock∨v'.ownBlock=some w.heap.size)→wpList Tryz.prog ops Q rest (a.put o.dst v') w'):wpList Tryz.prog ops Q (o::rest) a w:=by
 obtain ⟨i0,hi,hz0,hz1,hz2⟩:=info_parts u8_parts
 refine wpList_append_any w hgd s x 22 ho base 5 i0 (.int .u8 0) 1 1 Tryz.underlying22 hi hz0 hz1 hz2 rfl (by decide) v zs.length (bcells zs) hs hown B A m c (bcells news) hx hr.reads (bcells_one _) (by unfold maxLen;omega) (by omega) hbase ?_
 intro v' w' h1 h2 h3
 refine h v' w' ?_ h2 h3
 unfold OwnY
 rw [List.length_append,bcells_app,hr.len]
 exact h1
theorem grown_of_below {w w':World} (h:Below w.heap.size w w') (row:Option Nat):w.grownBy w' row:=⟨h.os,h.tape,h.output,h.size,fun k hk _=>h.block k hk⟩
theorem ownsRow_lower {w:World} {base base':Nat} {e:TypeId} {size:Nat} {v:Value} {n:Nat} {xs:List Value} (h:w.ownsRow base e size v n xs) (hb:base'≤base):w.ownsRow base' e size v n xs:=by
 refine ⟨h.1, ?_⟩
 rcases h.2 with h'|⟨g,cap,cur,h1,h2,h3⟩
 ·exact .inl h'
 ·exact .inr ⟨g,cap,cur,h1,Nat.le_trans hb h2,h3⟩
theorem OwnY.grown {w w':World} {b:Nat} {v:Value} {l:List Int} (h:OwnY w b v l) {row:Option Nat} (hg:w.grownBy w' row) (hr:v.ownBlock=none∨v.ownBlock≠row):OwnY w' b v l:=World.ownsRow.kept h hg hr
theorem OwnY.later {w w':World} {b:Nat} {v:Value} {l:List Int} (h:OwnY w b v l) (hb:Below w.heap.size w w'):OwnY w' b v l:=by
 cases hv:v.ownBlock with
 |none=>exact h.grown (grown_of_below hb none) (.inl hv)
 |some g=>exact h.grown (grown_of_below hb none) (.inr (by rw [hv];simp))
theorem OwnY.lower {w:World} {b b':Nat} {v:Value} {l:List Int} (h:OwnY w b v l) (hb:b'≤b):OwnY w b' v l:=ownsRow_lower h hb
theorem OwnY.lt {w:World} {b g:Nat} {v:Value} {l:List Int} (h:OwnY w b v l) (hv:v.ownBlock=some g):b≤g∧g<w.heap.size:=World.ownsRow.lt h g hv
theorem OwnY.apart {w:World} {b k:Nat} {v:Value} {l:List Int} (h:OwnY w b v l) (hk:k<b):v.ownBlock≠some k:=fun e=>by have:=(h.lt e).1;omega
theorem OwnY.drew {w:World} {b:Nat} {v:Value} {l:List Int} (h:OwnY w b v l):OwnY w.drew b v l:=h
def tl (s:ByteArray):List UInt8:=s.data.toList
theorem tl_mk (l:List UInt8):tl ⟨l.toArray⟩=l:=rfl
theorem tl_append (a b:ByteArray):tl (a++b)=tl a++tl b:=by unfold tl;simp
theorem tl_eq (x:ByteArray):x.toList=tl x:=ByteArray.toList_eq x
theorem tl_inj {a b:ByteArray} (h:tl a=tl b):a=b:=WideShapes.bytes_inj h
def pcells (l:List M.Pt):List Value:=l.flatMap fun p=> [.int .i64 p.1, .int .i64 p.2]
theorem pcells_app (a b:List M.Pt):pcells (a++b)=pcells a++pcells b:=by simp [pcells]
theorem pcells_at: ∀ {l:List M.Pt} {j:Nat} {p:M.Pt},l[j]?=some p→(pcells l)[2*j]?=some (.int .i64 p.1)∧(pcells l)[2*j+1]?=some (.int .i64 p.2)
 | [],j,p,h=>by simp at h
 |q::l,0,p,h=>by
  simp at h
  subst h
  exact ⟨rfl,rfl⟩
 |q::l,j+1,p,h=>by
  have ih:=pcells_at (l:=l) (j:=j) (p:=p) (by simpa using h)
  have e:pcells (q::l)= .int .i64 q.1:: .int .i64 q.2::pcells l:=rfl
  rw [e,show 2*(j+1)=2*j+1+1 by omega,List.getElem?_cons_succ,List.getElem?_cons_succ,List.getElem?_cons_succ,List.getElem?_cons_succ]
  exact ih
def RdP (w:World) (B:Nat) (A:Option Addr) (n:Nat) (l:List M.Pt):Prop:=
 l.length=n∧(0<n→ ∃ b off,A=some ⟨b,off,none⟩∧b<B∧ ∀ (j:Nat) (p:M.Pt),l[j]?=some p→w.cell? ⟨b,off+j*2,none⟩=some (.int .i64 p.1)∧w.cell? ⟨b,off+j*2+1,none⟩=some (.int .i64 p.2))
section
variable {w w':World} {B B' n:Nat} {A:Option Addr} {l:List M.Pt}
theorem RdP.len (h:RdP w B A n l):l.length=n:=h.1
theorem RdP.none_:RdP w B A 0 []:=⟨rfl,fun h=>absurd h (by omega)⟩
theorem RdP.at_ {k:Nat} (h:RdP w B A n l) (hk:k<n): ∃ b off p,A=some ⟨b,off,none⟩∧b<B∧l[k]?=some p∧w.cell? ⟨b,off+k*2,none⟩=some (.int .i64 p.1)∧w.cell? ⟨b,off+k*2+1,none⟩=some (.int .i64 p.2):=by
 obtain ⟨b,off,e,hb,hc⟩:=h.2 (by omega)
 have hl:k<l.length:=by have:=h.1;omega
 have hz:l[k]?=some l[k]:=List.getElem?_eq_getElem hl
 exact ⟨b,off,l[k],e,hb,hz,(hc k _ hz).1,(hc k _ hz).2⟩
theorem RdP.keep (h:RdP w B A n l) (hk: ∀ p:Addr,p.block<B→w'.cell? p=w.cell? p):RdP w' B A n l:=
 ⟨h.1,fun hn=>by
  obtain ⟨b,off,e,hb,hc⟩:=h.2 hn
  exact ⟨b,off,e,hb,fun j p hp=>⟨(hk _ hb).trans (hc j p hp).1,(hk _ hb).trans (hc j p hp).2⟩⟩⟩
theorem RdP.more (h:RdP w B A n l) (hB:B≤B'):RdP w B' A n l:=
 ⟨h.1,fun hn=>by
  obtain ⟨b,off,e,hb,hc⟩:=h.2 hn
  exact ⟨b,off,e,by omega,hc⟩⟩
theorem RdP.below (h:RdP w B A n l) (hb:Below B w w'):RdP w' B A n l:=h.keep fun _ hp=>hb.cell hp
theorem RdP.alloc (h:RdP w B A n l) (hB:B≤w.heap.size) (o:Obj):RdP (w.alloc o) B A n l:=h.keep fun p hp=>World.cell?_alloc_lt w o p (by omega)
theorem RdP.setCell (h:RdP w B A n l) {p:Addr} (hB:B≤p.block) (u:Value):RdP (w.setCell p u) B A n l:=
 h.keep fun q hq=>World.cell?_setCell_other w p q u (fun e=>by subst e;omega)
end
def OwnP (w:World) (base:Nat) (v:Value) (l:List M.Pt):Prop:=w.ownsRow base 113 2 v l.length (pcells l)
theorem part_parts:(Tryz.prog.info? 113).map (fun i=>(i.zero,i.size,i.bytes))=some (some (.agg #[.int .i64 0, .int .i64 0]),2,16):=by kernel_rfl
theorem OwnP.nil (w:World) (base:Nat):OwnP w base (.slice none 0 0) []:=World.ownsRow_nil _ _ _ _
theorem own_room2 {w:World} {base n:Nat} {e:TypeId} {v:Value} {xs:List Value} (h:w.ownsRow base e 2 v n xs): ∃ A c,v= .slice A n c∧n≤c:=by
 rcases h.2 with ⟨hv,h0⟩|⟨g,cap,cur,hv,_,_,hnc,hcm,_⟩
 ·subst h0;exact ⟨none,0,hv,Nat.le_refl _⟩
 ·exact ⟨_,cap,hv,hnc⟩
theorem OwnP.rd {w:World} {base:Nat} {v:Value} {l:List M.Pt} (h:OwnP w base v l): ∃ A c,v= .slice A l.length c∧RdP w w.heap.size A l.length l∧l.length≤c:=by
 obtain ⟨A,c,rfl,h1⟩:=own_room2 h
 refine ⟨A,c,rfl,⟨rfl,fun hl=> ?_⟩,h1⟩
 obtain ⟨g,cap,hv,_,hlt⟩:=World.ownsRow.form h hl
 have hA:A=some ⟨g,0,none⟩:=by injection hv
 subst hA
 refine ⟨g,0,rfl,hlt,fun j p hp=> ?_⟩
 obtain ⟨h1,h2⟩:=pcells_at hp
 have c1:=World.ownsRow.cells h (g:=g) rfl _ _ h1
 have c2:=World.ownsRow.cells h (g:=g) rfl _ _ h2
 have e: ∀ k:Nat,(⟨g,0,none⟩:Addr).add k=⟨g,0+k,none⟩:=by
  intro k
  unfold Addr.add
  split
  ·rename_i h0;subst h0;rfl
  ·rfl
 rw [e,Nat.mul_comm] at c1 c2
 exact ⟨c1,by rw [Nat.add_assoc];exact c2⟩
theorem OwnP.grown {w w':World} {b:Nat} {v:Value} {l:List M.Pt} (h:OwnP w b v l) {row:Option Nat} (hg:w.grownBy w' row) (hr:v.ownBlock=none∨v.ownBlock≠row):OwnP w' b v l:=World.ownsRow.kept h hg hr
theorem OwnP.later {w w':World} {b:Nat} {v:Value} {l:List M.Pt} (h:OwnP w b v l) (hb:Below w.heap.size w w'):OwnP w' b v l:=by
 cases hv:v.ownBlock with
 |none=>exact h.grown (grown_of_below hb none) (.inl hv)
 |some g=>exact h.grown (grown_of_below hb none) (.inr (by rw [hv];simp))
theorem OwnP.lower {w:World} {b b':Nat} {v:Value} {l:List M.Pt} (h:OwnP w b v l) (hb:b'≤b):OwnP w b' v l:=ownsRow_lower h hb
theorem OwnP.alloc {w:World} {b:Nat} {v:Value} {l:List M.Pt} (h:OwnP w b v l) (o:Obj):OwnP (w.alloc o) b v l:=World.ownsRow.alloc h o
theorem OwnP.set {w:World} {b:Nat} {v:Value} {l:List M.Pt} (h:OwnP w b v l) {p:Addr} (hp:p.block<b) (u:Value):OwnP (w.setCell p u) b v l:=ownsRow_setCell_below h hp u
theorem wpList_appP {W:World} {ops:Array Oper} {rest:List Oper} {o:Oper} {a:Act} {Q:Exit→Act→World→Prop} (hgd:o.guard=none) (s x:Operand)
  (ho:o.op= .call { callee:= .builtin .append,args:= #[s,x],argTypes:= #[32,32] })
  (base:Nat) (v:Value) (l:List M.Pt) (p q:Int) (hs:a.eval s=v) (hown:OwnP W base v l) (hbase:base≤W.heap.size)
  (hx:a.eval x= .slice (some ⟨W.heap.size,0,none⟩) 1 1) (hl:l.length≤1048576)
  (h: ∀ v' w',Hid (OwnP w' base v' (l++ [(p,q)]))→Hid (Below base W w')→Hid ((W.alloc (.cells #[.int .i64 p, .int .i64 q] 113)).grownBy w' v.ownBlock)→wpList Tryz.prog ops Q rest (a.put o.dst v') w'):
  wpList Tryz.prog ops Q (o::rest) a (W.alloc (.cells #[.int .i64 p, .int .i64 q] 113)):=by
 obtain ⟨i0,hi,hz0,hz1,hz2⟩:=info_parts part_parts
 have hownA:(W.alloc (.cells #[.int .i64 p, .int .i64 q] 113)).ownsRow base 113 2 v l.length (pcells l):=World.ownsRow.alloc hown _
 refine wpList_append_own _ hgd s x 32 ho base 113 i0 (.agg #[.int .i64 0, .int .i64 0]) 2 16 Tryz.underlying32 hi hz0 hz1 hz2 rfl (by decide) v l.length (pcells l) hs hownA ⟨W.heap.size,0,none⟩ 1 1 [.int .i64 p, .int .i64 q] hx rfl ?_ ?_ ?_ ?_ ?_ ?_
 ·intro j u hj
  match j,hj with
  |0,hj=>simp at hj;subst hj;simp [Addr.add,World.cell?_alloc_mark]
  |1,hj=>simp at hj;subst hj;simp [Addr.add,World.cell?_alloc_mark]
 ·intro u hu
  simp at hu
  rcases hu with rfl|rfl<;>rfl
 ·unfold maxLen;omega
 ·omega
 ·simp;omega
 ·intro v' w' hown' hgrow _
  refine h v' w' (Lib.hid ?_) (Lib.hid ?_) (Lib.hid hgrow)
  ·unfold OwnP
   rw [pcells_app,List.length_append]
   exact hown'
  ·refine below_grown ((Below.refl base W).alloc hbase _) hgrow (by simp;omega) ?_
   intro g hg
   rcases hownA.2 with ⟨rfl,_⟩|⟨g',cap,cur,rfl,hb,_⟩
   ·simp [Value.ownBlock] at hg
   ·have:g'=g:=by simpa [Value.ownBlock] using hg
    omega
end Go.Proofs.YtgbgngdakkiclaaGreatDoor.Sp
namespace Go.Proofs.YtgbgngdakkiclaaGreatDoor.Sp
open Go.RowKit Go.Lib
namespace M
theorem walk_step {real e s:Int} {l:List Pt} {k:Nat} {p:Pt} (h:walk real 0 0 l=walk real e s (l.drop k)) (hp:l[k]?=some p) (h1: ¬ (p.1<e∨p.2<0∨real - p.1<p.2)):walk real 0 0 l=walk real (p.1+p.2) (s+p.2) (l.drop (k+1)):=by
 obtain ⟨hk,rfl⟩:=List.getElem?_eq_some_iff.1 hp
 rw [h,List.drop_eq_getElem_cons hk,walk,if_neg h1]
theorem walk_bad {real e s:Int} {l:List Pt} {k:Nat} {p:Pt} (h:walk real 0 0 l=walk real e s (l.drop k)) (hp:l[k]?=some p) (h1:p.1<e∨p.2<0∨real - p.1<p.2):walk real 0 0 l=none:=by
 obtain ⟨hk,rfl⟩:=List.getElem?_eq_some_iff.1 hp
 rw [h,List.drop_eq_getElem_cons hk,walk,if_pos h1]
theorem walk_end {real e s:Int} {l:List Pt} (h:walk real 0 0 l=walk real e s (l.drop l.length)):walk real 0 0 l=some (e,s):=by
 rw [h,List.drop_length];rfl
theorem check_long {l:List Pt} (stored real:Int) (h:1000<l.length):check l stored real=3:=by unfold check;rw [if_pos h]
theorem check_real {l:List Pt} (stored:Int) {real:Int} (h: ¬ 1000<l.length) (h2:real<0∨1099511627776<real):check l stored real=11:=by unfold check;rw [if_neg h,if_pos h2]
theorem check_walk {l:List Pt} (stored:Int) {real:Int} (h: ¬ 1000<l.length) (h2: ¬ (real<0∨1099511627776<real)):check l stored real=checkW real stored (walk real 0 0 l):=by unfold check;rw [if_neg h,if_neg h2]
end M
def BoxP (w:World) (g:Nat) (p q:Int):Prop:=w.heap[g]?=some (.cells #[.int .i64 p, .int .i64 q] 113 (0,0))
section
variable {w w':World} {g:Nat} {p q:Int}
theorem BoxP.new (w:World) (p q:Int):BoxP (w.alloc (.cells #[.int .i64 p, .int .i64 q] 113)) w.heap.size p q:=heap_alloc_new w _
theorem BoxP.lt (h:BoxP w g p q):g<w.heap.size:=(Array.getElem?_eq_some_iff.1 h).1
theorem BoxP.cell0 (h:BoxP w g p q):w.cell? ⟨g,0,none⟩=some (.int .i64 p):=by rw [cell_of_row _ _ _ _ _ _ h];rfl
theorem BoxP.cell1 (h:BoxP w g p q):w.cell? ⟨g,1,none⟩=some (.int .i64 q):=by rw [cell_of_row _ _ _ _ _ _ h];rfl
theorem BoxP.of_block (h:BoxP w g p q) (e:w'.heap[g]?=w.heap[g]?):BoxP w' g p q:=e.trans h
end
set_option maxRecDepth 100000 in
set_option maxHeartbeats 1000000 in
theorem check_any (A:Option Addr) (n c:Nat) (l:List M.Pt) (stored real:Int) (w:World) (hr:RdP w w.heap.size A n l) (hi:M.i64s l) (hn:n≤1048576):
  Calls Tryz.prog 122 #[.slice A n c, .int .i64 stored, .int .i64 real] w fun e w'=>e= .returned (.int .u16 (M.check l stored real))∧Below w.heap.size w w':=by
 have HL:=hid hr.len
 have HR:=hid hr
 have HI:=hid hi
 clear hr hi
 by_cases hlong:1000<n
 ·have HE:=hid (M.check_long (l:=l) stored real (by rw [HL.out];exact hlong))
  have d1:decide ((1000:Int)<(n:Int))=true:=by rw [decide_eq_true_eq];omega
  go_enter Tryz.func122,Tryz.ntmps122
  go_wp2
  go_ret
  exact ⟨by rw [HE.out];rfl,Below.refl _ _⟩
 have HLo:=hid (show ¬ 1000<l.length by rw [HL.out];exact hlong)
 have d1:decide ((1000:Int)<(n:Int))=false:=by rw [decide_eq_false_iff_not];omega
 by_cases hreal:real<0∨1099511627776<real
 ·have HE:=hid (M.check_real (l:=l) stored HLo.out hreal)
  by_cases h0:real<0
  case' pos=>have d2:decide (real<0)=true:=by rw [decide_eq_true_eq];exact h0
  case' neg=>
   have d2:decide (real<0)=false:=by rw [decide_eq_false_iff_not];exact h0
   have d3:decide (1099511627776<real)=true:=by rw [decide_eq_true_eq];omega
  all_goals
   clear hreal h0
   go_enter Tryz.func122,Tryz.ntmps122
   go_wp2
   go_ret
   exact ⟨by rw [HE.out];rfl,Below.refl _ _⟩
 have HE:=hid (M.check_walk (l:=l) stored HLo.out hreal)
 have h0:0≤real:=by omega
 have h1:real≤1099511627776:=by omega
 have d2:decide (real<0)=false:=by rw [decide_eq_false_iff_not];omega
 have d3:decide (1099511627776<real)=false:=by rw [decide_eq_false_iff_not];omega
 clear hreal
 go_enter Tryz.func122,Tryz.ntmps122
 go_wp2
 go_loopw [7,8,22] (fun e s i wr=> ∃ (k:Nat) (en sn:Int),i= .int .i64 k∧e= .int .i64 en∧s= .int .i64 sn∧k≤n∧0≤en∧en≤real∧0≤sn∧sn≤en∧Hid (M.walk real 0 0 l=M.walk real en sn (l.drop k))∧Hid (Below w.heap.size w wr)) (fun _ _ i _=>n - (RowKit.intOf i).toNat)
 case atStart=>exact ⟨0,0,0,rfl,rfl,rfl,Nat.zero_le _,Int.le_refl _,h0,Int.le_refl _,Int.le_refl _,hid rfl,hid (Below.refl _ _)⟩
 case round=>
  obtain ⟨k,en,sn,rfl,rfl,rfl,hk,he0,he1,hs0,hs1,HW,HB⟩:=hrel
  by_cases hlt:k<n
  ·obtain ⟨b,off,⟨p,q⟩,rfl,hb,hp,hc1,hc2⟩:=(HR.out.below HB.out).at_ hlt
   have HB2:=hid (HB.out.alloc HB.out.size (.cells #[.int .i64 p, .int .i64 q] 113))
   dsimp only at hc1 hc2
   have HST:=hid (fun h1=>M.walk_step HW.out hp h1)
   have HBD:=hid (fun h1=>M.walk_bad HW.out hp h1)
   obtain ⟨⟨p0,p1⟩,q0,q1⟩:=HI.out _ (List.mem_of_getElem? hp)
   clear hp
   dsimp only at HST HBD p0 p1 q0 q1
   by_cases hbad:p<en∨q<0∨real - p<q
   ·have HE2:=hid (show M.check l stored real=11 by rw [HE.out,HBD.out hbad];rfl)
    clear HST HBD
    by_cases c1:p<en
    case' pos=>have d4:decide (p<en)=true:=by rw [decide_eq_true_eq];exact c1
    case' neg=>
     have d4:decide (p<en)=false:=by rw [decide_eq_false_iff_not];exact c1
     by_cases c2:q<0
     case' pos=>have d5:decide (q<0)=true:=by rw [decide_eq_true_eq];exact c2
     case' neg=>
      have d5:decide (q<0)=false:=by rw [decide_eq_false_iff_not];exact c2
      have d6:decide (real - p<q)=true:=by rw [decide_eq_true_eq];omega
    all_goals
     by_cases hk0:k=0
     case' pos=>
      subst hk0
      simp only [Nat.zero_mul,Nat.add_zero] at hc1 hc2
     case' neg=>have hk1:0<k:=by omega
     all_goals
      go_wp2
      go_ret
      exact ⟨by rw [HE2.out];rfl,HB2.out⟩
   ·have HST2:=hid (HST.out hbad)
    have c1: ¬ p<en:=by omega
    have c2: ¬ q<0:=by omega
    have c3: ¬ real - p<q:=by omega
    have d4:decide (p<en)=false:=by rw [decide_eq_false_iff_not];exact c1
    have d5:decide (q<0)=false:=by rw [decide_eq_false_iff_not];exact c2
    have d6:decide (real - p<q)=false:=by rw [decide_eq_false_iff_not];exact c3
    clear hbad HST HBD
    by_cases hk0:k=0
    case' pos=>
     subst hk0
     simp only [Nat.zero_mul,Nat.add_zero] at hc1 hc2
    case' neg=>have hk1:0<k:=by omega
    all_goals
     go_wp2
     go_roundw
     case rel=>exact ⟨_,p+q,sn+q,(show Value.int .i64 _=Value.int .i64 ((_+1:Nat):Int) by go_num),by go_num,by go_num,by omega,by omega,by omega,by omega,by omega,HST2,HB2⟩
     case measure=>simp [RowKit.intOf];omega
  ·obtain rfl:k=n:=by omega
   have HN:=hid (show M.walk real 0 0 l=some (en,sn) from M.walk_end (by rw [HL.out];exact HW.out))
   by_cases hs:sn=stored
   ·have d7:(sn !=stored)=false:=by simpa using hs
    have HE2:=hid (show M.check l stored real=0 by rw [HE.out,HN.out];show (if sn=stored then (0:Int) else 11)=0;rw [if_pos hs])
    clear hs
    go_wp2
    go_ret
    exact ⟨by rw [HE2.out];rfl,HB.out⟩
   ·have d7:(sn !=stored)=true:=by simpa using hs
    have HE2:=hid (show M.check l stored real=11 by rw [HE.out,HN.out];show (if sn=stored then (0:Int) else 11)=11;rw [if_neg hs])
    clear hs
    go_wp2
    go_ret
    exact ⟨by rw [HE2.out];rfl,HB.out⟩
end Go.Proofs.YtgbgngdakkiclaaGreatDoor.Sp
