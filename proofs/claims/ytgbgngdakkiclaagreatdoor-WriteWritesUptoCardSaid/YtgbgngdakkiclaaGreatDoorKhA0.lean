/-
  Texts of one chapter, merged.
-/
import Derived.Below
import Derived.Laws.OwnMore
import Derived.Deep.AppendLies
import Derived.Deep.Draws
import Derived.Lib.Hide
import Derived.Lib.Bytealg
import Derived.Lib.Strings
import GoSem.Core.Utf8
import Derived.Test.YtgbgngdakkiclaaGreatDoorProg
import Derived.Laws.CopyOwn
import Derived.Deep.WholeRow
import Derived.Deep.RegionLawGrows
import Derived.Stop.BytesEq
import Derived.Laws.BytesString
import Derived.Laws.IdiomStrings
import Derived.Laws.MakeOwn
import Derived.RegionTactic
import Derived.OwnWalk
import Derived.WalkKit
import Derived.ProofKit
import Derived.Test.YtgbgngdakkiclaaGreatDoorRows
import Derived.Laws.BitsAllLaws
import Derived.Laws.BitsLemmas
import Derived.Deep.OwnRows
set_option linter.unusedVariables false
set_option linter.unusedSimpArgs false
/-! KhNumMem -/
namespace Go.Proofs.YtgbgngdakkiclaaGreatDoor.Hd
open Go.RowKit
def cutA (A:Option Addr) (c k:Nat):Option Addr:=if c=k then A else A.map (·.add k)
def Rd (w:World) (B:Nat) (A:Option Addr) (n:Nat) (zs:List Int):Prop:=
 zs.length=n∧(∀ z∈zs,0≤z∧z≤255)∧
  (0<n→ ∃ b off,A=some ⟨b,off,none⟩∧b<B∧ ∀ j z,zs[j]?=some z→w.cell? ⟨b,off+j,none⟩=some (.int .u8 z))
section
variable {w w':World} {B B' n:Nat} {A:Option Addr} {zs:List Int}
theorem Rd.len (h:Rd w B A n zs):zs.length=n:=h.1
theorem Rd.bd (h:Rd w B A n zs): ∀ z∈zs,0≤z∧z≤255:=h.2.1
theorem Rd.none_:Rd w B A 0 []:=⟨rfl,by simp,fun h=>absurd h (by omega)⟩
theorem Rd.at_ {k:Nat} (h:Rd w B A n zs) (hk:k<n):
  ∃ b off z,A=some ⟨b,off,none⟩∧b<B∧0≤z∧z≤255∧zs[k]?=some z∧w.cell? ⟨b,off+k,none⟩=some (.int .u8 z):=by
 obtain ⟨b,off,e,hb,hc⟩:=h.2.2 (by omega)
 have hl:k<zs.length:=by have:=h.1;omega
 have hz:=h.2.1 zs[k] (List.getElem_mem hl)
 exact ⟨b,off,zs[k],e,hb,hz.1,hz.2,List.getElem?_eq_getElem hl,hc k _ (List.getElem?_eq_getElem hl)⟩
theorem Rd.keep (h:Rd w B A n zs) (hk: ∀ p:Addr,p.block<B→w'.cell? p=w.cell? p):Rd w' B A n zs:=
 ⟨h.1,h.2.1,fun hn=>by
  obtain ⟨b,off,e,hb,hc⟩:=h.2.2 hn
  exact ⟨b,off,e,hb,fun j z hz=>(hk _ hb).trans (hc j z hz)⟩⟩
theorem Rd.more (h:Rd w B A n zs) (hB:B≤B'):Rd w B' A n zs:=
 ⟨h.1,h.2.1,fun hn=>by
  obtain ⟨b,off,e,hb,hc⟩:=h.2.2 hn
  exact ⟨b,off,e,by omega,hc⟩⟩
theorem Rd.below (h:Rd w B A n zs) (hb:Below B w w'):Rd w' B A n zs:=h.keep fun _ hp=>hb.cell hp
theorem Rd.drew (h:Rd w B A n zs):Rd w.drew B A n zs:=h
theorem Rd.alloc (h:Rd w B A n zs) (hB:B≤w.heap.size) (o:Obj):Rd (w.alloc o) B A n zs:=h.keep fun p hp=>World.cell?_alloc_lt w o p (by omega)
theorem Rd.setCell (h:Rd w B A n zs) {p:Addr} (hB:B≤p.block) (u:Value):Rd (w.setCell p u) B A n zs:=
 h.keep fun q hq=>World.cell?_setCell_other w p q u (fun e=>by subst e;omega)
theorem Rd.cut {c k:Nat} (h:Rd w B A n zs) (hk:k≤n) (hc:n≤c):Rd w B (cutA A c k) (n - k) (zs.drop k):=by
 unfold cutA
 refine ⟨by rw [List.length_drop,h.1],fun z hz=>h.2.1 z (List.mem_of_mem_drop hz),fun hn=> ?_⟩
 obtain ⟨b,off,rfl,hb,hcell⟩:=h.2.2 (by omega)
 rw [if_neg (by omega)]
 refine ⟨b,off+k, ?_,hb,fun j z hz=> ?_⟩
 ·simp [Addr.add]
 ·rw [Nat.add_assoc]
  exact hcell _ z (by rw [←hz,List.getElem?_drop])
end
theorem ret_int {k:IntKind} {a b:Int} (h:a=b):Ending.returned (.int k a)= .returned (.int k b):=by rw [h]
theorem ret_bool {a b:Bool} (h:a=b):Ending.returned (.bool a)= .returned (.bool b):=by rw [h]
end Go.Proofs.YtgbgngdakkiclaaGreatDoor.Hd

/-! KhHStrMath -/
namespace Go.Proofs.YtgbgngdakkiclaaGreatDoor.Hd.S
namespace M
def parts:List UInt8→List (List UInt8)
 | []=> [[]]
 |c::l=>if c=47 then []::parts l else match parts l with
  | []=> [[c]]
  |p::ps=>(c::p)::ps
theorem indexByte_ge (l:List UInt8) (c:UInt8): -1≤Lib.indexByte l c∧Lib.indexByte l c<l.length:=by
 induction l with
 |nil=>simp [Lib.indexByte]
 |cons b l ih=>
  unfold Lib.indexByte
  simp only [List.length_cons]
  split
  ·omega
  ·split<;>omega
end M
end Go.Proofs.YtgbgngdakkiclaaGreatDoor.Hd.S

/-! KhHUtfMath -/
namespace Go.Proofs.YtgbgngdakkiclaaGreatDoor.Hd.S
namespace M
def at' (l:List UInt8) (k:Nat):Nat:=(l.getD k 0).toNat
def tail (l:List UInt8) (k lo hi:Nat):Bool:=decide (k<l.length)&&decide (lo≤at' l k)&&decide (at' l k≤hi)
def lo (c:Nat):Nat:=if c=224 then 160 else if c=240 then 144 else 128
def hi (c:Nat):Nat:=if c=237 then 159 else if c=244 then 143 else 191
def two (l:List UInt8):Bool:=tail l 1 (lo (at' l 0)) (hi (at' l 0))&&tail l 2 128 191
end M
end Go.Proofs.YtgbgngdakkiclaaGreatDoor.Hd.S

/-! KhSumMem -/
namespace Go.Proofs.YtgbgngdakkiclaaGreatDoor.Hd
open Go.RowKit
def bcells (zs:List Int):List Value:=zs.map (Value.int .u8)
theorem bcells_len (zs:List Int):(bcells zs).length=zs.length:=by simp [bcells]
theorem bcells_one (zs:List Int): ∀ v∈bcells zs,v.oneCell'=true:=by
 intro v hv
 obtain ⟨z,_,rfl⟩:=List.mem_map.1 hv
 rfl
theorem bcells_at {zs:List Int} {j:Nat} {z:Int} (h:zs[j]?=some z):(bcells zs)[j]?=some (.int .u8 z):=by simp [bcells,h]
theorem bcells_at' {zs:List Int} {j:Nat} {v:Value} (h:(bcells zs)[j]?=some v): ∃ z,zs[j]?=some z∧v= .int .u8 z:=by
 unfold bcells at h
 rw [List.getElem?_map] at h
 cases hz:zs[j]? with
 |none=>rw [hz] at h;cases h
 |some z=>
  rw [hz] at h
  injection h with h
  exact ⟨z,rfl,h.symm⟩
theorem bcells_size (zs:List Int):(bcells zs).toArray.size=zs.length:=by simp [bcells]
theorem bcells_app (a b:List Int):bcells (a++b)=bcells a++bcells b:=by simp [bcells]
theorem bcells_splice (a b:List Int) (o:Nat):splice (bcells a) o (bcells b)=bcells (splice a o b):=by
 simp [splice,bcells,List.map_take,List.map_drop]
theorem bcells_set (a:List Int) (k:Nat) (z:Int):(bcells a).set k (.int .u8 z)=bcells (a.set k z):=by simp [bcells,List.map_set]
def Arr (w:World) (b:Nat) (t:TypeId) (zs:List Int):Prop:=w.heap[b]?=some (.cells (bcells zs).toArray t (0,0))
section
variable {w w':World} {b:Nat} {t:TypeId} {zs:List Int}
theorem Arr.out (h:Arr w b t zs):w.heap[b]?=some (.cells (bcells zs).toArray t (0,0)):=h
theorem Arr.lt (h:Arr w b t zs):b<w.heap.size:=(Array.getElem?_eq_some_iff.1 h).1
theorem Arr.cell (h:Arr w b t zs) {i:Nat} {z:Int} (hz:zs[i]?=some z):w.cell? ⟨b,i,none⟩=some (.int .u8 z):=by
 rw [cell_of_row w b i _ t (0,0) h]
 simpa using bcells_at hz
theorem Arr.frozen (h:Arr w b t zs) (i:Nat):w.frozen? ⟨b,i,none⟩=false:=frozen_of_row w b i _ t h
theorem Arr.set (h:Arr w b t zs) (i:Nat) (v:Int):Arr (w.setCell ⟨b,i,none⟩ (.int .u8 v)) b t (zs.set i v):=by
 unfold Arr
 rw [heap_setCell_same w b i _ t _ h]
 simp [←bcells_set]
theorem Arr.of_block (h:Arr w b t zs) (e:w'.heap[b]?=w.heap[b]?):Arr w' b t zs:=e.trans h
theorem Arr.setOther (h:Arr w b t zs) {a:Addr} (hn:b≠a.block) (v:Value):Arr (w.setCell a v) b t zs:=h.of_block (heap_setCell_other w a b v hn)
theorem Arr.alloc (h:Arr w b t zs) (o:Obj):Arr (w.alloc o) b t zs:=h.of_block (by show (w.heap.push o)[b]?=_;rw [Array.getElem?_push,if_neg (Nat.ne_of_lt h.lt)])
theorem Arr.drew (h:Arr w b t zs):Arr w.drew b t zs:=h
theorem Arr.below {B:Nat} (h:Arr w b t zs) (hb:Below B w w') (hB:b<B):Arr w' b t zs:=h.of_block (hb.block b hB)
theorem Arr.new (w:World) (t:TypeId) (zs:List Int):Arr (w.alloc (.cells (bcells zs).toArray t)) w.heap.size t zs:=heap_alloc_new w _
theorem Arr.rd (h:Arr w b t zs) (hz: ∀ z∈zs,0≤z∧z≤255) {B:Nat} (hB:b<B):Rd w B (some ⟨b,0,none⟩) zs.length zs:=
 ⟨rfl,hz,fun _=>⟨b,0,rfl,hB,fun j z hj=>by rw [Nat.zero_add];exact h.cell hj⟩⟩
theorem Arr.part (h:Arr w b t zs) (hz: ∀ z∈zs,0≤z∧z≤255) {B:Nat} (hB:b<B) (o n:Nat) (hl:o+n≤zs.length):Rd w B (some ⟨b,o,none⟩) n ((zs.drop o).take n):=by
 refine ⟨by rw [List.length_take,List.length_drop];omega,fun z hm=>hz z (List.mem_of_mem_drop (List.mem_of_mem_take hm)),fun _=>⟨b,o,rfl,hB,fun j z hj=> ?_⟩⟩
 rw [List.getElem?_take] at hj
 split at hj
 ·rw [List.getElem?_drop] at hj
  exact h.cell hj
 ·cases hj
theorem Arr.row (h:Arr w b t zs) {cur:List Value} (e:bcells zs=cur):w.heap[b]?=some (.cells cur.toArray t (0,0)):=by rw [←e];exact h
end
theorem below_drew' {B:Nat} {a w:World} (h:Below B a w):Below B a w.drew:=⟨h.os,h.tape,h.output,h.size,h.block⟩
theorem below_grown {B:Nat} {w0 w w':World} {row:Option Nat} (h:Below B w0 w) (hg:w.grownBy w' row) (hB:B≤w.heap.size) (hr: ∀ g,row=some g→B≤g):Below B w0 w':=
 h.trans ⟨hg.os,hg.tape,hg.output,hg.size,fun k hk=>hg.block k (by omega) (fun e=>by have:=hr k e.symm;omega)⟩
def nils (n:Nat):List Int:=List.replicate n 0
theorem nils_len (n:Nat):(nils n).length=n:=by simp [nils]
theorem nils_bd (n:Nat): ∀ z∈nils n,0≤z∧z≤255:=by
 intro z hz
 rw [(List.mem_replicate.1 hz).2];decide
theorem blk_info:(Tryz.prog.info? 183).map (fun i=>(i.zero,i.size))=some (some (.agg (bcells (nils 512)).toArray),512):=by kernel_rfl
theorem u8_parts:(Tryz.prog.info? 5).map (fun i=>(i.zero,i.size,i.bytes))=some (some (.int .u8 0),1,1):=by kernel_rfl
theorem u8_size:(Tryz.prog.info? 5).map (·.size)=some 1:=by kernel_rfl
theorem zeroBlk (w:World):(zeroValue 183).run Tryz.prog w= .ok (.agg (bcells (nils 512)).toArray) w:=(zero_of_info blk_info).1 w
theorem Arr.setRow {w:World} {g:Nat} {t:TypeId} {old:List Int} (h:Arr w g t old) (zs:List Int):Arr (w.setRow g (bcells zs).toArray) g t zs:=setRow_heap w g _ _ t _ h
end Go.Proofs.YtgbgngdakkiclaaGreatDoor.Hd

/-! KhNumMath -/
namespace Go.Proofs.YtgbgngdakkiclaaGreatDoor.Hd
namespace M
def dig (c:Int):Bool:=decide (48≤c)&&decide (c≤55)
def fil (c:Int):Bool:=c==32||c==0
def val (ds:List Int):Int:=ds.foldl (fun n d=>8*n+(d - 48)) 0
def most:Int:=4611686018427387904
def rest (zs:List Int):List Int:=zs.dropWhile (·==32)
def digs (zs:List Int):List Int:=(rest zs).takeWhile dig
def tail (zs:List Int):List Int:=(rest zs).dropWhile dig
def octOk (zs:List Int):Bool:=(tail zs).all fil&&decide (val (digs zs)≤most)
def octN (zs:List Int):Int:=if octOk zs then val (digs zs) else 0
theorem take_snoc' {zs:List Int} {k:Nat} {z:Int} (h:zs[k]?=some z):zs.take (k+1)=zs.take k++ [z]:=by
 rw [List.take_add_one,h];rfl
def first (c:Int):Int:=if c<192 then c - 128 else c - 256
def bits (z:Int) (l:List Int):Int:=l.foldl (fun n c=>256*n+c) (first z)
def binV:List Int→Int
 | []=>0
 |z::l=>bits z l
def marked:List Int→Bool
 | []=>false
 |z::_=>decide (128≤z)
def binOk (zs:List Int):Bool:=marked zs&&(decide (-most≤binV zs)&&decide (binV zs≤most))
def binN (zs:List Int):Int:=if binOk zs then binV zs else 0
theorem bits_snoc (z:Int) (l:List Int) (c:Int):bits z (l++ [c])=256*bits z l+c:=by simp [bits,List.foldl_append]
theorem foldb_over (l:List Int): ∀ n:Int,most<n→(∀ c∈l,0≤c∧c≤255)→most<l.foldl (fun n c=>256*n+c) n:=by
 induction l with
 |nil=>intro n hn _;exact hn
 |cons a l ih=>
  intro n hn hd
  have ha:=hd a (by simp)
  exact ih _ (by show most<256*n+a;unfold most at hn⊢;omega) (fun d h=>hd d (by simp [h]))
theorem foldb_under (l:List Int): ∀ n:Int,n< -most→(∀ c∈l,0≤c∧c≤255)→l.foldl (fun n c=>256*n+c) n< -most:=by
 induction l with
 |nil=>intro n hn _;exact hn
 |cons a l ih=>
  intro n hn hd
  have ha:=hd a (by simp)
  exact ih _ (by show 256*n+a< -most;unfold most at hn⊢;omega) (fun d h=>hd d (by simp [h]))
theorem bits_split (z:Int) (l:List Int) (k:Nat):bits z l=(l.drop k).foldl (fun n c=>256*n+c) (bits z (l.take k)):=by
 unfold bits
 rw [←List.foldl_append,List.take_append_drop]
theorem bits_stop {z:Int} {l:List Int} {k:Nat} (hk:k<l.length) (hl: ∀ c∈l,0≤c∧c≤255)
  (h:18014398509481984<bits z (l.take k)∨bits z (l.take k)< -18014398509481984):most<bits z l∨bits z l< -most:=by
 have hc:=hl l[k] (List.getElem_mem hk)
 have e:bits z (l.take (k+1))=256*bits z (l.take k)+l[k]:=by
  rw [take_snoc' (List.getElem?_eq_getElem hk),bits_snoc]
 rcases h with h|h
 ·left
  rw [bits_split z l (k+1)]
  exact foldb_over _ _ (by rw [e];unfold most;omega) (fun c hc=>hl c (List.mem_of_mem_drop hc))
 ·right
  rw [bits_split z l (k+1)]
  exact foldb_under _ _ (by rw [e];unfold most;omega) (fun c hc=>hl c (List.mem_of_mem_drop hc))
theorem binN_no {zs:List Int} (h:binOk zs=false):binN zs=0:=by simp [binN,h]
theorem binN_yes {zs:List Int} (h:binOk zs=true):binN zs=binV zs:=by simp [binN,h]
def octC (n:Int) (N k j:Nat):Int:=if N - 1≤j+k∧j+1<N then 48+(n/8^(N - 2 - j))%8 else 0
def octG (n:Int) (N j:Nat):Int:=if j+1<N then 48+(n/8^(N - 2 - j))%8 else 0
theorem octC_zero (n:Int) (N j:Nat):octC n N 0 j=0:=by
 unfold octC
 rw [if_neg (by omega)]
theorem octC_end (n:Int) (N j:Nat):octC n N (N - 1) j=octG n N j:=by
 unfold octC octG
 by_cases h:j+1<N
 ·rw [if_pos ⟨by omega,h⟩,if_pos h]
 ·rw [if_neg (by omega),if_neg h]
theorem octC_succ (n:Int) (N k j:Nat) (hk:k<N - 1):(if j=N - 2 - k then 48+(n/8^k)%8 else octC n N k j)=octC n N (k+1) j:=by
 by_cases h:j=N - 2 - k
 ·rw [if_pos h]
  unfold octC
  rw [if_pos ⟨by omega,by omega⟩,show N - 2 - j=k by omega]
 ·rw [if_neg h]
  unfold octC
  by_cases h2:N - 1≤j+k∧j+1<N
  ·rw [if_pos h2,if_pos ⟨by omega,h2.2⟩]
  ·rw [if_neg h2,if_neg (by omega)]
theorem octG_bd (n:Int) (N j:Nat):0≤octG n N j∧octG n N j≤255:=by
 unfold octG;split<;>omega
def listOf (g:Nat→Int) (N:Nat):List Int:=(List.range N).map g
theorem listOf_len (g:Nat→Int) (N:Nat):(listOf g N).length=N:=by simp [listOf]
theorem listOf_at {g:Nat→Int} {N j:Nat} {z:Int} (h:(listOf g N)[j]?=some z):j<N∧g j=z:=by
 unfold listOf at h
 rw [List.getElem?_map] at h
 by_cases hj:j<N
 ·rw [List.getElem?_range hj] at h
  exact ⟨hj,by simpa using h⟩
 ·rw [List.getElem?_eq_none (by simp;omega)] at h
  cases h
def oct (n:Int) (N:Nat):List Int:=listOf (octG n N) N
def octFits (n wide:Int):Bool:=decide (2≤wide)&&decide (wide≤32)&&decide (0≤n)&&decide (n≤most)&&decide (n/8^(wide.toNat - 1)=0)
def octR (n wide:Int):List Int:=if octFits n wide then oct n wide.toNat else []
theorem shr8_succ (n:Int) (k:Nat):n/8^(k+1)=n/8^k/8:=by
 rw [Int.pow_succ,Int.ediv_ediv_of_nonneg (Int.pow_nonneg (by decide))]
theorem shr8_nonneg {n:Int} (h:0≤n) (k:Nat):0≤n/8^k:=Int.ediv_nonneg h (Int.pow_nonneg (by decide))
theorem shr8_le {n:Int} (h:0≤n) (k:Nat):n/8^k≤n:=Int.ediv_le_self _ h
def binC (n:Int) (N k j:Nat):Int:=if N≤j+k∧j<N then (n/256^(N - 1 - j))%256 else 0
def binG (n:Int) (N j:Nat):Int:=if j=0 then (n/256^(N - 1))%128+128 else (n/256^(N - 1 - j))%256
theorem binC_zero (n:Int) (N j:Nat):binC n N 0 j=0:=by
 unfold binC
 rw [if_neg (by omega)]
theorem binC_succ (n:Int) (N k j:Nat) (hk:k<N):(if j=N - 1 - k then (n/256^k)%256 else binC n N k j)=binC n N (k+1) j:=by
 by_cases h:j=N - 1 - k
 ·rw [if_pos h]
  unfold binC
  rw [if_pos ⟨by omega,by omega⟩,show N - 1 - j=k by omega]
 ·rw [if_neg h]
  unfold binC
  by_cases h2:N≤j+k∧j<N
  ·rw [if_pos h2,if_pos ⟨by omega,h2.2⟩]
  ·rw [if_neg h2,if_neg (by omega)]
theorem binC_first (n:Int) (N:Nat) (h:0<N):binC n N N 0=(n/256^(N - 1))%256:=by
 unfold binC
 rw [if_pos ⟨by omega,h⟩,Nat.sub_zero]
theorem binC_end (n:Int) (N j:Nat) (h:j<N):(if j=0 then (n/256^(N - 1))%256%128+128 else binC n N N j)=binG n N j:=by
 unfold binG
 by_cases h0:j=0
 ·rw [if_pos h0,if_pos h0]
  omega
 ·rw [if_neg h0,if_neg h0]
  unfold binC
  rw [if_pos ⟨by omega,h⟩]
theorem binG_bd (n:Int) (N j:Nat):0≤binG n N j∧binG n N j≤255:=by
 unfold binG;split<;>omega
def bin (n:Int) (N:Nat):List Int:=listOf (binG n N) N
def binFits (n wide:Int):Bool:=decide (2≤wide)&&decide (wide≤32)&&binOk (bin n wide.toNat)&&(binN (bin n wide.toNat)==n)
def binR (n wide:Int):List Int:=if binFits n wide then bin n wide.toNat else []
theorem shr256_succ (n:Int) (k:Nat):n/256^(k+1)=n/256^k/256:=by
 rw [Int.pow_succ,Int.ediv_ediv_of_nonneg (Int.pow_nonneg (by decide))]
theorem shr256_bd {n:Int} (h: -9223372036854775808≤n∧n≤9223372036854775807) (k:Nat): -9223372036854775808≤n/256^k∧n/256^k≤9223372036854775807:=by
 induction k with
 |zero=>simpa using h
 |succ k ih=>rw [shr256_succ];omega
def putFits (n wide:Int):Bool:=octFits n wide||binFits n wide
def putR (n wide:Int):List Int:=if octFits n wide then oct n wide.toNat else binR n wide
end M
end Go.Proofs.YtgbgngdakkiclaaGreatDoor.Hd

/-! KhSumMath -/
namespace Go.Proofs.YtgbgngdakkiclaaGreatDoor.Hd
namespace M
open Go
def cu (i:Nat) (z:Int):Int:=if 148≤i∧i<156 then 32 else z
def cs (i:Nat) (z:Int):Int:=if 148≤i∧i<156 then 32 else if 127<z then z - 256 else z
def hi (i:Nat) (z:Int):Int:=if 148≤i∧i<156 then 0 else if 127<z then 1 else 0
def tot (f:Nat→Int→Int):Nat→List Int→Int
 |_, []=>0
 |i,z::l=>f i z+tot f (i+1) l
theorem tot_app (f:Nat→Int→Int): ∀ (a b:List Int) (i:Nat),tot f i (a++b)=tot f i a+tot f (i+a.length) b
 | [],b,i=>by simp [tot]
 |z::a,b,i=>by
  have ih:=tot_app f a b (i+1)
  rw [List.cons_append,tot,tot,ih,List.length_cons,show i+1+a.length=i+(a.length+1) by omega]
  omega
theorem tot_take (f:Nat→Int→Int) {zs:List Int} {k:Nat} {z:Int} (h:zs[k]?=some z):tot f 0 (zs.take (k+1))=tot f 0 (zs.take k)+f k z:=by
 have hk:k<zs.length:=(List.getElem?_eq_some_iff.1 h).1
 rw [take_snoc' h,tot_app,List.length_take,Nat.min_eq_left (by omega),tot,tot,Nat.zero_add,Int.add_zero]
theorem tot_bd (f:Nat→Int→Int) (lo up:Int): ∀ (zs:List Int) (i:Nat),(∀ z∈zs,∀ j,lo≤f j z∧f j z≤up)→lo*zs.length≤tot f i zs∧tot f i zs≤up*zs.length
 | [],i,_=>by simp [tot]
 |z::l,i,h=>by
  have ih:=tot_bd f lo up l (i+1) (fun x hx=>h x (by simp [hx]))
  have h1:=h z (by simp) i
  rw [tot,List.length_cons,Int.natCast_add,Int.mul_add,Int.mul_add]
  simp only [Int.natCast_one,Int.mul_one]
  omega
theorem cu_bd {i:Nat} {z:Int} (h:0≤z∧z≤255):0≤cu i z∧cu i z≤255:=by unfold cu;split<;>omega
theorem tot_cu_bd {zs:List Int} (i:Nat) (h: ∀ z∈zs,0≤z∧z≤255):0≤tot cu i zs∧tot cu i zs≤255*zs.length:=by
 have:=tot_bd cu 0 255 zs i (fun z hz j=>cu_bd (h z hz))
 omega
theorem cu_out {i:Nat} {z:Int} (h:i<148∨156≤i):cu i z=z:=by unfold cu;rw [if_neg (by omega)]
theorem cu_in {i:Nat} {z:Int} (h:148≤i) (h':i<156):cu i z=32:=by unfold cu;rw [if_pos ⟨h,h'⟩]
def uns (zs:List Int):Int:=tot cu 0 zs
def sgn (zs:List Int):Int:=tot cs 0 zs
def fld (zs:List Int):List Int:=(zs.drop 148).take 8
def toldOk (zs:List Int):Bool:=decide (zs.length=512)&&octOk (fld zs)
def toldN (zs:List Int):Int:=if zs.length=512 then octN (fld zs) else 0
def right (zs:List Int):Bool:=toldOk zs&&(toldN zs==uns zs||toldN zs==sgn zs)
def zero (zs:List Int):Bool:=decide (zs.length=512)&&zs.all (·==0)
def pad (zs:List Int):List Int:=(zs++List.replicate 512 0).take 512
def sld (zs:List Int):List Int:=splice (pad zs) 148 (oct (uns (pad zs)) 7++ [32])
theorem pad_len (zs:List Int):(pad zs).length=512:=by unfold pad;rw [List.length_take,List.length_append,List.length_replicate];omega
theorem pad_bd {zs:List Int} (h: ∀ z∈zs,0≤z∧z≤255): ∀ z∈pad zs,0≤z∧z≤255:=by
 intro z hz
 rcases List.mem_append.1 (List.mem_of_mem_take hz) with h1|h1
 ·exact h z h1
 ·rw [(List.mem_replicate.1 h1).2];decide
theorem pad_nil:pad []=List.replicate 512 0:=by unfold pad;rw [List.nil_append];exact List.take_of_length_le (by rw [List.length_replicate];exact Nat.le_refl _)
theorem pad_splice (zs:List Int):splice (List.replicate 512 (0:Int)) 0 (zs.take 512)=pad zs:=by
 unfold splice pad
 rw [List.take_zero,List.nil_append,List.drop_replicate,List.length_take,Nat.zero_add,List.take_append,List.take_replicate]
 congr 2
 omega
theorem pad_step {zs:List Int} {k:Nat} {z:Int} (hk:k<512) (h:zs[k]?=some z):(pad (zs.take k)).set k z=pad (zs.take (k+1)):=by
 have hl:k<zs.length:=(List.getElem?_eq_some_iff.1 h).1
 have e:zs.take (k+1)=zs.take k++ [z]:=take_snoc' h
 apply List.ext_getElem?
 intro j
 have hk1:(zs.take k).length=k:=by rw [List.length_take];omega
 rw [List.getElem?_set]
 by_cases hj:k=j
 ·subst hj
  rw [if_pos rfl,pad_len,if_pos hk]
  unfold pad
  rw [List.getElem?_take,if_pos hk,e,List.append_assoc,List.getElem?_append_right (by omega),hk1,Nat.sub_self]
  rfl
 ·rw [if_neg hj]
  unfold pad
  rw [List.getElem?_take,List.getElem?_take]
  by_cases h5:j<512
  ·rw [if_pos h5,if_pos h5,e,List.append_assoc]
   by_cases hjk:j<k
   ·rw [List.getElem?_append_left (by omega),List.getElem?_append_left (by omega)]
   ·rw [List.getElem?_append_right (by omega),List.getElem?_append_right (by omega),hk1,List.getElem?_append_right (by simp;omega)]
    rw [List.getElem?_replicate,List.getElem?_replicate,List.length_singleton,if_pos (by omega),if_pos (by omega)]
  ·rw [if_neg h5,if_neg h5]
theorem pad_take (zs:List Int):pad (zs.take 512)=pad zs:=by
 unfold pad
 by_cases h:zs.length≤512
 ·rw [List.take_of_length_le h]
 ·rw [List.take_append_of_le_length (by rw [List.length_take];omega),List.take_append_of_le_length (by omega),List.take_take,Nat.min_self]
theorem pad_most {zs:List Int} {k:Nat} (h:k=zs.length∨k=512) (hk:k≤zs.length):pad (zs.take k)=pad zs:=by
 rcases h with rfl|rfl
 ·rw [List.take_length]
 ·exact pad_take zs
theorem splice_step {zs a:List Int} {o:Nat} {v:Int} (h:o+a.length<zs.length):(splice zs o a).set (o+a.length) v=splice zs o (a++ [v]):=by
 unfold splice
 have h1:(zs.take o).length=o:=by rw [List.length_take];omega
 rw [List.set_append_right _ _ (by omega),h1,Nat.add_sub_cancel_left,List.set_append_right _ _ (Nat.le_refl _),Nat.sub_self,List.length_append,List.length_singleton]
 congr 1
 rw [List.append_assoc]
 congr 1
 obtain ⟨x,l,hx⟩: ∃ x l,zs.drop (o+a.length)=x::l:=by
  cases hd:zs.drop (o+a.length) with
  |nil=>rw [List.drop_eq_nil_iff] at hd;omega
  |cons x l=>exact ⟨x,l,rfl⟩
 rw [hx,List.set_cons_zero,show o+(a.length+1)=o+a.length+1 by omega,←List.drop_drop,hx]
 rfl
theorem splice_nil (zs:List Int) (o:Nat):splice zs o []=zs:=by unfold splice;simp
theorem splice_len {zs a:List Int} {o:Nat} (h:o+a.length≤zs.length):(splice zs o a).length=zs.length:=length_splice zs o a h
theorem oct7_len (n:Int):(oct n 7).length=7:=listOf_len _ _
theorem oct8_len (n:Int):(oct n 7++ [32]).length=8:=by rw [List.length_append,oct7_len];rfl
theorem oct_bd (n:Int) (N:Nat): ∀ z∈oct n N,0≤z∧z≤255:=by
 intro z hz
 obtain ⟨j,_,rfl⟩:=List.mem_map.1 hz
 exact octG_bd n N j
theorem oct8_bd (n:Int): ∀ z∈oct n 7++ [32],0≤z∧z≤255:=by
 intro z hz
 rcases List.mem_append.1 hz with h|h
 ·exact oct_bd n 7 z h
 ·rw [List.mem_singleton.1 h];decide
theorem splice_bd {zs a:List Int} {o:Nat} (h: ∀ z∈zs,0≤z∧z≤255) (ha: ∀ z∈a,0≤z∧z≤255): ∀ z∈splice zs o a,0≤z∧z≤255:=by
 intro z hz
 unfold splice at hz
 rcases List.mem_append.1 hz with h1|h1
 ·exact h z (List.mem_of_mem_take h1)
 ·rcases List.mem_append.1 h1 with h2|h2
  ·exact ha z h2
  ·exact h z (List.mem_of_mem_drop h2)
theorem sld_len (zs:List Int):(sld zs).length=512:=by unfold sld;rw [splice_len (by rw [oct8_len,pad_len];omega),pad_len]
theorem sld_bd {zs:List Int} (h: ∀ z∈zs,0≤z∧z≤255): ∀ z∈sld zs,0≤z∧z≤255:=splice_bd (pad_bd h) (oct8_bd _)
theorem uns_pad_bd {zs:List Int} (h: ∀ z∈zs,0≤z∧z≤255):0≤uns (pad zs)∧uns (pad zs)≤130560:=by
 have:=tot_cu_bd 0 (pad_bd h)
 rw [pad_len] at this
 unfold uns
 omega
theorem fits7 {n:Int} (h:0≤n) (h':n≤262143):octFits n 7=true∧n/8^6=0∧octR n 7=oct n 7:=by
 have hz:n/8^6=0:=by
  rw [show (8:Int)^6=262144 from by decide]
  omega
 have hf:octFits n 7=true:=by
  unfold octFits most
  rw [show (7:Int).toNat - 1=6 from rfl,hz]
  simp
  omega
 refine ⟨hf,hz, ?_⟩
 unfold octR
 rw [hf]
 rfl
end M
end Go.Proofs.YtgbgngdakkiclaaGreatDoor.Hd

/-! KhNumRead -/
namespace Go.Proofs.YtgbgngdakkiclaaGreatDoor.Hd
open Go.RowKit Go.Lib
theorem elem22:Tryz.prog.elem 22=5:=by kernel_rfl
theorem cells5:(Tryz.prog.info? 5).map (·.size)=some 1:=by kernel_rfl
theorem slice_from (w:World) (a:Option Addr) (len cap:Nat) (kl:IntKind) (l:Int) (h0:0≤l) (h1:l≤len):
  (Instr.slice 22 (.slice a len cap) (some (.int kl l)) none none).run Tryz.prog w= .ok (.slice (cutA a cap l.toNat) (len - l.toNat) (cap - l.toNat)) w:=by
 have ht:Tryz.prog.underlying 22=some (.slice (Tryz.prog.elem 22)):=by rw [elem22];exact Tryz.underlying22
 rw [run_slice_l w 22 a len cap ht kl l h0 h1,elem22]
 have hs:(sizeOf 5).run Tryz.prog w= .ok 1 w:=by
  obtain ⟨i,hi,hz⟩:=Option.map_eq_some_iff.1 cells5
  simp [sizeOf,typeInfo,hi,hz]
 rw [hs]
 simp [Result.andThen,sliced,cutA]
attribute [local go_sem ↓] slice_from
theorem marked_no (A:Option Addr) (n c:Nat) (zs:List Int) (w:World) (B:Nat) (hr:Rd w B A n zs) (hn:n≤maxLen) (hm:M.marked zs=false):
  Calls Tryz.prog 214 #[.slice A n c] w fun e w'=>e= .returned (.bool false)∧w=w':=by
 unfold maxLen at hn
 cases zs with
 |nil=>
  obtain rfl:n=0:=hr.len.symm
  clear hm
  go_enter Tryz.func214,Tryz.ntmps214
  go_wp2
  go_ret
  exact ⟨rfl,rfl⟩
 |cons z l=>
  have h0:0<n:=by have:=hr.len;simp at this;omega
  obtain ⟨b,off,z',rfl,hb,hz0,hz1,hzk,hc⟩:=hr.at_ h0
  obtain rfl:z=z':=by simpa using hzk
  have hz:decide (128≤z)=false:=by simpa [M.marked] using hm
  clear hm hzk
  rw [Nat.add_zero] at hc
  go_enter Tryz.func214,Tryz.ntmps214
  go_wp2
  go_ret
  exact ⟨rfl,rfl⟩
theorem marked_yes (A:Option Addr) (n c:Nat) (zs:List Int) (w:World) (B:Nat) (hr:Rd w B A n zs) (hn:n≤maxLen) (hm:M.marked zs=true):
  Calls Tryz.prog 214 #[.slice A n c] w fun e w'=>e= .returned (.bool true)∧w=w':=by
 unfold maxLen at hn
 cases zs with
 |nil=>simp [M.marked] at hm
 |cons z l=>
  have h0:0<n:=by have:=hr.len;simp at this;omega
  obtain ⟨b,off,z',rfl,hb,hz0,hz1,hzk,hc⟩:=hr.at_ h0
  obtain rfl:z=z':=by simpa using hzk
  have hz:128≤z:=by simpa [M.marked] using hm
  clear hm hzk
  rw [Nat.add_zero] at hc
  go_enter Tryz.func214,Tryz.ntmps214
  go_wp2
  go_ret
  exact ⟨rfl,rfl⟩
theorem width_yes (n:Int) (w:World) (h1:2≤n) (h2:n≤32):Calls Tryz.prog 155 #[.int .i64 n] w fun e w'=>e= .returned (.bool true)∧w=w':=by
 go_enter Tryz.func155,Tryz.ntmps155
 go_wp2
 go_ret
 exact ⟨rfl,rfl⟩
theorem width_no (n:Int) (w:World) (h:n<2∨32<n):Calls Tryz.prog 155 #[.int .i64 n] w fun e w'=>e= .returned (.bool false)∧w=w':=by
 rcases h with h|h
 ·go_enter Tryz.func155,Tryz.ntmps155
  go_wp2
  go_ret
  exact ⟨rfl,rfl⟩
 ·have h':2≤n:=by omega
  have h'':decide (n≤32)=false:=by simp;omega
  go_enter Tryz.func155,Tryz.ntmps155
  go_wp2
  go_ret
  exact ⟨rfl,rfl⟩
end Go.Proofs.YtgbgngdakkiclaaGreatDoor.Hd

/-! KhHSumCount -/
namespace Go.Proofs.YtgbgngdakkiclaaGreatDoor.Hd
open Go.RowKit Go.Lib
set_option maxHeartbeats 400000 in
theorem counted_any (A:Option Addr) (n c:Nat) (zs:List Int) (w:World) (B:Nat) (hr:Rd w B A n zs) (hn:n≤maxLen) (k:Nat) (z:Int) (hk:zs[k]?=some z):
  Calls Tryz.prog 170 #[.slice A n c, .int .i64 k] w fun e w'=>e= .returned (.int .u8 (M.cu k z))∧w=w':=by
 unfold maxLen at hn
 have hkn:k<n:=by rw [←hr.len];exact (List.getElem?_eq_some_iff.1 hk).1
 obtain ⟨b,off,z',rfl,hb,hz0,hz1,hzk,hc⟩:=hr.at_ hkn
 obtain rfl:z=z':=by rw [hk] at hzk;injection hzk
 clear hk hzk hb hr
 have hik:(0:Int)≤k:=by omega
 by_cases h1:k<148
 ·have e1:decide ((148:Int)≤k)=false:=by rw [decide_eq_false_iff_not];omega
  have HV:=hid (M.cu_out (i:=k) (z:=z) (.inl h1))
  go_enter Tryz.func170,Tryz.ntmps170
  go_wp2
  go_ret
  exact ⟨ret_int HV.out.symm,rfl⟩
 ·by_cases h2:k<156
  ·have e1:decide ((148:Int)≤k)=true:=by rw [decide_eq_true_eq];omega
   have e2:decide ((k:Int)<156)=true:=by rw [decide_eq_true_eq];omega
   have HV:=hid (M.cu_in (i:=k) (z:=z) (by omega) h2)
   go_enter Tryz.func170,Tryz.ntmps170
   go_wp2
   go_ret
   exact ⟨ret_int HV.out.symm,rfl⟩
  ·have e1:decide ((148:Int)≤k)=true:=by rw [decide_eq_true_eq];omega
   have e2:decide ((k:Int)<156)=false:=by rw [decide_eq_false_iff_not];omega
   have HV:=hid (M.cu_out (i:=k) (z:=z) (.inr (by omega)))
   go_enter Tryz.func170,Tryz.ntmps170
   go_wp2
   go_ret
   exact ⟨ret_int HV.out.symm,rfl⟩
set_option maxHeartbeats 400000 in
theorem unsignedFn_any (A:Option Addr) (n c:Nat) (zs:List Int) (w:World) (B:Nat) (hr:Rd w B A n zs) (hn:n≤maxLen) (k:Nat) (z:Int) (hk:zs[k]?=some z) (p:Addr) (hp:w.cell? p=some (.slice A n c)):
  Calls Tryz.prog 169 #[.int .i64 k, .pointer (some p)] w fun e w'=>e= .returned (.int .i64 (M.cu k z))∧w=w':=by
 have HC:=hid (counted_any A n c zs w B hr hn k z hk)
 have hb:=M.cu_bd (i:=k) (hr.bd z (List.mem_of_getElem? hk))
 obtain ⟨hb0,hb1⟩:=hb
 clear hr hk
 generalize M.cu k z=v at*
 go_enter Tryz.func169,Tryz.ntmps169
 go_wp2_with fail
 (with_reducible refine HC.out.mono ?_)
 rintro e w' ⟨rfl,rfl⟩
 go_wp2
 go_ret
 exact ⟨rfl,rfl⟩
set_option maxHeartbeats 800000 in
theorem unsignedTog_any (A:Option Addr) (n c:Nat) (zs:List Int) (w:World) (B:Nat) (hr:Rd w B A n zs) (hs:n≤65536) (p:Addr) (hp:w.cell? p=some (.slice A n c)):
  Calls Tryz.prog 168 #[.int .i64 n, .func (.func 169) #[] #[.pointer (some p)]] w fun e w'=>e= .returned (.int .i64 (M.tot M.cu 0 zs))∧w=w':=by
 have HF:=hid (fun (k:Nat) (z:Int) (hk:zs[k]?=some z)=>unsignedFn_any A n c zs w B hr (by unfold maxLen;omega) k z hk p hp)
 have HL:=hid hr.len
 have HB:=hid hr.bd
 clear hr hp
 go_enter Tryz.func168,Tryz.ntmps168
 go_wp2
 go_loop [5,8] (fun v i=> ∃ k:Nat,k≤n∧i= .int .i64 k∧v= .int .i64 (M.tot M.cu 0 (zs.take k))) (fun _ i=>n - (intOf i).toNat)
 case atStart=>exact ⟨0,Nat.zero_le _,rfl,by rw [List.take_zero];rfl⟩
 case round=>
  obtain ⟨k,hk,rfl,rfl⟩:=hrel
  by_cases hlt:k<n
  ·obtain ⟨z,hz⟩: ∃ z,zs[k]?=some z:=⟨zs[k]'(by rw [HL.out];exact hlt),List.getElem?_eq_getElem _⟩
   have HZ:=hid hz
   have HC:=hid (HF.out k z hz)
   have HT:=hid (M.tot_take M.cu hz)
   have hzb:=HB.out z (List.mem_of_getElem? hz)
   have hqb:=M.cu_bd (i:=k) hzb
   have hb:=M.tot_cu_bd (zs:=zs.take k) 0 (fun x hx=>HB.out x (List.mem_of_mem_take hx))
   have hl:(zs.take k).length≤k:=List.length_take_le _ _
   obtain ⟨hs0,hs1⟩:=hqb
   obtain ⟨hb0,hb1⟩:=hb
   clear hz hzb
   generalize M.cu k z=q at*
   generalize M.tot M.cu 0 (zs.take k)=v at*
   have hv0: -8388608≤v:=by omega
   have hv1:v≤16711680:=by omega
   clear hb0 hb1
   generalize (zs.take k).length=m at*
   go_wp2_with fail
   (with_reducible refine HC.out.mono ?_)
   rintro e w' ⟨rfl,rfl⟩
   go_wp2
   go_round
   case rel=>exact ⟨k+1,by omega,by go_num,by rw [HT.out]⟩
   case measure=>simp [intOf];omega
  ·obtain rfl:k=n:=by omega
   have hall:zs.take k=zs:=List.take_of_length_le (by rw [HL.out];exact Nat.le_refl _)
   rw [hall]
   clear hall
   go_wp2
   go_ret
   exact ⟨rfl,rfl⟩
end Go.Proofs.YtgbgngdakkiclaaGreatDoor.Hd

/-! KhNumOctal -/
namespace Go.Proofs.YtgbgngdakkiclaaGreatDoor.Hd
open Go.RowKit Go.Lib
attribute [local go_sem ↓] slice_from
theorem ofInt_i64 (a:Nat) (ha:a<9223372036854775808):(BitVec.ofInt 64 (a:Int)).toNat=a:=by
 rw [BitVec.ofInt_natCast,BitVec.toNat_ofNat];exact Nat.mod_eq_of_lt (by omega)
theorem i64_or_256 (x y:Int) (h0:0≤y) (h1:y<256) (hx: -9223372036854775808≤256*x) (hx':256*x+y<9223372036854775808):
  bits .or .i64 (256*x) y=256*x+y:=by
 obtain ⟨y,rfl⟩:=Int.eq_ofNat_of_zero_le h0
 have ey:(BitVec.ofInt 64 ((y:Nat):Int)).toNat=y:=ofInt_i64 y (by omega)
 have ex:(BitVec.ofInt 64 (256*x)).toNat=2^8*(((256*x)%18446744073709551616).toNat/256):=by
  rw [BitVec.toNat_ofInt]
  show ((256*x)%18446744073709551616).toNat=_
  omega
 show IntKind.i64.wrap ((BitVec.ofInt 64 (256*x)|||BitVec.ofInt 64 (y:Int)).toNat:Int)=_
 rw [BitVec.toNat_or,ex,ey,←Nat.two_pow_add_eq_or_of_lt (by omega),IntKind.wrap_i64]
 omega
theorem ret2_eq {a a':Int} {b b':Bool} (h:a=a') (h':b=b'):Ending.returned (.tuple #[.int .i64 a, .bool b])= .returned (.tuple #[.int .i64 a', .bool b']):=by rw [h,h']
end Go.Proofs.YtgbgngdakkiclaaGreatDoor.Hd

/-! KhNumBinary -/
namespace Go.Proofs.YtgbgngdakkiclaaGreatDoor.Hd
open Go.RowKit Go.Lib
attribute [local go_sem ↓] slice_from
theorem first_of (z:Int) (h:128≤z) (h':z≤255):wrap64 (IntKind.i8.wrap (z*2%256)/2)=M.first z:=by
 obtain ⟨n,rfl⟩:=Int.eq_ofNat_of_zero_le (by omega:0≤z)
 have h1:n<256:=by omega
 have h2:128≤n:=by omega
 clear h h'
 have: ∀ m:Fin 256,128≤m.val→wrap64 (IntKind.i8.wrap ((m.val:Int)*2%256)/2)=M.first (m.val:Int):=by decide+kernel
 exact this ⟨n,h1⟩ h2
theorem first_lo (z:Int) (h:128≤z) (h':z≤255): -64≤M.first z:=by unfold M.first;split<;>omega
theorem first_hi (z:Int) (h:128≤z) (h':z≤255):M.first z≤63:=by unfold M.first;split<;>omega
set_option maxHeartbeats 400000 in
theorem binary_any (A:Option Addr) (n c:Nat) (zs:List Int) (w:World) (B:Nat) (hr:Rd w B A n zs) (hn:n≤c) (hc:c≤maxLen):
  Calls Tryz.prog 195 #[.slice A n c] w fun e w'=>e= .returned (.tuple #[.int .i64 (M.binN zs), .bool (M.binOk zs)])∧w=w':=by
 have hm:n≤maxLen:=Nat.le_trans hn hc
 cases hmk:M.marked zs with
 |false=>
  have HM:=hid (marked_no A n c zs w B hr hm hmk)
  have hno:M.binOk zs=false:=by simp [M.binOk,hmk]
  have HO:=hid hno
  have HN:=hid (M.binN_no hno)
  clear hmk hno
  go_enter Tryz.func195,Tryz.ntmps195
  go_wp2_with fail
  (with_reducible refine HM.out.mono ?_)
  rintro e w' ⟨rfl,rfl⟩
  go_wp2
  go_ret2
  exact ⟨ret2_eq (by rw [HN.out]) (by rw [HO.out]),rfl⟩
 |true=>
  have HM:=hid (marked_yes A n c zs w B hr hm hmk)
  match zs,hmk with
  |z::l,hmk=>
  have hz:128≤z:=by simpa [M.marked] using hmk
  clear hmk
  have h0:0<n:=by have:=hr.len;simp at this;omega
  have hr1:=hr.cut (k:=1) (by omega) hn
  simp only [List.drop_succ_cons,List.drop_zero] at hr1
  have hlb:=hr1.bd
  have hll:=hr1.len
  obtain ⟨b,off,z',hA,hbB,hz0,hz1,hzk,hcz⟩:=hr.at_ h0
  obtain rfl:z=z':=by simpa using hzk
  clear hzk
  rw [Nat.add_zero] at hcz
  clear hr
  subst hA
  unfold maxLen at hm hc
  have h1:(1:Int)≤(n:Int):=by omega
  have HLB:=hid hlb
  have HLL:=hid hll
  clear hlb hll
  go_enter Tryz.func195,Tryz.ntmps195
  go_wp2_with fail
  (with_reducible refine HM.out.mono ?_)
  rintro e w' ⟨rfl,rfl⟩
  go_wp2
  rw [first_of z hz hz1]
  have hf0:=first_lo z hz hz1
  have hf1:=first_hi z hz hz1
  go_loop [4,20] (fun v i=> ∃ k:Nat,k≤n - 1∧i= .int .i64 k∧v= .int .i64 (M.bits z (l.take k))∧ -M.most≤M.bits z (l.take k)∧M.bits z (l.take k)≤M.most+255) (fun _ i=>n - 1 - (intOf i).toNat)
  case atStart=>exact ⟨0,Nat.zero_le _,rfl,rfl,by show _≤M.first z;unfold M.most;omega,by show M.first z≤_;unfold M.most;omega⟩
  case round=>
   obtain ⟨k,hk,rfl,rfl,hv0,hv1⟩:=hrel
   by_cases hlt:k<n - 1
   ··obtain ⟨b',off',y,hA',hbB',hy0,hy1,hyk,hcy⟩:=hr1.at_ hlt
     have eA:cutA (some ⟨b,off,none⟩) c 1=some ⟨b,off+1,none⟩:=by
      unfold cutA
      rw [if_neg (by omega)]
      rfl
     rw [eA] at hA'⊢
     injection hA' with hA'
     injection hA' with h1' h2'
     subst h1'
     subst h2'
     clear eA
     have HZ:Hid (M.bits z (l.take (k+1))=256*M.bits z (l.take k)+y):=hid (by rw [M.take_snoc' hyk,M.bits_snoc])
     clear hyk
     have HST:=hid (fun h=>M.bits_stop (z:=z) (l:=l) (k:=k) (by have:=HLL.out;omega) HLB.out h)
     generalize hval:M.bits z (l.take k)=v at*
     have HV:=hid hval
     clear hval
     unfold M.most at hv0 hv1
     by_cases hst:18014398509481984<v
     ·have hno:M.binOk (z::l)=false:=by
       unfold M.binOk
       rcases HST.out (.inl hst) with h|h
       ·rw [show decide (M.binV (z::l)≤M.most)=false by rw [decide_eq_false_iff_not];show ¬ M.bits z l≤_;omega];simp
       ·rw [show decide (-M.most≤M.binV (z::l))=false by rw [decide_eq_false_iff_not];show ¬ _≤M.bits z l;omega];simp
      have HO:=hid hno
      have HN:=hid (M.binN_no hno)
      clear hno
      go_wp2
      go_ret2
      exact ⟨ret2_eq (by rw [HN.out]) (by rw [HO.out]),rfl⟩
     ·by_cases hst':v< -18014398509481984
      ·have hno:M.binOk (z::l)=false:=by
        unfold M.binOk
        rcases HST.out (.inr hst') with h|h
        ·rw [show decide (M.binV (z::l)≤M.most)=false by rw [decide_eq_false_iff_not];show ¬ M.bits z l≤_;omega];simp
        ·rw [show decide (-M.most≤M.binV (z::l))=false by rw [decide_eq_false_iff_not];show ¬ _≤M.bits z l;omega];simp
       have HO:=hid hno
       have HN:=hid (M.binN_no hno)
       clear hno
       go_wp2
       go_ret2
       exact ⟨ret2_eq (by rw [HN.out]) (by rw [HO.out]),rfl⟩
      ·have e1:decide (v< -18014398509481984)=false:=by simpa using hst'
       go_wp2
       have he:bits .or .i64 (v*256) y=256*v+y:=by
        rw [Int.mul_comm]
        exact i64_or_256 v y (by omega) (by omega) (by omega) (by omega)
       go_round
       case rel=>exact ⟨k+1,by omega,by go_num,by rw [he,HZ.out],by rw [HZ.out];unfold M.most;omega,by rw [HZ.out];unfold M.most;omega⟩
       case measure=>simp [intOf];omega
   ·have hall:l.take k=l:=List.take_of_length_le (by have:=HLL.out;omega)
    rw [hall] at hv0 hv1⊢
    clear hall
    have hbv:M.binV (z::l)=M.bits z l:=rfl
    have hmk:M.marked (z::l)=true:=by simpa [M.marked] using hz
    by_cases hend:M.most<M.bits z l
    ·have hno:M.binOk (z::l)=false:=by
      unfold M.binOk
      rw [hbv,show decide (M.bits z l≤M.most)=false by rw [decide_eq_false_iff_not];omega]
      simp
     have HO:=hid hno
     have HN:=hid (M.binN_no hno)
     clear hno hbv hmk
     generalize M.bits z l=v at*
     unfold M.most at hv0 hv1 hend
     go_wp2
     go_ret2
     exact ⟨ret2_eq (by rw [HN.out]) (by rw [HO.out]),rfl⟩
    ·have hyes:M.binOk (z::l)=true:=by
      unfold M.binOk
      rw [hbv,hmk,show decide (M.bits z l≤M.most)=true by rw [decide_eq_true_eq];omega,show decide (-M.most≤M.bits z l)=true by rw [decide_eq_true_eq];omega]
      rfl
     have HO:=hid hyes
     have HN:=hid (M.binN_yes hyes)
     rw [hbv] at HN
     clear hyes hbv hmk
     generalize M.bits z l=v at*
     unfold M.most at hv0 hv1 hend
     go_wp2
     go_ret2
     exact ⟨ret2_eq (by rw [HN.out]) (by rw [HO.out]),rfl⟩
theorem firstRef_lo (z:Int) (h:192≤z):z - 128 - 128=M.first z:=by unfold M.first;rw [if_neg (by omega)];omega
theorem firstRef_hi (z:Int) (h:z<192):z - 128=M.first z:=by unfold M.first;rw [if_pos h]
theorem binOk_end (z:Int) (l:List Int) (hz:128≤z):M.binOk (z::l)=(decide (-4611686018427387904≤M.bits z l)&&decide (M.bits z l≤4611686018427387904)):=by
 show (decide (128≤z)&&_)=_
 rw [show decide (128≤z)=true by simpa using hz]
 rfl
set_option maxHeartbeats 800000 in
theorem binaryRef_any (A:Option Addr) (n c:Nat) (zs:List Int) (w:World) (B:Nat) (hr:Rd w B A n zs) (hn:n≤c) (hc:c≤maxLen):
  Calls Tryz.prog 151 #[.slice A n c] w fun e w'=>e= .returned (.tuple #[.int .i64 (M.binN zs), .bool (M.binOk zs)])∧w=w':=by
 have hm:n≤maxLen:=Nat.le_trans hn hc
 unfold maxLen at hm hc
 match zs with
 | []=>
   obtain rfl:n=0:=hr.len.symm
   clear hr
   go_enter Tryz.func151,Tryz.ntmps151
   go_wp2
   go_ret2
   exact ⟨ret2_eq rfl rfl,rfl⟩
 |z::l=>
 have h0:0<n:=by have:=hr.len;simp at this;omega
 have hlb:=hr.bd
 have hll:l.length+1=n:=by have:=hr.len;simpa using this
 obtain ⟨b,off,z',hA,hbB,hz0,hz1,hzk,hcz⟩:=hr.at_ h0
 obtain rfl:z=z':=by simpa using hzk
 clear hzk
 rw [Nat.add_zero] at hcz
 subst hA
 have HLB:Hid (∀ c∈l,0≤c∧c≤255):=hid fun c hc=>hlb c (by simp [hc])
 have HLL:=hid hll
 clear hlb hll
 have hn0:((n:Int)==0)=false:=by simp;omega
 by_cases hz:z<128
 ·have hno:M.binOk (z::l)=false:=by
   have:M.marked (z::l)=false:=by simp [M.marked];omega
   simp [M.binOk,this]
  have HO:=hid hno
  have HN:=hid (M.binN_no hno)
  clear hno
  have hd:decide (z<128)=true:=by simpa using hz
  go_enter Tryz.func151,Tryz.ntmps151
  go_wp2
  go_ret2
  exact ⟨ret2_eq (by rw [HN.out]) (by rw [HO.out]),rfl⟩
 ·have hd:decide (z<128)=false:=by simpa using hz
  have HOE:=hid (binOk_end z l (by omega))
  have hf0:=first_lo z (by omega) hz1
  have hf1:=first_hi z (by omega) hz1
  by_cases h192:z<192
  case' pos=>
   have HF:=hid (firstRef_hi z h192)
   have h64:z - 128<64:=by omega
   clear h192
   go_enter Tryz.func151,Tryz.ntmps151
   go_wp2
   rw [HF.out]
  case' neg=>
   have HF:=hid (firstRef_lo z (by omega))
   have h64:64≤z - 128:=by omega
   clear h192
   go_enter Tryz.func151,Tryz.ntmps151
   go_wp2
   rw [HF.out]
  all_goals
   clear h64 hd
   go_loop [4,5] (fun v i=> ∃ k:Nat,k≤n - 1∧i= .int .i64 ((k+1:Nat):Int)∧v= .int .i64 (M.bits z (l.take k))∧ -M.most - 256≤M.bits z (l.take k)∧M.bits z (l.take k)≤M.most+255) (fun _ i=>n - (intOf i).toNat)
   case atStart=>exact ⟨0,Nat.zero_le _,rfl,rfl,by show _≤M.first z;unfold M.most;omega,by show M.first z≤_;unfold M.most;omega⟩
   case round=>
    obtain ⟨k,hk,rfl,rfl,hv0,hv1⟩:=hrel
    by_cases hlt:k<n - 1
    ·obtain ⟨b',off',y,hA',hbB',hy0,hy1,hyk,hcy⟩:=hr.at_ (k:=k+1) (by omega)
     injection hA' with hA'
     injection hA' with h1' h2'
     subst h1'
     subst h2'
     have hyk':l[k]?=some y:=by simpa using hyk
     have HZ:Hid (M.bits z (l.take (k+1))=256*M.bits z (l.take k)+y):=hid (by rw [M.take_snoc' hyk',M.bits_snoc])
     clear hyk hyk'
     have HST:=hid (fun h=>M.bits_stop (z:=z) (l:=l) (k:=k) (by have:=HLL.out;omega) HLB.out h)
     generalize hval:M.bits z (l.take k)=v at*
     have HV:=hid hval
     clear hval
     unfold M.most at hv0 hv1
     by_cases hst:18014398509481984<v∨v< -18014398509481985
     ·have hno:M.binOk (z::l)=false:=by
       rw [HOE.out]
       rcases HST.out (by omega) with h|h
       ·unfold M.most at h
        rw [show decide (M.bits z l≤4611686018427387904)=false by rw [decide_eq_false_iff_not];omega];simp
       ·unfold M.most at h
        rw [show decide (-4611686018427387904≤M.bits z l)=false by rw [decide_eq_false_iff_not];omega];simp
      have HO:=hid hno
      have HN:=hid (M.binN_no hno)
      clear hno
      rcases hst with hst|hst
      ·go_wp2
       go_ret2
       exact ⟨ret2_eq (by rw [HN.out]) (by rw [HO.out]),rfl⟩
      ·have hst': ¬ 18014398509481984<v:=by omega
       have e1:decide (v< -18014398509481985)=true:=by simpa using hst
       go_wp2
       go_ret2
       exact ⟨ret2_eq (by rw [HN.out]) (by rw [HO.out]),rfl⟩
     ·have hst': ¬ 18014398509481984<v:=by omega
      have hst'': -18014398509481985≤v:=by omega
      have e1:decide (v< -18014398509481985)=false:=by simpa using hst''
      clear hst
      go_wp2
      go_round
      case rel=>exact ⟨k+1,by omega,by go_num,by rw [HZ.out],by rw [HZ.out];unfold M.most;omega,by rw [HZ.out];unfold M.most;omega⟩
      case measure=>simp [intOf];omega
    ·have hall:l.take k=l:=List.take_of_length_le (by have:=HLL.out;omega)
     rw [hall] at hv0 hv1⊢
     clear hall
     have hbv:M.binV (z::l)=M.bits z l:=rfl
     have HBV:=hid hbv
     clear hbv
     generalize M.bits z l=v at*
     unfold M.most at hv0 hv1
     by_cases hend:4611686018427387904<v
     ·have hno:M.binOk (z::l)=false:=by
       rw [HOE.out,show decide (v≤4611686018427387904)=false by rw [decide_eq_false_iff_not];omega]
       simp
      have HO:=hid hno
      have HN:=hid (M.binN_no hno)
      clear hno
      go_wp2
      go_ret2
      exact ⟨ret2_eq (by rw [HN.out]) (by rw [HO.out]),rfl⟩
     ·by_cases hend':v< -4611686018427387904
      ·have hno:M.binOk (z::l)=false:=by
        rw [HOE.out,show decide (-4611686018427387904≤v)=false by rw [decide_eq_false_iff_not];omega]
        simp
       have HO:=hid hno
       have HN:=hid (M.binN_no hno)
       clear hno
       have e1:decide (v< -4611686018427387904)=true:=by simpa using hend'
       go_wp2
       go_ret2
       exact ⟨ret2_eq (by rw [HN.out]) (by rw [HO.out]),rfl⟩
      ·have hyes:M.binOk (z::l)=true:=by
        rw [HOE.out,show decide (v≤4611686018427387904)=true by rw [decide_eq_true_eq];omega,show decide (-4611686018427387904≤v)=true by rw [decide_eq_true_eq];omega]
        rfl
       have HO:=hid hyes
       have HN:=hid (M.binN_yes hyes)
       rw [HBV.out] at HN
       clear hyes
       have e1:decide (v< -4611686018427387904)=false:=by simpa using hend'
       go_wp2
       go_ret2
       exact ⟨ret2_eq (by rw [HN.out]) (by rw [HO.out]),rfl⟩
def parN (zs:List Int):Int:=if M.marked zs then M.binN zs else M.octN zs
def parOk (zs:List Int):Bool:=if M.marked zs then M.binOk zs else M.octOk zs
end Go.Proofs.YtgbgngdakkiclaaGreatDoor.Hd

/-! KhNumPut -/
namespace Go.Proofs.YtgbgngdakkiclaaGreatDoor.Hd
open Go.RowKit Go.Lib
attribute [local go_sem ↓] slice_from
theorem u8_info:(Tryz.prog.info? 5).map (fun i=>(i.zero,i.size,i.bytes))=some (some (.int .u8 0),1,1):=by kernel_rfl
def RowB (w:World) (b N:Nat) (g:Nat→Int):Prop:=w.rowIs b 5 N (fun j=> .int .u8 (g j))
section
variable {w w':World} {b N:Nat} {g h:Nat→Int}
theorem RowB.cell (r:RowB w b N g) {i:Nat} (hi:i<N):w.cell? ⟨b,i,none⟩=some (.int .u8 (g i)):=World.rowIs.cell r hi
theorem RowB.frozen (r:RowB w b N g) (i:Nat):w.frozen? ⟨b,i,none⟩=false:=World.rowIs.frozen r i
theorem RowB.lt (r:RowB w b N g):b<w.heap.size:=World.rowIs.lt r
theorem RowB.to (r:RowB w b N g) (e: ∀ i,i<N→g i=h i):RowB w b N h:=World.rowIs.congr r fun i hi=>by rw [e i hi]
theorem RowB.set (r:RowB w b N g) (i:Nat) (v:Int):RowB (w.setCell ⟨b,i,none⟩ (.int .u8 v)) b N (fun j=>if j=i then v else g j):=
 (World.rowIs.set r i (.int .u8 v)).congr fun j _=>by
  show (if j=i then _ else _)=Value.int .u8 (if j=i then v else g j)
  split<;>rfl
theorem RowB.made (w:World) (N:Nat):RowB (w.alloc (.cells (madeCells #[.int .u8 0] N) 5)) w.heap.size N (fun _=>0):=World.rowIs_made w _ N _
theorem RowB.rd (r:RowB w b N g) (hb: ∀ j,0≤g j∧g j≤255):Rd w w.heap.size (some ⟨b,0,none⟩) N (M.listOf g N):=by
 refine ⟨M.listOf_len g N, ?_,fun _=>⟨b,0,rfl,r.lt,fun j z hz=> ?_⟩⟩
 ·intro z hz
  obtain ⟨j,hj,rfl⟩:=List.getElem_of_mem hz
  obtain ⟨_,e⟩:=M.listOf_at (List.getElem?_eq_getElem hj)
  rw [←e]
  exact hb j
 ·obtain ⟨hj,rfl⟩:=M.listOf_at hz
  rw [Nat.zero_add]
  exact r.cell hj
end
def PutPost (w:World) (ok:Bool) (zs:List Int) (e:Ending) (w':World):Prop:=
 ∃ A N,e= .returned (.tuple #[.slice A N N, .bool ok])∧Rd w' w'.heap.size A N zs∧Below w.heap.size w w'
theorem PutPost.none_ {w w':World} (h:Below w.heap.size w w'):PutPost w false [] (.returned (.tuple #[.slice none 0 0, .bool false])) w':=
 ⟨none,0,rfl,Rd.none_,h⟩
theorem and7 (v:Int) (h0:0≤v) (h1:v≤4611686018427387904):bits .and .i64 v 7=v%8:=by
 obtain ⟨v,rfl⟩:=Int.eq_ofNat_of_zero_le h0
 have hx:v&&&7=v%8:=Nat.and_two_pow_sub_one_eq_mod v 3
 show IntKind.i64.wrap ((BitVec.ofInt 64 (v:Int)&&&BitVec.ofInt 64 7).toNat:Int)=_
 rw [BitVec.toNat_and,ofInt_i64 v (by omega),show (BitVec.ofInt 64 7).toNat=7 from rfl,hx,IntKind.wrap_i64]
 omega
set_option maxHeartbeats 400000 in
theorem putOctal_go (n:Int) (N:Nat) (w:World) (h1:2≤N) (h2:N≤32) (h3:0≤n) (h4:n≤4611686018427387904):
  Calls Tryz.prog 130 #[.int .i64 n, .int .i64 N] w (PutPost w (M.octFits n N) (M.octR n N)):=by
 have HW:=hid (width_yes N w (by omega) (by omega))
 have e1:decide (n<0)=false:=by simpa using h3
 have e2:decide (4611686018427387904<n)=false:=by simpa using h4
 have hmk:=run_make_row' (P:=Tryz.prog) 22 5 (.int .u8 0) 1 Tryz.underlying22 u8_info rfl .i64 .i64 N (by omega) (by omega)
 go_enter Tryz.func130,Tryz.ntmps130
 go_wp2_with fail
 (with_reducible refine HW.out.mono ?_)
 rintro e w' ⟨rfl,rfl⟩
 go_wp2
 clear hmk e1 e2
 go_loopw [0,23] (fun v i wr=> ∃ k:Nat,k≤N - 1∧i= .int .i64 k∧v= .int .i64 (n/8^k)∧RowB wr w.heap.size N (M.octC n N k)∧Below w.heap.size w wr) (fun _ i _=>N - 1 - (intOf i).toNat)
 case atStart=>exact ⟨0,Nat.zero_le _,rfl,by simp,(RowB.made w N).to fun i _=>(M.octC_zero n N i).symm,(Below.refl _ _).alloc (Nat.le_refl _) _⟩
 case round=>
  obtain ⟨k,hk,rfl,rfl,hrow,hbel⟩:=hrel
  have hv0:=M.shr8_nonneg h3 k
  have hv1:=M.shr8_le h3 k
  by_cases hlt:k<N - 1
  ·have hc:=hrow.cell (i:=N - 2 - k) (by omega)
   have hf:=hrow.frozen (N - 2 - k)
   have HS:=hid (M.shr8_succ n k)
   generalize hval:n/8^k=v at*
   have HV:=hid hval
   clear hval
   have HA:=hid (and7 v hv0 (by omega))
   go_wp2
   have he:(48+bits .and .i64 v 7)%256=48+v%8:=by rw [HA.out];omega
   rw [he]
   go_roundw
   case rel=>
    refine ⟨k+1,by omega,by go_num,by rw [HS.out],(hrow.set _ _).to fun j _=> ?_,hbel.setCell (Nat.le_refl _) _⟩
    rw [←HV.out]
    exact M.octC_succ n N k j hlt
   case measure=>simp [intOf];omega
  ·obtain rfl:k=N - 1:=by omega
   have hrow':RowB wr w.heap.size N (M.octG n N):=hrow.to fun j _=>M.octC_end n N j
   clear hrow hlt hk
   have hfits:M.octFits n N=decide (n/8^(N - 1)=0):=by
    unfold M.octFits M.most
    rw [show decide ((2:Int)≤N)=true by simp;omega,show decide ((N:Int)≤32)=true by simp;omega,show decide (0≤n)=true by simpa using h3,
     show decide (n≤4611686018427387904)=true by simpa using h4,Int.toNat_natCast]
    rfl
   by_cases hz:n/8^(N - 1)=0
   ·have hf:M.octFits n N=true:=by rw [hfits,hz];rfl
    have hR:M.octR n N=M.oct n N:=by unfold M.octR;rw [hf,Int.toNat_natCast];rfl
    have HF:=hid hf
    have HR:=hid hR
    clear hf hR hfits
    rw [hz]
    clear hz hv0 hv1
    go_wp2
    go_ret2
    rw [HF.out,HR.out]
    exact ⟨_,N,rfl,hrow'.rd (M.octG_bd n N),hbel⟩
   ·have hf:M.octFits n N=false:=by rw [hfits];simpa using hz
    have hR:M.octR n N= []:=by unfold M.octR;rw [hf];rfl
    have HF:=hid hf
    have HR:=hid hR
    clear hf hR hfits
    generalize n/8^(N - 1)=v at*
    have hz':(v !=0)=true:=by simpa using hz
    go_wp2
    go_ret2
    rw [HF.out,HR.out]
    exact PutPost.none_ hbel
theorem octFits_no {n wide:Int} (h: ¬ (2≤wide∧wide≤32∧0≤n∧n≤4611686018427387904)):M.octFits n wide=false:=by
 unfold M.octFits M.most
 by_cases h1:2≤wide
 ·by_cases h2:wide≤32
  ·by_cases h3:0≤n
   ·have h4: ¬ n≤4611686018427387904:=fun h4=>h ⟨h1,h2,h3,h4⟩
    simp [h4]
   ·simp [h3]
  ·simp [h2]
 ·simp [h1]
theorem octR_no {n wide:Int} (h:M.octFits n wide=false):M.octR n wide= []:=by unfold M.octR;rw [h];rfl
theorem binFits_no {n wide:Int} (h: ¬ (2≤wide∧wide≤32)):M.binFits n wide=false:=by
 unfold M.binFits
 by_cases h1:2≤wide
 ·have h2: ¬ wide≤32:=fun h2=>h ⟨h1,h2⟩
  simp [h2]
 ·simp [h1]
theorem binR_no {n wide:Int} (h:M.binFits n wide=false):M.binR n wide= []:=by unfold M.binR;rw [h];rfl
set_option maxHeartbeats 400000 in
theorem putOctal_any (n wide:Int) (w:World):
  Calls Tryz.prog 130 #[.int .i64 n, .int .i64 wide] w (PutPost w (M.octFits n wide) (M.octR n wide)):=by
 by_cases h:2≤wide∧wide≤32∧0≤n∧n≤4611686018427387904
 ·obtain ⟨h1,h2,h3,h4⟩:=h
  obtain ⟨N,rfl⟩:=Int.eq_ofNat_of_zero_le (by omega:0≤wide)
  exact putOctal_go n N w (by omega) (by omega) h3 h4
 ·rw [octR_no (octFits_no h),octFits_no h]
  by_cases hw:wide<2∨32<wide
  ·have HW:=hid (width_no wide w hw)
   clear hw h
   go_enter Tryz.func130,Tryz.ntmps130
   go_wp2_with fail
   (with_reducible refine HW.out.mono ?_)
   rintro e w' ⟨rfl,rfl⟩
   go_wp2
   go_ret2
   exact PutPost.none_ (Below.refl _ _)
  ·have HW:=hid (width_yes wide w (by omega) (by omega))
   by_cases hn:n<0
   ·have e1:decide (n<0)=true:=by simpa using hn
    clear h hn
    go_enter Tryz.func130,Tryz.ntmps130
    go_wp2_with fail
    (with_reducible refine HW.out.mono ?_)
    rintro e w' ⟨rfl,rfl⟩
    go_wp2
    go_ret2
    exact PutPost.none_ (Below.refl _ _)
   ·have e1:decide (n<0)=false:=by simpa using hn
    have e2:decide (4611686018427387904<n)=true:=by rw [decide_eq_true_eq];omega
    clear h hw
    go_enter Tryz.func130,Tryz.ntmps130
    go_wp2_with fail
    (with_reducible refine HW.out.mono ?_)
    rintro e w' ⟨rfl,rfl⟩
    go_wp2
    go_ret2
    exact PutPost.none_ (Below.refl _ _)
set_option maxHeartbeats 800000 in
theorem putOctalRef_go (n:Int) (N:Nat) (w:World) (h1:2≤N) (h2:N≤32) (h3:0≤n) (h4:n≤4611686018427387904):
  Calls Tryz.prog 51 #[.int .i64 n, .int .i64 N] w (PutPost w (M.octFits n N) (M.octR n N)):=by
 have e1:decide (n<0)=false:=by simpa using h3
 have e2:decide (4611686018427387904<n)=false:=by simpa using h4
 have e3:decide ((N:Int)<2)=false:=by rw [decide_eq_false_iff_not];omega
 have e4:decide (32<(N:Int))=false:=by rw [decide_eq_false_iff_not];omega
 have hmk:=run_make_row' (P:=Tryz.prog) 22 5 (.int .u8 0) 1 Tryz.underlying22 u8_info rfl .i64 .i64 N (by omega) (by omega)
 go_enter Tryz.func51,Tryz.ntmps51
 go_wp2
 clear hmk e1 e2 e3 e4
 go_loopw [0,7] (fun v i wr=> ∃ k:Nat,k≤N - 1∧i= .int .i64 ((N:Int) - 2 - k)∧v= .int .i64 (n/8^k)∧RowB wr w.heap.size N (M.octC n N k)∧Below w.heap.size w wr) (fun _ i _=>(intOf i+1).toNat)
 case atStart=>exact ⟨0,Nat.zero_le _,by go_num,by simp,(RowB.made w N).to fun i _=>(M.octC_zero n N i).symm,(Below.refl _ _).alloc (Nat.le_refl _) _⟩
 case round=>
  obtain ⟨k,hk,rfl,rfl,hrow,hbel⟩:=hrel
  have hv0:=M.shr8_nonneg h3 k
  have hv1:=M.shr8_le h3 k
  by_cases hlt:k<N - 1
  ·have hc:=hrow.cell (i:=N - 2 - k) (by omega)
   have hf:=hrow.frozen (N - 2 - k)
   have HS:=hid (M.shr8_succ n k)
   generalize hval:n/8^k=v at*
   have HV:=hid hval
   clear hval
   have hge:(0:Int)≤(N:Int) - 2 - k:=by omega
   have hto:((N:Int) - 2 - k).toNat=N - 2 - k:=by omega
   go_wp2
   have he:(48+v%8)%256=48+v%8:=by omega
   go_roundw
   case rel=>
    refine ⟨k+1,by omega,by go_num,by rw [HS.out],(hrow.set _ _).to fun j _=> ?_,hbel.setCell (Nat.le_refl _) _⟩
    rw [←HV.out]
    exact M.octC_succ n N k j hlt
   case measure=>simp [intOf];omega
  ·obtain rfl:k=N - 1:=by omega
   have hrow':RowB wr w.heap.size N (M.octG n N):=hrow.to fun j _=>M.octC_end n N j
   clear hrow hlt hk
   have hfits:M.octFits n N=decide (n/8^(N - 1)=0):=by
    unfold M.octFits M.most
    rw [show decide ((2:Int)≤N)=true by simp;omega,show decide ((N:Int)≤32)=true by simp;omega,show decide (0≤n)=true by simpa using h3,
     show decide (n≤4611686018427387904)=true by simpa using h4,Int.toNat_natCast]
    rfl
   have hneg:(N:Int) - 2 - ((N - 1:Nat):Int)<0:=by omega
   by_cases hz:n/8^(N - 1)=0
   ·have hf:M.octFits n N=true:=by rw [hfits,hz];rfl
    have hR:M.octR n N=M.oct n N:=by unfold M.octR;rw [hf,Int.toNat_natCast];rfl
    have HF:=hid hf
    have HR:=hid hR
    clear hf hR hfits
    rw [hz]
    clear hz hv0 hv1
    go_wp2
    go_ret2
    rw [HF.out,HR.out]
    exact ⟨_,N,rfl,hrow'.rd (M.octG_bd n N),hbel⟩
   ·have hf:M.octFits n N=false:=by rw [hfits];simpa using hz
    have hR:M.octR n N= []:=by unfold M.octR;rw [hf];rfl
    have HF:=hid hf
    have HR:=hid hR
    clear hf hR hfits
    generalize n/8^(N - 1)=v at*
    have hz':0<v:=by omega
    go_wp2
    go_ret2
    rw [HF.out,HR.out]
    exact PutPost.none_ hbel
end Go.Proofs.YtgbgngdakkiclaaGreatDoor.Hd

/-! KhHSumMake -/
namespace Go.Proofs.YtgbgngdakkiclaaGreatDoor.Hd
open Go.RowKit Go.Lib
theorem madeBlk:(madeCells #[Value.int .u8 0] 512)=(bcells (nils 512)).toArray:=by kernel_rfl
theorem run_make512 (w:World):(Instr.makeSlice 22 (.int .i64 512) (.int .i64 512)).run Tryz.prog w= .ok (.slice (some ⟨w.heap.size,0,none⟩) 512 512) (w.alloc (.cells (bcells (nils 512)).toArray 5)):=by
 have h:=run_make_row' (P:=Tryz.prog) 22 5 (.int .u8 0) 1 Tryz.underlying22 u8_info rfl .i64 .i64 512 (by omega) (by omega) w
 rw [madeBlk,show ((512:Nat):Int)=512 from rfl] at h
 exact h
def PutNew (w:World) (N:Nat) (zs:List Int) (e:Ending) (w':World):Prop:=
 e= .returned (.tuple #[.slice (some ⟨w.heap.size,0,none⟩) N N, .bool true])∧Rd w' w'.heap.size (some ⟨w.heap.size,0,none⟩) N zs∧Below w.heap.size w w'
set_option maxHeartbeats 800000 in
theorem putOctalRef_new (n:Int) (N:Nat) (w:World) (h1:2≤N) (h2:N≤32) (h3:0≤n) (h4:n≤4611686018427387904) (hzz:n/8^(N - 1)=0):
  Calls Tryz.prog 51 #[.int .i64 n, .int .i64 N] w (PutNew w N (M.oct n N)):=by
 have HZZ:=hid hzz
 clear hzz
 have e1:decide (n<0)=false:=by simpa using h3
 have e2:decide (4611686018427387904<n)=false:=by simpa using h4
 have e3:decide ((N:Int)<2)=false:=by rw [decide_eq_false_iff_not];omega
 have e4:decide (32<(N:Int))=false:=by rw [decide_eq_false_iff_not];omega
 have hmk:=run_make_row' (P:=Tryz.prog) 22 5 (.int .u8 0) 1 Tryz.underlying22 u8_info rfl .i64 .i64 N (by omega) (by omega)
 go_enter Tryz.func51,Tryz.ntmps51
 go_wp2
 clear hmk e1 e2 e3 e4
 go_loopw [0,7] (fun v i wr=> ∃ k:Nat,k≤N - 1∧i= .int .i64 ((N:Int) - 2 - k)∧v= .int .i64 (n/8^k)∧RowB wr w.heap.size N (M.octC n N k)∧Below w.heap.size w wr) (fun _ i _=>(intOf i+1).toNat)
 case atStart=>exact ⟨0,Nat.zero_le _,by go_num,by simp,(RowB.made w N).to fun i _=>(M.octC_zero n N i).symm,(Below.refl _ _).alloc (Nat.le_refl _) _⟩
 case round=>
  obtain ⟨k,hk,rfl,rfl,hrow,hbel⟩:=hrel
  have hv0:=M.shr8_nonneg h3 k
  have hv1:=M.shr8_le h3 k
  by_cases hlt:k<N - 1
  ·have hc:=hrow.cell (i:=N - 2 - k) (by omega)
   have hf:=hrow.frozen (N - 2 - k)
   have HS:=hid (M.shr8_succ n k)
   generalize hval:n/8^k=v at*
   have HV:=hid hval
   clear hval
   have hge:(0:Int)≤(N:Int) - 2 - k:=by omega
   have hto:((N:Int) - 2 - k).toNat=N - 2 - k:=by omega
   go_wp2
   have he:(48+v%8)%256=48+v%8:=by omega
   go_roundw
   case rel=>
    refine ⟨k+1,by omega,by go_num,by rw [HS.out],(hrow.set _ _).to fun j _=> ?_,hbel.setCell (Nat.le_refl _) _⟩
    rw [←HV.out]
    exact M.octC_succ n N k j hlt
   case measure=>simp [intOf];omega
  ·obtain rfl:k=N - 1:=by omega
   have hrow':RowB wr w.heap.size N (M.octG n N):=hrow.to fun j _=>M.octC_end n N j
   clear hrow hlt hk
   have hneg:(N:Int) - 2 - ((N - 1:Nat):Int)<0:=by omega
   rw [HZZ.out]
   clear hv0 hv1
   go_wp2
   go_ret2
   exact ⟨rfl,hrow'.rd (M.octG_bd n N),hbel⟩
end Go.Proofs.YtgbgngdakkiclaaGreatDoor.Hd

/-! KhHSumWhole -/
namespace Go.Proofs.YtgbgngdakkiclaaGreatDoor.Hd
open Go.RowKit Go.Lib
theorem block_of_add' (a:Addr) (n:Nat):(a.add n).block=a.block:=by unfold Addr.add;split<;>rfl
theorem add_lit' (b off j:Nat):(⟨b,off,none⟩:Addr).add j=⟨b,off+j,none⟩:=by
 unfold Addr.add
 split
 ·rename_i h0
  subst h0
  rfl
 ·rfl
end Go.Proofs.YtgbgngdakkiclaaGreatDoor.Hd

/-! KhHSumUns -/
namespace Go.Proofs.YtgbgngdakkiclaaGreatDoor.Hd
open Go.RowKit Go.Lib
set_option maxHeartbeats 400000 in
theorem unsigned_any (A:Option Addr) (n c:Nat) (zs:List Int) (w:World) (B:Nat) (hr:Rd w B A n zs) (hB:B≤w.heap.size) (hs:n≤65536):
  Calls Tryz.prog 146 #[.slice A n c] w fun e w'=>e= .returned (.int .i64 (M.uns zs))∧Below w.heap.size w w':=by
 have HT:=hid (unsignedTog_any A n c zs (w.alloc (.cells #[.slice A n c] 22)) B (hr.alloc hB _) hs ⟨w.heap.size,0,none⟩ (by simp [World.cell?_alloc_mark]))
 clear hr
 go_enter Tryz.func146,Tryz.ntmps146
 go_wp2_with fail
 (with_reducible refine HT.out.mono ?_)
 rintro e w' ⟨rfl,rfl⟩
 go_wp2
 go_ret
 exact ⟨rfl,(Below.refl _ _).alloc (Nat.le_refl _) _⟩
end Go.Proofs.YtgbgngdakkiclaaGreatDoor.Hd

/-! KhHSumRef -/
namespace Go.Proofs.YtgbgngdakkiclaaGreatDoor.Hd
open Go.RowKit Go.Lib
theorem ge_yes {k:Nat} {m:Int} (h:m≤k):decide (m≤(k:Int))=true:=by rw [decide_eq_true_eq];exact h
theorem ge_no {k:Nat} {m:Int} (h:(k:Int)<m):decide (m≤(k:Int))=false:=by rw [decide_eq_false_iff_not];omega
theorem lt_yes {k:Nat} {m:Int} (h:(k:Int)<m):decide ((k:Int)<m)=true:=by rw [decide_eq_true_eq];exact h
theorem lt_no {k:Nat} {m:Int} (h:m≤k):decide ((k:Int)<m)=false:=by rw [decide_eq_false_iff_not];omega
set_option maxHeartbeats 800000 in
theorem refUnsigned_any (A:Option Addr) (n c:Nat) (zs:List Int) (w:World) (B:Nat) (hr:Rd w B A n zs) (hs:n≤65536):
  Calls Tryz.prog 80 #[.slice A n c] w fun e w'=>e= .returned (.int .i64 (M.uns zs))∧w=w':=by
 have HL:=hid hr.len
 have HB:=hid hr.bd
 go_enter Tryz.func80,Tryz.ntmps80
 go_wp2
 go_loop [3,4] (fun v i=> ∃ k:Nat,k≤n∧i= .int .i64 k∧v= .int .i64 (M.tot M.cu 0 (zs.take k))) (fun _ i=>n - (intOf i).toNat)
 case atStart=>exact ⟨0,Nat.zero_le _,rfl,by rw [List.take_zero];rfl⟩
 case round=>
  obtain ⟨k,hk,rfl,rfl⟩:=hrel
  by_cases hlt:k<n
  ·obtain ⟨b,off,z,hA,hb,hz0,hz1,hzk,hc⟩:=hr.at_ hlt
   have HT:=hid (M.tot_take M.cu hzk)
   have hbd:=M.tot_cu_bd (zs:=zs.take k) 0 (fun x hx=>HB.out x (List.mem_of_mem_take hx))
   have hl:(zs.take k).length≤k:=List.length_take_le _ _
   obtain ⟨hb0,hb1⟩:=hbd
   have hv1:M.tot M.cu 0 (zs.take k)≤16711680:=by omega
   clear hzk hb1 hl
   generalize M.tot M.cu 0 (zs.take k)=v at*
   by_cases h1:k<148
   ·have e1:=ge_no (k:=k) (m:=148) (by omega)
    have HC:=hid (M.cu_out (i:=k) (z:=z) (.inl h1))
    rw [hA]
    go_wp2
    go_round
    case rel=>exact ⟨k+1,by omega,by go_num,by rw [HT.out,HC.out]⟩
    case measure=>simp [intOf];omega
   ·have e1:=ge_yes (k:=k) (m:=148) (by omega)
    by_cases h2:k<156
    ·have e2:=lt_yes (k:=k) (m:=156) (by omega)
     have HC:=hid (M.cu_in (i:=k) (z:=z) (by omega) h2)
     rw [hA]
     go_wp2
     go_round
     case rel=>exact ⟨k+1,by omega,by go_num,by rw [HT.out,HC.out]⟩
     case measure=>simp [intOf];omega
    ·have e2:=lt_no (k:=k) (m:=156) (by omega)
     have HC:=hid (M.cu_out (i:=k) (z:=z) (.inr (by omega)))
     rw [hA]
     go_wp2
     go_round
     case rel=>exact ⟨k+1,by omega,by go_num,by rw [HT.out,HC.out]⟩
     case measure=>simp [intOf];omega
  ·obtain rfl:k=n:=by omega
   have hall:zs.take k=zs:=List.take_of_length_le (by rw [HL.out];exact Nat.le_refl _)
   rw [hall]
   clear hall
   go_wp2
   go_ret
   exact ⟨rfl,rfl⟩
end Go.Proofs.YtgbgngdakkiclaaGreatDoor.Hd

/-! KhHSumSeal -/
namespace Go.Proofs.YtgbgngdakkiclaaGreatDoor.Hd
open Go.RowKit Go.Lib
attribute [local go_sem ↓] zeroBlk
def SealPost (t:TypeId) (zs:List Int) (w:World) (e:Ending) (w':World):Prop:=
 ∃ g,e= .returned (.slice (some ⟨g,0,none⟩) 512 512)∧w.heap.size≤g∧Arr w' g t zs∧Below w.heap.size w w'
theorem rd_cells {w:World} {B n:Nat} {A:Option Addr} {zs:List Int} (h:Rd w B A n zs) (hn:0<n): ∃ ad,A=some ad∧ad.block<B∧ ∀ j v,(bcells zs)[j]?=some v→w.cell? (ad.add j)=some v:=by
 obtain ⟨b,off,rfl,hb,hc⟩:=h.2.2 hn
 refine ⟨_,rfl,hb,fun j v hv=> ?_⟩
 obtain ⟨z,hz,rfl⟩:=bcells_at' hv
 rw [add_lit']
 exact hc j z hz
theorem new_cell (w:World) (t:TypeId) (z:Int): ∀ j u, [Value.int .u8 z][j]?=some u→(w.alloc (.cells #[.int .u8 z] t)).cell? ((⟨w.heap.size,0,none⟩:Addr).add j)=some u:=by
 intro j u hj
 match j,hj with
 |0,hj=>
  simp at hj
  subst hj
  simp [Addr.add,World.cell?_alloc_mark]
set_option maxRecDepth 100000 in
theorem step_blank {ops:Array Oper} {o:Oper} {a:Act} {W:World} {K:Act→World→Prop} {Q:Exit→Act→World→Prop} {E:Prop} (hgd:o.guard=none) (s x:Operand)
  (ho:o.op= .call { callee:= .builtin .append,args:= #[s,x],argTypes:= #[22,22] })
  (w w4:World) (g:Nat) (zs:List Int) (t:TypeId) (FS:List Value) (fa:Addr) (hW:W=(w4.alloc (.cells #[.int .u8 32] 5)).drew) (hs:a.eval s= .slice (some fa) 7 7) (hx:a.eval x= .slice (some ⟨w4.heap.size,0,none⟩) 1 1)
  (hl:FS.length=7) (hfb:fa.block<w4.heap.size) (hfc: ∀ j u,FS[j]?=some u→w4.cell? (fa.add j)=some u) (hA:Arr w4 g t zs) (hb:Below w.heap.size w w4)
  (h: ∀ g5 cap5 w5,Hid (∀ j u,(FS++ [Value.int .u8 32])[j]?=some u→w5.cell? ((⟨g5,0,none⟩:Addr).add j)=some u)→Hid (Arr w5 g t zs)→Hid (Below w.heap.size w w5)→K (a.put o.dst (.slice (some ⟨g5,0,none⟩) 8 cap5)) w5):
  if Region.wanted o (yielded ops a.tmps)=true then Oper.wp Tryz.prog o a W K Q else E:=by
 obtain ⟨i0,hi,hz0,hz1,hz2⟩:=info_parts u8_parts
 subst hW
 refine step_append_grows hgd s x 22 ho 5 i0 (.int .u8 0) 1 1 Tryz.underlying22 hi hz0 hz1 hz2 rfl (by decide) (some fa) 7 7 FS hs (fun h=>nomatch h) hl ?_ ⟨w4.heap.size,0,none⟩ 1 1 [.int .u8 32] hx rfl ?_ (by simp [Value.oneCell']) (by decide) (by unfold maxLen;omega) (by omega) ?_
 ·intro b hb j u hu
  injection hb with hb
  subst hb
  show (w4.alloc _).cell? _=_
  rw [World.cell?_alloc_lt _ _ _ (by rw [block_of_add'];exact hfb)]
  exact hfc j u hu
 ·exact new_cell w4 5 32
 ·intro v5 w5 hown hgrow
  obtain ⟨g5,cap5,rfl,_,_⟩:=hown.form (by decide)
  have hsz:(w4.alloc (.cells #[.int .u8 32] 5)).drew.heap.size=w4.heap.size+1:=by show (w4.heap.push _).size=_;simp
  refine h g5 cap5 w5 (hid (hown.cells (g:=g5) rfl)) (hid ((hA.alloc (.cells #[.int .u8 32] 5)).drew.of_block (hgrow.block g (by rw [hsz];have:=hA.lt;omega) (fun h=>nomatch h)))) (hid ?_)
  exact below_grown (below_drew' (hb.alloc hb.size (.cells #[.int .u8 32] 5))) hgrow (by rw [hsz];have:=hb.size;omega) (fun g h=>nomatch h)
set_option maxRecDepth 100000 in
set_option maxHeartbeats 1000000 in
theorem seal_any (A:Option Addr) (n c:Nat) (zs:List Int) (w:World) (B:Nat) (hr:Rd w B A n zs) (hB:B≤w.heap.size):
  Calls Tryz.prog 110 #[.slice A n c] w (SealPost 183 (M.sld zs) w):=by
 have HL:=hid hr.len
 have HZ:=hid hr.bd
 obtain ⟨X,hX⟩: ∃ X,X=bcells (zs.take 512):=⟨_,rfl⟩
 have hXl:X.length=Nat.min n 512:=by rw [hX,bcells_len,List.length_take,hr.len,Nat.min_comm]
 have hX1: ∀ v∈X,v.oneCell'=true:=by rw [hX];exact bcells_one _
 have hXc: ∀ o,0<X.length→ ∃ ad,A=some ad∧ ∀ j v,X[j]?=some v→(w.alloc o).cell? (ad.add j)=some v:=by
  intro o h0
  obtain ⟨ad,rfl,hb,hc⟩:=rd_cells hr (by rw [hXl] at h0;have h1:Nat.min n 512≤n:=Nat.min_le_left n 512;omega)
  refine ⟨ad,rfl,fun j v hv=> ?_⟩
  rw [World.cell?_alloc_lt _ _ _ (by rw [block_of_add'];omega)]
  refine hc j v ?_
  rw [hX] at hv
  unfold bcells at hv⊢
  rw [List.map_take,List.getElem?_take] at hv
  split at hv
  ·exact hv
  ·cases hv
 have hXp:splice (bcells (nils 512)) 0 X=bcells (M.pad zs):=by rw [hX,bcells_splice];congr 1;exact M.pad_splice zs
 have hXf:0+X.length≤(bcells (nils 512)).length:=by
  have h9:Nat.min n 512≤512:=Nat.min_le_right n 512
  rw [bcells_len,nils_len,hXl];omega
 have HXf:=hid hXf
 have HXl:=hid hXl
 have HX1:=hid hX1
 have HXc:=hid hXc
 have HXp:=hid hXp
 have hpb:=M.uns_pad_bd HZ.out
 obtain ⟨hp0,hp1⟩:=hpb
 have hfit:=M.fits7 hp0 (by omega)
 have HFIT:=hid hfit
 clear hX hXf hXl hX1 hXc hXp hr hfit
 go_enter Tryz.func110,Tryz.ntmps110
 go_wp2_with ((refine wpList_copy_splice rfl (.tmp 6) (.tmp 7) 22 22 rfl 5 Tryz.underlying22 u8_size (some ⟨w.heap.size,0,none⟩) A 512 512 n c (by simp [Act.eval,Act.put]) (by simp [Act.eval,Act.put]) w.heap.size 0 (bcells (nils 512)) 183 (Arr.new _ _ _).out X HXl.out (fun h=>⟨rfl,HXc.out _ h⟩) HXf.out HX1.out w.heap.size w ((Below.refl _ _).alloc (Nat.le_refl _) _) (Nat.le_refl _) ?_);intro w2 hg2 hb2)
 have ha2:Arr w2 w.heap.size 183 (M.pad zs):=by unfold Arr;rw [←HXp.out];exact hg2.out
 have hU:=hid (unsigned_any (some ⟨w.heap.size,0,none⟩) 512 512 (M.pad zs) w2 w2.heap.size (by have:=ha2.rd (M.pad_bd HZ.out) ha2.lt;rw [M.pad_len] at this;exact this) (Nat.le_refl _) (by decide))
 have HA2:=hid ha2
 have HP:=hid (M.pad_bd HZ.out)
 have hlt2:=ha2.lt
 clear ha2 hg2
 (with_reducible refine hU.out.mono ?_)
 rintro e w3 ⟨rfl,b3⟩
 have HA3:=hid (HA2.out.below b3 hlt2)
 have hb3:=hb2.trans (b3.mono hb2.size)
 have hlt3:=HA3.out.lt
 clear HA2 hU hlt2 b3 hb2
 go_wp2_with fail
 (with_reducible refine (putOctal_any (M.uns (M.pad zs)) 7 w3).mono ?_)
 rintro e w4 ⟨F,N,rfl,hf,b4⟩
 rw [HFIT.out.2.2] at hf
 obtain rfl:N=7:=by rw [←hf.len,M.oct7_len]
 have HA4:=hid (HA3.out.below b4 hlt3)
 have hb4:=hb3.trans (b4.mono hb3.size)
 have hlt4:=HA4.out.lt
 rw [HFIT.out.1]
 clear HA3 b4 hb3 hlt3
 obtain ⟨fa,rfl,hfb,hfc⟩:=rd_cells hf (by decide)
 have hws:=hb4.size
 obtain ⟨FS,hFS⟩: ∃ FS,FS=bcells (M.oct (M.uns (M.pad zs)) 7):=⟨_,rfl⟩
 rw [←hFS] at hfc
 have hFl:FS.length=7:=by rw [hFS,bcells_len,M.oct7_len]
 have HFL:=hid hFl
 have HSP:Hid (splice (bcells (M.pad zs)) 148 (FS++ [.int .u8 32])=bcells (M.sld zs)):=hid (by
  rw [hFS,show [Value.int .u8 32]=bcells [32] from rfl,←bcells_app,bcells_splice]
  rfl)
 have HF1:Hid (∀ v∈FS++ [Value.int .u8 32],v.oneCell'=true):=hid (by
  rw [hFS,show [Value.int .u8 32]=bcells [32] from rfl,←bcells_app]
  exact bcells_one _)
 have HFC:=hid hfc
 have HPL:Hid (148+(FS++ [Value.int .u8 32]).length≤(bcells (M.pad zs)).length):=hid (by
  rw [List.length_append,hFl,bcells_len,M.pad_len];decide)
 have HPM:Hid ((FS++ [Value.int .u8 32]).length=Nat.min 8 8):=hid (by rw [List.length_append,hFl];rfl)
 clear hf hfc hFS hFl HP HXf HXl HX1 HXc HXp HFIT HL HZ hp0 hp1
 go_wp2_with fail
 go_region_law ((first
  |(refine step_copy_splice rfl (.tmp 15) (.tmp 18) 22 22 rfl 5 Tryz.underlying22 u8_size (some ⟨w.heap.size,148,none⟩) (some ⟨_,0,none⟩) 8 364 8 _ (by simp [Act.eval,Act.put]) (by simp [Act.eval,Act.put];rfl) w.heap.size 148 (bcells (M.pad zs)) 183 HA5.out.out (FS++ [.int .u8 32]) HPM.out (fun _=>⟨rfl,_,rfl,HC5.out⟩) HPL.out HF1.out w.heap.size w HB5.out (Nat.le_refl _) ?_
    intro w6 hg6 hb6)
  |(refine step_blank rfl (.tmp 16) (.tmp 17) rfl w w4 w.heap.size (M.pad zs) 183 FS fa rfl (by simp [Act.eval,Act.put]) (by simp [Act.eval,Act.put]) HFL.out hfb HFC.out HA4.out hb4 ?_
    intro g5 cap5 w5 HC5 HA5 HB5)))
 all_goals
  have HA6:Hid (Arr w6 w.heap.size 183 (M.sld zs)):=hid (by unfold Arr;rw [←HSP.out];exact hg6.out)
  clear hg6 HA5 HB5 HC5 HSP HF1 HFC HPL HPM HFL
  go_wp2
  go_ret
  exact ⟨_,rfl,Nat.le_refl _,HA6.out,hb6⟩
end Go.Proofs.YtgbgngdakkiclaaGreatDoor.Hd

/-! KhHSumRefB -/
namespace Go.Proofs.YtgbgngdakkiclaaGreatDoor.Hd
open Go.RowKit Go.Lib
theorem Rd.field {w:World} {B c:Nat} {A:Option Addr} {zs:List Int} (h:Rd w B A 512 zs) (hc:512≤c): ∃ b off,A=some ⟨b,off,none⟩∧Rd w B (some ⟨b,off+148,none⟩) 8 (M.fld zs):=by
 obtain ⟨b,off,rfl,hb,hcell⟩:=h.2.2 (by decide)
 refine ⟨b,off,rfl,by unfold M.fld;rw [List.length_take,List.length_drop,h.len];decide,fun z hz=>h.bd z (List.mem_of_mem_drop (List.mem_of_mem_take hz)),fun _=>⟨b,off+148,rfl,hb,fun j z hj=> ?_⟩⟩
 unfold M.fld at hj
 rw [List.getElem?_take] at hj
 split at hj
 ·rw [List.getElem?_drop] at hj
  rw [Nat.add_assoc]
  exact hcell _ z hj
 ·cases hj
end Go.Proofs.YtgbgngdakkiclaaGreatDoor.Hd
