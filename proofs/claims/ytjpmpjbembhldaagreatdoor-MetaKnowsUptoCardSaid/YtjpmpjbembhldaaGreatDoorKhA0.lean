/-
  Texts of one chapter, merged.
-/
import Derived.Below
import Derived.Laws.OwnMore
import Derived.Deep.AppendLies
import Derived.Deep.Draws
import Derived.Lib.Hide
import Derived.Lib.Bytealg
import Derived.Lib.Strings
import GoSem.Core.Utf8
import Derived.Test.YtjpmpjbembhldaaGreatDoorProg
import Derived.Laws.CopyOwn
import Derived.Deep.WholeRow
import Derived.Deep.RegionLawGrows
import Derived.Stop.BytesEq
import Derived.Laws.BytesString
import Derived.Laws.IdiomStrings
import Derived.Laws.MakeOwn
import Derived.RegionTactic
import Derived.OwnWalk
import Derived.WalkKit
import Derived.ProofKit
import Derived.Test.YtjpmpjbembhldaaGreatDoorRows
import Derived.Laws.BitsAllLaws
import Derived.Laws.BitsLemmas
import Derived.Deep.OwnRows
import Derived.Deep.RegionHeld3
set_option linter.unusedVariables false
set_option linter.unusedSimpArgs false
/-! KhNumMem -/
namespace Go.Proofs.YtjpmpjbembhldaaGreatDoor.Hd
open Go.RowKit
def cutA (A:Option Addr) (c k:Nat):Option Addr:=if c=k then A else A.map (·.add k)
def Rd (w:World) (B:Nat) (A:Option Addr) (n:Nat) (zs:List Int):Prop:=
 zs.length=n∧(∀ z∈zs,0≤z∧z≤255)∧
  (0<n→ ∃ b off,A=some ⟨b,off,none⟩∧b<B∧ ∀ j z,zs[j]?=some z→w.cell? ⟨b,off+j,none⟩=some (.int .u8 z))
section
variable {w w':World} {B B' n:Nat} {A:Option Addr} {zs:List Int}
theorem Rd.len (h:Rd w B A n zs):zs.length=n:=h.1
theorem Rd.bd (h:Rd w B A n zs): ∀ z∈zs,0≤z∧z≤255:=h.2.1
theorem Rd.none_:Rd w B A 0 []:=⟨rfl,by simp,fun h=>absurd h (by omega)⟩
theorem Rd.at_ {k:Nat} (h:Rd w B A n zs) (hk:k<n):
  ∃ b off z,A=some ⟨b,off,none⟩∧b<B∧0≤z∧z≤255∧zs[k]?=some z∧w.cell? ⟨b,off+k,none⟩=some (.int .u8 z):=by
 obtain ⟨b,off,e,hb,hc⟩:=h.2.2 (by omega)
 have hl:k<zs.length:=by have:=h.1;omega
 have hz:=h.2.1 zs[k] (List.getElem_mem hl)
 exact ⟨b,off,zs[k],e,hb,hz.1,hz.2,List.getElem?_eq_getElem hl,hc k _ (List.getElem?_eq_getElem hl)⟩
theorem Rd.keep (h:Rd w B A n zs) (hk: ∀ p:Addr,p.block<B→w'.cell? p=w.cell? p):Rd w' B A n zs:=
 ⟨h.1,h.2.1,fun hn=>by
  obtain ⟨b,off,e,hb,hc⟩:=h.2.2 hn
  exact ⟨b,off,e,hb,fun j z hz=>(hk _ hb).trans (hc j z hz)⟩⟩
theorem Rd.more (h:Rd w B A n zs) (hB:B≤B'):Rd w B' A n zs:=
 ⟨h.1,h.2.1,fun hn=>by
  obtain ⟨b,off,e,hb,hc⟩:=h.2.2 hn
  exact ⟨b,off,e,by omega,hc⟩⟩
theorem Rd.below (h:Rd w B A n zs) (hb:Below B w w'):Rd w' B A n zs:=h.keep fun _ hp=>hb.cell hp
theorem Rd.drew (h:Rd w B A n zs):Rd w.drew B A n zs:=h
theorem Rd.alloc (h:Rd w B A n zs) (hB:B≤w.heap.size) (o:Obj):Rd (w.alloc o) B A n zs:=h.keep fun p hp=>World.cell?_alloc_lt w o p (by omega)
theorem Rd.setCell (h:Rd w B A n zs) {p:Addr} (hB:B≤p.block) (u:Value):Rd (w.setCell p u) B A n zs:=
 h.keep fun q hq=>World.cell?_setCell_other w p q u (fun e=>by subst e;omega)
theorem Rd.cut {c k:Nat} (h:Rd w B A n zs) (hk:k≤n) (hc:n≤c):Rd w B (cutA A c k) (n - k) (zs.drop k):=by
 unfold cutA
 refine ⟨by rw [List.length_drop,h.1],fun z hz=>h.2.1 z (List.mem_of_mem_drop hz),fun hn=> ?_⟩
 obtain ⟨b,off,rfl,hb,hcell⟩:=h.2.2 (by omega)
 rw [if_neg (by omega)]
 refine ⟨b,off+k, ?_,hb,fun j z hz=> ?_⟩
 ·simp [Addr.add]
 ·rw [Nat.add_assoc]
  exact hcell _ z (by rw [←hz,List.getElem?_drop])
end
end Go.Proofs.YtjpmpjbembhldaaGreatDoor.Hd

/-! KhHStrMath -/
namespace Go.Proofs.YtjpmpjbembhldaaGreatDoor.Hd.S
namespace M
def parts:List UInt8→List (List UInt8)
 | []=> [[]]
 |c::l=>if c=47 then []::parts l else match parts l with
  | []=> [[c]]
  |p::ps=>(c::p)::ps
end M
end Go.Proofs.YtjpmpjbembhldaaGreatDoor.Hd.S

/-! KhHUtfMath -/
namespace Go.Proofs.YtjpmpjbembhldaaGreatDoor.Hd.S
namespace M
def at' (l:List UInt8) (k:Nat):Nat:=(l.getD k 0).toNat
def tail (l:List UInt8) (k lo hi:Nat):Bool:=decide (k<l.length)&&decide (lo≤at' l k)&&decide (at' l k≤hi)
def lo (c:Nat):Nat:=if c=224 then 160 else if c=240 then 144 else 128
def hi (c:Nat):Nat:=if c=237 then 159 else if c=244 then 143 else 191
end M
end Go.Proofs.YtjpmpjbembhldaaGreatDoor.Hd.S

/-! KhSumMem -/
namespace Go.Proofs.YtjpmpjbembhldaaGreatDoor.Hd
open Go.RowKit
def bcells (zs:List Int):List Value:=zs.map (Value.int .u8)
theorem bcells_at {zs:List Int} {j:Nat} {z:Int} (h:zs[j]?=some z):(bcells zs)[j]?=some (.int .u8 z):=by simp [bcells,h]
theorem bcells_set (a:List Int) (k:Nat) (z:Int):(bcells a).set k (.int .u8 z)=bcells (a.set k z):=by simp [bcells,List.map_set]
def Arr (w:World) (b:Nat) (t:TypeId) (zs:List Int):Prop:=w.heap[b]?=some (.cells (bcells zs).toArray t (0,0))
section
variable {w w':World} {b:Nat} {t:TypeId} {zs:List Int}
theorem Arr.out (h:Arr w b t zs):w.heap[b]?=some (.cells (bcells zs).toArray t (0,0)):=h
theorem Arr.lt (h:Arr w b t zs):b<w.heap.size:=(Array.getElem?_eq_some_iff.1 h).1
theorem Arr.cell (h:Arr w b t zs) {i:Nat} {z:Int} (hz:zs[i]?=some z):w.cell? ⟨b,i,none⟩=some (.int .u8 z):=by
 rw [cell_of_row w b i _ t (0,0) h]
 simpa using bcells_at hz
theorem Arr.frozen (h:Arr w b t zs) (i:Nat):w.frozen? ⟨b,i,none⟩=false:=frozen_of_row w b i _ t h
theorem Arr.set (h:Arr w b t zs) (i:Nat) (v:Int):Arr (w.setCell ⟨b,i,none⟩ (.int .u8 v)) b t (zs.set i v):=by
 unfold Arr
 rw [heap_setCell_same w b i _ t _ h]
 simp [←bcells_set]
theorem Arr.of_block (h:Arr w b t zs) (e:w'.heap[b]?=w.heap[b]?):Arr w' b t zs:=e.trans h
theorem Arr.alloc (h:Arr w b t zs) (o:Obj):Arr (w.alloc o) b t zs:=h.of_block (by show (w.heap.push o)[b]?=_;rw [Array.getElem?_push,if_neg (Nat.ne_of_lt h.lt)])
theorem Arr.drew (h:Arr w b t zs):Arr w.drew b t zs:=h
theorem Arr.below {B:Nat} (h:Arr w b t zs) (hb:Below B w w') (hB:b<B):Arr w' b t zs:=h.of_block (hb.block b hB)
theorem Arr.new (w:World) (t:TypeId) (zs:List Int):Arr (w.alloc (.cells (bcells zs).toArray t)) w.heap.size t zs:=heap_alloc_new w _
theorem Arr.rd (h:Arr w b t zs) (hz: ∀ z∈zs,0≤z∧z≤255) {B:Nat} (hB:b<B):Rd w B (some ⟨b,0,none⟩) zs.length zs:=
 ⟨rfl,hz,fun _=>⟨b,0,rfl,hB,fun j z hj=>by rw [Nat.zero_add];exact h.cell hj⟩⟩
theorem Arr.part (h:Arr w b t zs) (hz: ∀ z∈zs,0≤z∧z≤255) {B:Nat} (hB:b<B) (o n:Nat) (hl:o+n≤zs.length):Rd w B (some ⟨b,o,none⟩) n ((zs.drop o).take n):=by
 refine ⟨by rw [List.length_take,List.length_drop];omega,fun z hm=>hz z (List.mem_of_mem_drop (List.mem_of_mem_take hm)),fun _=>⟨b,o,rfl,hB,fun j z hj=> ?_⟩⟩
 rw [List.getElem?_take] at hj
 split at hj
 ·rw [List.getElem?_drop] at hj
  exact h.cell hj
 ·cases hj
theorem Arr.row (h:Arr w b t zs) {cur:List Value} (e:bcells zs=cur):w.heap[b]?=some (.cells cur.toArray t (0,0)):=by rw [←e];exact h
end
theorem below_drew' {B:Nat} {a w:World} (h:Below B a w):Below B a w.drew:=⟨h.os,h.tape,h.output,h.size,h.block⟩
theorem below_grown {B:Nat} {w0 w w':World} {row:Option Nat} (h:Below B w0 w) (hg:w.grownBy w' row) (hB:B≤w.heap.size) (hr: ∀ g,row=some g→B≤g):Below B w0 w':=
 h.trans ⟨hg.os,hg.tape,hg.output,hg.size,fun k hk=>hg.block k (by omega) (fun e=>by have:=hr k e.symm;omega)⟩
theorem Arr.setRow {w:World} {g:Nat} {t:TypeId} {old:List Int} (h:Arr w g t old) (zs:List Int):Arr (w.setRow g (bcells zs).toArray) g t zs:=setRow_heap w g _ _ t _ h
end Go.Proofs.YtjpmpjbembhldaaGreatDoor.Hd

/-! KhNumMath -/
namespace Go.Proofs.YtjpmpjbembhldaaGreatDoor.Hd
namespace M
def dig (c:Int):Bool:=decide (48≤c)&&decide (c≤55)
def fil (c:Int):Bool:=c==32||c==0
def val (ds:List Int):Int:=ds.foldl (fun n d=>8*n+(d - 48)) 0
def most:Int:=4611686018427387904
def rest (zs:List Int):List Int:=zs.dropWhile (·==32)
def digs (zs:List Int):List Int:=(rest zs).takeWhile dig
def tail (zs:List Int):List Int:=(rest zs).dropWhile dig
def octOk (zs:List Int):Bool:=(tail zs).all fil&&decide (val (digs zs)≤most)
def octN (zs:List Int):Int:=if octOk zs then val (digs zs) else 0
def first (c:Int):Int:=if c<192 then c - 128 else c - 256
def bits (z:Int) (l:List Int):Int:=l.foldl (fun n c=>256*n+c) (first z)
def binV:List Int→Int
 | []=>0
 |z::l=>bits z l
def marked:List Int→Bool
 | []=>false
 |z::_=>decide (128≤z)
def binOk (zs:List Int):Bool:=marked zs&&(decide (-most≤binV zs)&&decide (binV zs≤most))
def binN (zs:List Int):Int:=if binOk zs then binV zs else 0
def octG (n:Int) (N j:Nat):Int:=if j+1<N then 48+(n/8^(N - 2 - j))%8 else 0
theorem octG_bd (n:Int) (N j:Nat):0≤octG n N j∧octG n N j≤255:=by
 unfold octG;split<;>omega
def listOf (g:Nat→Int) (N:Nat):List Int:=(List.range N).map g
theorem listOf_len (g:Nat→Int) (N:Nat):(listOf g N).length=N:=by simp [listOf]
theorem listOf_at {g:Nat→Int} {N j:Nat} {z:Int} (h:(listOf g N)[j]?=some z):j<N∧g j=z:=by
 unfold listOf at h
 rw [List.getElem?_map] at h
 by_cases hj:j<N
 ·rw [List.getElem?_range hj] at h
  exact ⟨hj,by simpa using h⟩
 ·rw [List.getElem?_eq_none (by simp;omega)] at h
  cases h
def oct (n:Int) (N:Nat):List Int:=listOf (octG n N) N
def octFits (n wide:Int):Bool:=decide (2≤wide)&&decide (wide≤32)&&decide (0≤n)&&decide (n≤most)&&decide (n/8^(wide.toNat - 1)=0)
def binG (n:Int) (N j:Nat):Int:=if j=0 then (n/256^(N - 1))%128+128 else (n/256^(N - 1 - j))%256
theorem binG_bd (n:Int) (N j:Nat):0≤binG n N j∧binG n N j≤255:=by
 unfold binG;split<;>omega
def bin (n:Int) (N:Nat):List Int:=listOf (binG n N) N
def binFits (n wide:Int):Bool:=decide (2≤wide)&&decide (wide≤32)&&binOk (bin n wide.toNat)&&(binN (bin n wide.toNat)==n)
def binR (n wide:Int):List Int:=if binFits n wide then bin n wide.toNat else []
def putFits (n wide:Int):Bool:=octFits n wide||binFits n wide
def putR (n wide:Int):List Int:=if octFits n wide then oct n wide.toNat else binR n wide
end M
end Go.Proofs.YtjpmpjbembhldaaGreatDoor.Hd

/-! KhSumMath -/
namespace Go.Proofs.YtjpmpjbembhldaaGreatDoor.Hd
namespace M
open Go
def cs (i:Nat) (z:Int):Int:=if 148≤i∧i<156 then 32 else if 127<z then z - 256 else z
def hi (i:Nat) (z:Int):Int:=if 148≤i∧i<156 then 0 else if 127<z then 1 else 0
def zero (zs:List Int):Bool:=decide (zs.length=512)&&zs.all (·==0)
theorem splice_len {zs a:List Int} {o:Nat} (h:o+a.length≤zs.length):(splice zs o a).length=zs.length:=length_splice zs o a h
theorem splice_bd {zs a:List Int} {o:Nat} (h: ∀ z∈zs,0≤z∧z≤255) (ha: ∀ z∈a,0≤z∧z≤255): ∀ z∈splice zs o a,0≤z∧z≤255:=by
 intro z hz
 unfold splice at hz
 rcases List.mem_append.1 hz with h1|h1
 ·exact h z (List.mem_of_mem_take h1)
 ·rcases List.mem_append.1 h1 with h2|h2
  ·exact ha z h2
  ·exact h z (List.mem_of_mem_drop h2)
end M
end Go.Proofs.YtjpmpjbembhldaaGreatDoor.Hd

/-! KhNumBinary -/
namespace Go.Proofs.YtjpmpjbembhldaaGreatDoor.Hd
open Go.RowKit Go.Lib
def parN (zs:List Int):Int:=if M.marked zs then M.binN zs else M.octN zs
def parOk (zs:List Int):Bool:=if M.marked zs then M.binOk zs else M.octOk zs
end Go.Proofs.YtjpmpjbembhldaaGreatDoor.Hd

/-! KhNumPut -/
namespace Go.Proofs.YtjpmpjbembhldaaGreatDoor.Hd
open Go.RowKit Go.Lib
def RowB (w:World) (b N:Nat) (g:Nat→Int):Prop:=w.rowIs b 5 N (fun j=> .int .u8 (g j))
section
variable {w w':World} {b N:Nat} {g h:Nat→Int}
theorem RowB.cell (r:RowB w b N g) {i:Nat} (hi:i<N):w.cell? ⟨b,i,none⟩=some (.int .u8 (g i)):=World.rowIs.cell r hi
theorem RowB.frozen (r:RowB w b N g) (i:Nat):w.frozen? ⟨b,i,none⟩=false:=World.rowIs.frozen r i
theorem RowB.lt (r:RowB w b N g):b<w.heap.size:=World.rowIs.lt r
theorem RowB.to (r:RowB w b N g) (e: ∀ i,i<N→g i=h i):RowB w b N h:=World.rowIs.congr r fun i hi=>by rw [e i hi]
theorem RowB.set (r:RowB w b N g) (i:Nat) (v:Int):RowB (w.setCell ⟨b,i,none⟩ (.int .u8 v)) b N (fun j=>if j=i then v else g j):=
 (World.rowIs.set r i (.int .u8 v)).congr fun j _=>by
  show (if j=i then _ else _)=Value.int .u8 (if j=i then v else g j)
  split<;>rfl
theorem RowB.rd (r:RowB w b N g) (hb: ∀ j,0≤g j∧g j≤255):Rd w w.heap.size (some ⟨b,0,none⟩) N (M.listOf g N):=by
 refine ⟨M.listOf_len g N, ?_,fun _=>⟨b,0,rfl,r.lt,fun j z hz=> ?_⟩⟩
 ·intro z hz
  obtain ⟨j,hj,rfl⟩:=List.getElem_of_mem hz
  obtain ⟨_,e⟩:=M.listOf_at (List.getElem?_eq_getElem hj)
  rw [←e]
  exact hb j
 ·obtain ⟨hj,rfl⟩:=M.listOf_at hz
  rw [Nat.zero_add]
  exact r.cell hj
end
def PutPost (w:World) (ok:Bool) (zs:List Int) (e:Ending) (w':World):Prop:=
 ∃ A N,e= .returned (.tuple #[.slice A N N, .bool ok])∧Rd w' w'.heap.size A N zs∧Below w.heap.size w w'
theorem PutPost.none_ {w w':World} (h:Below w.heap.size w w'):PutPost w false [] (.returned (.tuple #[.slice none 0 0, .bool false])) w':=
 ⟨none,0,rfl,Rd.none_,h⟩
end Go.Proofs.YtjpmpjbembhldaaGreatDoor.Hd

/-! KhNumMathB -/
namespace Go.Proofs.YtjpmpjbembhldaaGreatDoor.Hd
namespace M
def parN (zs:List Int):Int:=if marked zs then binN zs else octN zs
def parOk (zs:List Int):Bool:=if marked zs then binOk zs else octOk zs
theorem binR_yes {x w:Int} (h:binFits x w=true):binR x w=bin x w.toNat:=by unfold binR;rw [h];rfl
end M
end Go.Proofs.YtjpmpjbembhldaaGreatDoor.Hd

/-! KhSumStep -/
namespace Go.Proofs.YtjpmpjbembhldaaGreatDoor.Hd
open Go.RowKit
section
variable {P:Program} {md:Region.Mode} {ops:Array Oper} {Q:Exit→Act→World→Prop} {S S':World→Prop}
theorem loneH {i:Nat} (d:Nat) {o:Oper} {fuel:Nat} {listed:Array Bool} {a:Act} {w:World} (ho:ops[i]?=some o) (hd:o.dst=some d) (hr:Region.ready md ops listed= [i]) (hw:Region.wanted o (yielded ops a.tmps)=true)
  (h: ∀ K':Act→World→Prop,Shut (∀ v w',S w'→(S w'→wpAnyH P md ops Q S fuel (listed.setIfInBounds i true) (a.put (some d) v) w')→K' (a.put o.dst v) w')→Oper.wp P o a w K' Q):wpAnyH P md ops Q S (fuel+1) listed a w:=
 wpAnyH_ready hr (by simp) (AllReadyH.cons ho (fun K' hK=>by
  rw [if_pos hw]
  exact h K' (fun v w' hS hW=>hK _ _ hS (by rw [hd];exact hW))) AllReadyH.nil)
end
end Go.Proofs.YtjpmpjbembhldaaGreatDoor.Hd

/-! KhHdStep -/
namespace Go.Proofs.YtjpmpjbembhldaaGreatDoor.Hd
open Go.RowKit
section
variable {P:Program} {md:Region.Mode} {ops:Array Oper} {Q:Exit→Act→World→Prop} {S:World→Prop}
theorem loneN {i:Nat} {o:Oper} {fuel:Nat} {listed:Array Bool} {a:Act} {w:World} (ho:ops[i]?=some o) (hd:o.dst=none) (hr:Region.ready md ops listed= [i]) (hw:Region.wanted o (yielded ops a.tmps)=true)
  (h: ∀ K':Act→World→Prop,Shut (∀ a' w',S w'→(S w'→wpAnyH P md ops Q S fuel (listed.setIfInBounds i true) a' w')→K' a' w')→Oper.wp P o a w K' Q):wpAnyH P md ops Q S (fuel+1) listed a w:=
 wpAnyH_ready hr (by simp) (AllReadyH.cons ho (fun K' hK=>by
  rw [if_pos hw]
  exact h K' hK) AllReadyH.nil)
end
end Go.Proofs.YtjpmpjbembhldaaGreatDoor.Hd
