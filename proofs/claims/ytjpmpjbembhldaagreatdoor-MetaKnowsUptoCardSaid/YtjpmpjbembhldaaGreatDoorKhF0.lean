/-
  Texts of one chapter, merged.
-/
import Derived.Test.YtjpmpjbembhldaaGreatDoorKhA0
import Derived.Test.YtjpmpjbembhldaaGreatDoorShelf
import Derived.Lib.Hide
import Derived.WalkKit
import Derived.IntWalk
import Derived.LoopTactic
import Derived.Laws.BytesString
import Derived.Laws.IdiomStrings
import Derived.Laws.MakeOwn
import Derived.Deep.OwnRows
import Derived.Deep.WholeRow
import Derived.Lib.BufferWrite
import Derived.Lib.SlBytesConst
import Derived.Lib.Bytes
import Derived.Defers
import Derived.Recover
import Derived.Laws.Pointers
import Derived.WalkSmall
import Derived.WalkLawsBesides
import Derived.BigRegion
import Derived.StillTailTactics
import Derived.Test.YtjpmpjbembhldaaGreatDoorStepZ
import Derived.Deep.AppendLies
import Derived.Laws.OwnMore
import Derived.Laws.AppendOwn
import Derived.Lib.SliceRun
import Derived.Maps.AppendAt
import Derived.OwnWalk
import Derived.LoopN
import Derived.Test.YtjpmpjbembhldaaGreatDoorRows
import Derived.Laws.BitsAllLaws
import Derived.Laws.BitsLemmas
set_option linter.unusedVariables false
set_option linter.unusedSimpArgs false
/-! KhHStrPut -/
namespace Go.Proofs.YtjpmpjbembhldaaGreatDoor.Hd.S
open Go.RowKit Go.Shelf
def ints (l:List UInt8):List Int:=l.map fun b=>(b.toNat:Int)
theorem ints_length (l:List UInt8):(ints l).length=l.length:=by simp [ints]
theorem ints_bd (l:List UInt8): ∀ z∈ints l,0≤z∧z≤255:=by
 intro z hz
 obtain ⟨b,_,rfl⟩:=List.mem_map.1 hz
 have:=UInt8.toNat_lt b
 omega
theorem ints_at {l:List UInt8} {k:Nat} (h:k<l.length):(ints l)[k]?=some ((l[k]).toNat:Int):=by simp [ints,h]
def strOf (zs:List Int):ByteArray:=zs.foldl (fun r n=>r.push (UInt8.ofNat n.toNat)) ByteArray.empty
theorem run_str {w:World} {B n:Nat} {A:Option Addr} {zs:List Int} (h:Rd w B A n zs) (c:Nat):
  (convert 26 9 (.slice A n c)).run Tryz.prog w= .ok (.string (strOf zs)) w:=by
 rw [run_convert_bytes_string w 26 9 5 A n c Tryz.underlying26 Tryz.underlying5 Tryz.underlying9]
 have hlen:=h.len
 cases A with
 |none=>
  have h0:n=0:=by
   rcases Nat.eq_zero_or_pos n with h0|h0
   ·exact h0
   ·obtain ⟨b,off,e,_⟩:=h.2.2 h0
    cases e
  subst h0
  have hz:zs= []:=List.eq_nil_of_length_eq_zero hlen
  subst hz
  simp [Conv.bytesToString,strOf]
 |some a=>
  subst hlen
  have hl:=run_loadCells_list (P:=Tryz.prog) w a (zs.map (Value.int .u8)) (fun j v hj=>by
   rw [List.getElem?_map] at hj
   cases hz:zs[j]? with
   |none=>rw [hz] at hj;cases hj
   |some z=>
    rw [hz] at hj
    injection hj with hj
    subst hj
    have hlt:j<zs.length:=(List.getElem?_eq_some_iff.1 hz).1
    obtain ⟨b,off,e,_,hc⟩:=h.2.2 (by omega)
    injection e with e
    subst e
    have hcj:=hc j z hz
    unfold Addr.add
    split
    ·rename_i h0
     subst h0
     exact hcj
    ·exact hcj)
  simp only [List.length_map] at hl
  exact run_bytesToString w a zs.length c zs hl
theorem Rd.new (w:World) (t:TypeId) (l:List UInt8):Rd (w.alloc (.cells (Lib.byteCells l).toArray t)) (w.heap.size+1) (some ⟨w.heap.size,0,none⟩) l.length (ints l):=by
 refine ⟨ints_length l,ints_bd l,fun _=>⟨_,0,rfl,Nat.lt_succ_self _,fun j z hj=> ?_⟩⟩
 have hb:(w.alloc (.cells (Lib.byteCells l).toArray t)).heap[w.heap.size]?=some (.cells (Lib.byteCells l).toArray t (0,0)):=heap_alloc_new w _
 rw [cell_of_row _ _ _ _ _ _ hb,Nat.zero_add]
 unfold ints at hj
 rw [List.getElem?_map] at hj
 cases hx:l[j]? with
 |none=>rw [hx] at hj;cases hj
 |some x=>
  rw [hx] at hj
  injection hj with hj
  subst hj
  simp [Lib.byteCells,hx]
namespace M
def put (l:List UInt8) (n:Int):Option (List UInt8):=if (l.length:Int)≤n∧ ¬ (0:UInt8)∈l then some (l++List.replicate (n.toNat - l.length) 0) else none
def cut:List UInt8→List UInt8
 | []=> []
 |c::l=>if c=0 then [] else c::cut l
end M
def PutIs (w:World) (r:Option (List UInt8)) (e:Ending) (w':World):Prop:=
 ∃ A n c,e= .returned (.tuple #[.slice A n c, .bool r.isSome])∧n≤c∧c≤100000∧Rd w' w'.heap.size A n (ints (r.getD []))∧Below w.heap.size w w'∧(A=none→c=0)
theorem PutIs.no {w w':World} (h:Below w.heap.size w w'):PutIs w none (.returned (.tuple #[.slice none 0 0, .bool false])) w':=
 ⟨none,0,0,rfl,Nat.le_refl _,by omega,Rd.none_,h,fun _=>rfl⟩
end Go.Proofs.YtjpmpjbembhldaaGreatDoor.Hd.S

/-! KhHStrCut -/
namespace Go.Proofs.YtjpmpjbembhldaaGreatDoor.Hd.S
open Go.RowKit Go.Shelf
def RowB (w:World) (b N:Nat) (g:Nat→Int):Prop:=w.rowIs b 5 N (fun j=> .int .u8 (g j))
section
variable {w w':World} {b N:Nat} {g h:Nat→Int}
theorem RowB.cell (r:RowB w b N g) {i:Nat} (hi:i<N):w.cell? ⟨b,i,none⟩=some (.int .u8 (g i)):=World.rowIs.cell r hi
theorem RowB.frozen (r:RowB w b N g) (i:Nat):w.frozen? ⟨b,i,none⟩=false:=World.rowIs.frozen r i
theorem RowB.lt (r:RowB w b N g):b<w.heap.size:=World.rowIs.lt r
theorem RowB.to (r:RowB w b N g) (e: ∀ i,i<N→g i=h i):RowB w b N h:=World.rowIs.congr r fun i hi=>by rw [e i hi]
theorem RowB.set (r:RowB w b N g) (i:Nat) (v:Int):RowB (w.setCell ⟨b,i,none⟩ (.int .u8 v)) b N (fun j=>if j=i then v else g j):=
 (World.rowIs.set r i (.int .u8 v)).congr fun j _=>by
  show (if j=i then _ else _)=Value.int .u8 (if j=i then v else g j)
  split<;>rfl
end
theorem RowB.rd {w:World} {b N:Nat} {l:List UInt8} (r:RowB w b N (fun j=>M.at' l j)) (hl:l.length=N):Rd w w.heap.size (some ⟨b,0,none⟩) N (ints l):=by
 refine ⟨by rw [ints_length,hl],ints_bd l,fun _=>⟨b,0,rfl,r.lt,fun j z hz=> ?_⟩⟩
 have hj:j<l.length:=by
  have:=(List.getElem?_eq_some_iff.1 hz).1
  rwa [ints_length] at this
 rw [ints_at hj] at hz
 injection hz with hz
 subst hz
 have:=r.cell (i:=j) (by omega)
 rw [Nat.zero_add,this]
 unfold M.at'
 rw [List.getD_eq_getElem?_getD,List.getElem?_eq_getElem hj]
 rfl
end Go.Proofs.YtjpmpjbembhldaaGreatDoor.Hd.S

/-! KhHdMath -/
namespace Go.Proofs.YtjpmpjbembhldaaGreatDoor.Hd
namespace M
structure Hdr where
 name:ByteArray:=⟨#[]⟩
 mode:Int:=0
 uid:Int:=0
 gid:Int:=0
 size:Int:=0
 mtime:Int:=0
 kind:Int:=0
 link:ByteArray:=⟨#[]⟩
 way:Int:=0
 user:ByteArray:=⟨#[]⟩
 group:ByteArray:=⟨#[]⟩
 major:Int:=0
 minor:Int:=0
 pre:ByteArray:=⟨#[]⟩
 parts:List (Int × Int):= []
 more:Bool:=false
 real:Int:=0
def toB (zs:List Int):List UInt8:=zs.map fun z=>UInt8.ofNat z.toNat
def sub (zs:List Int) (at_ n:Nat):List Int:=(zs.drop at_).take n
theorem sub_len {zs:List Int} {a n:Nat} (h:a+n≤zs.length):(sub zs a n).length=n:=by
 unfold sub
 rw [List.length_take,List.length_drop]
 omega
theorem sub_bd {zs:List Int} {a n:Nat} (h: ∀ z∈zs,0≤z∧z≤255): ∀ z∈sub zs a n,0≤z∧z≤255:=
 fun z hz=>h z (List.mem_of_mem_drop (List.mem_of_mem_take hz))
def txt (zs:List Int) (a n:Nat):ByteArray:=⟨(S.M.cut (toB (sub zs a n))).toArray⟩
def num (zs:List Int) (a n:Nat):Int:=parN (sub zs a n)
def numOk (zs:List Int) (a n:Nat) (lo up:Int):Bool:=parOk (sub zs a n)&&(decide (lo≤num zs a n)&&decide (num zs a n≤up))
def known (c:Int):Bool:=decide (48≤c)&&decide (c≤55)||c==83||c==120||c==103||c==76||c==75
def may (kind way:Int):Bool:=kind !=83||way==2
def magic:Nat→List Int
 |0=> [0,0,0,0,0,0,0,0]
 |1=> [117,115,116,97,114,0,48,48]
 |_=> [117,115,116,97,114,32,32,0]
def way (zs:List Int):Option Nat:=
 if zs.length=512 then
  if sub zs 257 8=magic 0 then some 0 else if sub zs 257 8=magic 1 then some 1 else if sub zs 257 8=magic 2 then some 2 else none
 else none
def byt (zs:List Int) (a:Nat):Int:=zs.getD a 0
def kind (zs:List Int):Int:=if byt zs 156=0 then 48 else byt zs 156
def parts (zs:List Int):Nat→Nat→Option (List (Int × Int))
 |_,0=>some []
 |a,n+1=>
  if zs.length<a+24 then none
  else if numOk zs a 12 0 most&&numOk zs (a+12) 12 0 most then
   if num zs a 12=0∧num zs (a+12) 12=0 then some [] else (parts zs (a+24) n).map ((num zs a 12,num zs (a+12) 12):: ·)
  else none
end M
end Go.Proofs.YtjpmpjbembhldaaGreatDoor.Hd

/-! KhHdMem -/
namespace Go.Proofs.YtjpmpjbembhldaaGreatDoor.Hd
open Go.RowKit
def hcells (h:M.Hdr) (pv:Value):Array Value:=
 #[.string h.name, .int .i64 h.mode, .int .i64 h.uid, .int .i64 h.gid, .int .i64 h.size, .int .i64 h.mtime, .int .u8 h.kind, .string h.link, .int .i64 h.way, .string h.user, .string h.group, .int .i64 h.major, .int .i64 h.minor, .string h.pre,pv, .bool h.more, .int .i64 h.real]
theorem hcells_one (h:M.Hdr) {pv:Value} (hp:pv.oneCell'=true):(hcells h pv).all (·.oneCell')=true:=by simpa [hcells,Value.oneCell'] using hp
def HB (w:World) (g:Nat) (h:M.Hdr) (pv:Value):Prop:=w.heap[g]?=some (.cells (hcells h pv) 24 (0,0))
section
variable {w w':World} {g:Nat} {h:M.Hdr} {pv:Value}
theorem HB.lt (hb:HB w g h pv):g<w.heap.size:=(Array.getElem?_eq_some_iff.1 hb).1
theorem HB.cell (hb:HB w g h pv) {i:Nat} {v:Value} (hv:(hcells h pv)[i]?=some v):w.cell? ⟨g,i,none⟩=some v:=by
 rw [cell_of_row w g i _ _ (0,0) hb];exact hv
theorem HB.frozen (hb:HB w g h pv) (i:Nat):w.frozen? ⟨g,i,none⟩=false:=frozen_of_row w g i _ _ hb
theorem HB.of_block (hb:HB w g h pv) (e:w'.heap[g]?=w.heap[g]?):HB w' g h pv:=e.trans hb
theorem HB.other (hb:HB w g h pv) {a:Addr} (hn:g≠a.block) (v:Value):HB (w.setCell a v) g h pv:=hb.of_block (heap_setCell_other w a g v hn)
theorem HB.alloc (hb:HB w g h pv) (o:Obj):HB (w.alloc o) g h pv:=hb.of_block (by show (w.heap.push o)[g]?=_;rw [Array.getElem?_push,if_neg (Nat.ne_of_lt hb.lt)])
theorem HB.drew (hb:HB w g h pv):HB w.drew g h pv:=hb
theorem HB.below {B:Nat} (hb:HB w g h pv) (hw:Below B w w') (hB:g<B):HB w' g h pv:=hb.of_block (hw.block g hB)
theorem HB.new (w:World) (h:M.Hdr) (pv:Value):HB (w.alloc (.cells (hcells h pv) 24)) w.heap.size h pv:=heap_alloc_new w _
theorem HB.set (hb:HB w g h pv) (i:Nat) (v:Value) {h':M.Hdr} {pv':Value} (e:(hcells h pv).set! i v=hcells h' pv'):HB (w.setCell ⟨g,i,none⟩ v) g h' pv':=by
 unfold HB
 rw [heap_setCell_same w g i _ _ _ hb,←e]
 simp
end
def boom (n:Int):List PanicEntry:= [{ v:= .iface 39 (.int .u16 n),recovered:=false }]
theorem hdr_size:(Tryz.prog.info? 24).map (·.size)=some 17:=by kernel_rfl
end Go.Proofs.YtjpmpjbembhldaaGreatDoor.Hd

/-! KhHdField -/
namespace Go.Proofs.YtjpmpjbembhldaaGreatDoor.Hd
open Go.RowKit Go.Lib
theorem Rd.sub {w:World} {B b off n:Nat} {zs:List Int} (h:Rd w B (some ⟨b,off,none⟩) n zs) {a m:Nat} (ham:a+m≤n):Rd w B (some ⟨b,off+a,none⟩) m (M.sub zs a m):=by
 refine ⟨M.sub_len (by rw [h.len];exact ham),M.sub_bd h.bd,fun hm=> ?_⟩
 obtain ⟨b',off',e,hb,hc⟩:=h.2.2 (by omega)
 injection e with e
 injection e with e1 e2
 subst e1 e2
 refine ⟨_,_,rfl,hb,fun j z hj=> ?_⟩
 unfold M.sub at hj
 rw [List.getElem?_take] at hj
 split at hj
 ·rw [List.getElem?_drop] at hj
  rw [Nat.add_assoc]
  exact hc _ z hj
 ·cases hj
def NumTo (zs:List Int) (a m:Nat) (there:Bool) (lo up:Int) (p:Addr) (w:World) (e:Ending) (w':World):Prop:=
 if there=true then
  if M.numOk zs a m lo up=true then e= .returned (.tuple #[])∧ ∃ w1,Below w.heap.size w w1∧w'=w1.setCell p (.int .i64 (M.num zs a m))
  else e= .panicked (boom 32)∧Below w.heap.size w w'
 else e= .returned (.tuple #[])∧Below w.heap.size w w'
end Go.Proofs.YtjpmpjbembhldaaGreatDoor.Hd

/-! KhHdText -/
namespace Go.Proofs.YtjpmpjbembhldaaGreatDoor.Hd
open Go.RowKit Go.Lib
def TxtTo (zs:List Int) (a m:Nat) (there:Bool) (p:Addr) (w:World) (e:Ending) (w':World):Prop:=
 e= .returned (.tuple #[])∧if there=true then ∃ w1,Below w.heap.size w w1∧w'=w1.setCell p (.string (M.txt zs a m)) else Below w.heap.size w w'
end Go.Proofs.YtjpmpjbembhldaaGreatDoor.Hd

/-! KhHdArr -/
namespace Go.Proofs.YtjpmpjbembhldaaGreatDoor.Hd
open Go.RowKit Go.Lib
theorem below_setRow {B:Nat} {w0 w:World} (h:Below B w0 w) {g:Nat} (hg:B≤g) (cs:Array Value):Below B w0 (w.setRow g cs):=
 h.trans ⟨rfl,rfl,rfl,by simp,fun k hk=>setRow_other w g k cs (by omega)⟩
theorem results_row {f:Func} {k:Nat} {t:TypeId} {d:TypeDesc} (hf:f.results= #[ResultVar.cell k t]) (hd:(match d with| .struct _| .array _ _=>true|_=>false)=true) (hu:Tryz.prog.underlying t=some d)
  {tmps:Array Value} {g:Nat} {cs:Array Value} {e:TypeId} {w:World} (hk:tmps.getD k undef= .pointer (some ⟨g,0,none⟩)) (hb:w.heap[g]?=some (.cells cs e (0,0)))
  (hs:(Tryz.prog.info? t).map (·.size)=some cs.size):(results f tmps).run Tryz.prog w= .ok (.agg cs) w:=by
 rw [Array.getD_eq_getD_getElem?] at hk
 have hl:=run_loadVar_row (P:=Tryz.prog) w g e t cs (0,0) d hb hu (by cases d<;>first|rfl|cases hd) hs
 simp [results,hf,hk,asAddr,hl]
end Go.Proofs.YtjpmpjbembhldaaGreatDoor.Hd

/-! KhHdParse -/
namespace Go.Proofs.YtjpmpjbembhldaaGreatDoor.Hd
open Go.RowKit Go.Lib
structure PF (w0 w:World) (h:M.Hdr) (pv:Value):Prop where
 box:HB w w0.heap.size h pv
 err:w.heap[w0.heap.size+1]?=some (.cells #[.int .u16 0] 39 (0,0))
 below:Below w0.heap.size w0 w
theorem PF.later {w0 w w':World} {h:M.Hdr} {pv:Value} (p:PF w0 w h pv) (hb:Below w.heap.size w w'):PF w0 w' h pv:=
 ⟨p.box.below hb p.box.lt,(hb.block _ (Array.getElem?_eq_some_iff.1 p.err).1).trans p.err,p.below.trans (hb.mono p.below.size)⟩
theorem PF.set {w0 w:World} {h h':M.Hdr} {pv pv':Value} (p:PF w0 w h pv) (i:Nat) (v:Value) (e:(hcells h pv).set! i v=hcells h' pv'):PF w0 (w.setCell ⟨w0.heap.size,i,none⟩ v) h' pv':=
 ⟨p.box.set i v e,(heap_setCell_other w ⟨w0.heap.size,i,none⟩ _ v (by simp)).trans p.err,p.below.setCell (p:=⟨w0.heap.size,i,none⟩) (Nat.le_refl _) v⟩
def PartsIs (w:World) (base:Nat) (pv:Value) (l:List (Int × Int)):Prop:=
 ∃ A c,pv= .slice A l.length c∧l.length≤c∧(0<l.length→ ∃ b off,A=some ⟨b,off,none⟩∧base≤b∧b<w.heap.size∧ ∀ (j:Nat) (p:Int × Int),l[j]?=some p→w.cell? ⟨b,off+2*j,none⟩=some (.int .i64 p.1)∧w.cell? ⟨b,off+2*j+1,none⟩=some (.int .i64 p.2))
theorem PartsIs.nil (w:World) (base:Nat):PartsIs w base (.slice none 0 0) []:=⟨none,0,rfl,Nat.le_refl _,fun h=>absurd h (by decide)⟩
theorem PartsIs.keep {w w':World} {base:Nat} {pv:Value} {l:List (Int × Int)} (h:PartsIs w base pv l) (hs:w.heap.size≤w'.heap.size) (hk: ∀ a:Addr,base≤a.block→a.block<w.heap.size→w'.cell? a=w.cell? a):PartsIs w' base pv l:=by
 obtain ⟨A,c,rfl,h1,h2⟩:=h
 refine ⟨A,c,rfl,h1,fun hl=> ?_⟩
 obtain ⟨b,off,e,h3,h4,h5⟩:=h2 hl
 exact ⟨b,off,e,h3,Nat.lt_of_lt_of_le h4 hs,fun j p hp=>⟨(hk _ h3 h4).trans (h5 j p hp).1,(hk _ h3 h4).trans (h5 j p hp).2⟩⟩
theorem PartsIs.later {w w':World} {base:Nat} {pv:Value} {l:List (Int × Int)} (h:PartsIs w base pv l) (hb:Below w.heap.size w w'):PartsIs w' base pv l:=h.keep hb.size fun a _ ha=>hb.cell ha
theorem PartsIs.set {w:World} {base:Nat} {pv:Value} {l:List (Int × Int)} (h:PartsIs w base pv l) (a:Addr) (ha:a.block<base) (v:Value):PartsIs (w.setCell a v) base pv l:=
 h.keep (by simp) fun q hq _=>World.cell?_setCell_other w a q v (fun e=>by subst e;omega)
theorem PartsIs.row {w:World} {base:Nat} {pv:Value} {l:List (Int × Int)} (h:PartsIs w base pv l) (g:Nat) (hg:g<base) (cs:Array Value):PartsIs (w.setRow g cs) base pv l:=
 h.keep (by simp) fun q hq _=>cell_setRow_other w g cs q (by omega)
end Go.Proofs.YtjpmpjbembhldaaGreatDoor.Hd

/-! KhHdPartsM -/
namespace Go.Proofs.YtjpmpjbembhldaaGreatDoor.Hd
open Go.RowKit Go.Lib
def pcells (l:List (Int × Int)):List Value:=l.flatMap fun p=> [.int .i64 p.1, .int .i64 p.2]
theorem pcells_app (a b:List (Int × Int)):pcells (a++b)=pcells a++pcells b:=by simp [pcells]
theorem pcells_at: ∀ {l:List (Int × Int)} {j:Nat} {p:Int × Int},l[j]?=some p→(pcells l)[2*j]?=some (.int .i64 p.1)∧(pcells l)[2*j+1]?=some (.int .i64 p.2)
 | [],j,p,h=>by simp at h
 |q::l,0,p,h=>by
  simp at h
  subst h
  exact ⟨rfl,rfl⟩
 |q::l,j+1,p,h=>by
  have ih:=pcells_at (l:=l) (j:=j) (p:=p) (by simpa using h)
  have e:pcells (q::l)= .int .i64 q.1:: .int .i64 q.2::pcells l:=rfl
  rw [e,show 2*(j+1)=2*j+1+1 by omega,List.getElem?_cons_succ,List.getElem?_cons_succ,List.getElem?_cons_succ,List.getElem?_cons_succ]
  exact ih
def OwnP (w:World) (base:Nat) (v:Value) (l:List (Int × Int)):Prop:=w.ownsRow base 52 2 v l.length (pcells l)
theorem part_parts:(Tryz.prog.info? 52).map (fun i=>(i.zero,i.size,i.bytes))=some (some (.agg #[.int .i64 0, .int .i64 0]),2,16):=by kernel_rfl
theorem OwnP.parts {w:World} {base:Nat} {v:Value} {l:List (Int × Int)} (h:OwnP w base v l):PartsIs w base v l:=by
 unfold OwnP at h
 by_cases hl:0<l.length
 ·obtain ⟨g,cap,rfl,hbg,hlt⟩:=h.form hl
  refine ⟨_,cap,rfl, ?_,fun _=>⟨g,0,rfl,hbg,hlt,fun j p hp=> ?_⟩⟩
  ·rcases h.2 with ⟨e,_⟩|⟨g',cap',cur,e,_,_,hnc,_⟩
   ·cases e
   ·injection e with _ _ e
    omega
  ·obtain ⟨h1,h2⟩:=pcells_at hp
   have c1:=h.cells (g:=g) rfl _ _ h1
   have c2:=h.cells (g:=g) rfl _ _ h2
   have e: ∀ k:Nat,(⟨g,0,none⟩:Addr).add k=⟨g,0+k,none⟩:=by
    intro k
    unfold Addr.add
    split
    ·rename_i h0;subst h0;rfl
    ·rfl
   rw [e] at c1 c2
   exact ⟨c1,by rw [Nat.add_assoc];exact c2⟩
 ·have h0:l= []:=List.eq_nil_of_length_eq_zero (by omega)
  subst h0
  rcases h.2 with ⟨rfl,_⟩|⟨g,cap,cur,rfl,_⟩
  ·exact PartsIs.nil w base
  ·exact ⟨_,cap,rfl,Nat.zero_le _,fun h=>absurd h (by decide)⟩
structure PL (w0 w:World) (v:Value) (l:List (Int × Int)):Prop where
 box:w.heap[w0.heap.size]?=some (.cells #[v] 22 (0,0))
 ok:w.heap[w0.heap.size+1]?=some (.cells #[.bool false] 4 (0,0))
 own:OwnP w (w0.heap.size+2) v l
 below:Below w0.heap.size w0 w
theorem OwnP.later {w w':World} {base:Nat} {v:Value} {l:List (Int × Int)} (h:OwnP w base v l) (hb:Below w.heap.size w w'):OwnP w' base v l:=
 World.ownsRow.kept (row:=none) h ⟨hb.os,hb.tape,hb.output,hb.size,fun k hk _=>hb.block k hk⟩ (by
  cases hv:v.ownBlock with
  |none=>exact .inl rfl
  |some g=>exact .inr (fun e=>nomatch e))
theorem PL.later {w0 w w':World} {v:Value} {l:List (Int × Int)} (p:PL w0 w v l) (hb:Below w.heap.size w w'):PL w0 w' v l:=
 ⟨(hb.block _ (Array.getElem?_eq_some_iff.1 p.box).1).trans p.box,(hb.block _ (Array.getElem?_eq_some_iff.1 p.ok).1).trans p.ok,p.own.later hb,p.below.trans (hb.mono p.below.size)⟩
theorem PL.next {w0 w w':World} {v v':Value} {l l':List (Int × Int)} (p:PL w0 w v l) (ho:OwnP w' (w0.heap.size+2) v' l') (hb:Below (w0.heap.size+2) w w'):PL w0 (w'.setCell ⟨w0.heap.size,0,none⟩ v') v' l':=by
 have hx:=(hb.block w0.heap.size (by omega)).trans p.box
 have hy:=(hb.block (w0.heap.size+1) (by omega)).trans p.ok
 refine ⟨?_,(heap_setCell_other w' ⟨w0.heap.size,0,none⟩ _ v' (by simp)).trans hy,ownsRow_setCell_below ho (by simp) _,(p.below.trans (hb.mono (by omega))).setCell (p:=⟨w0.heap.size,0,none⟩) (Nat.le_refl _) v'⟩
 have:=heap_setCell_same w' _ 0 _ _ v' hx
 simpa using this
structure PS (wr W:World) (p q:Int):Prop where
 box:W.heap[wr.heap.size]?=some (.cells #[.int .i64 p, .int .i64 q] 52 (0,0))
 below:Below wr.heap.size wr W
theorem PS.new (wr:World):PS wr (wr.alloc (.cells #[.int .i64 0, .int .i64 0] 52)) 0 0:=⟨heap_alloc_new wr _,(Below.refl _ wr).alloc (Nat.le_refl _) _⟩
theorem PS.later {wr W W':World} {p q:Int} (h:PS wr W p q) (hb:Below W.heap.size W W'):PS wr W' p q:=
 ⟨(hb.block _ (Array.getElem?_eq_some_iff.1 h.box).1).trans h.box,h.below.trans (hb.mono h.below.size)⟩
theorem PS.frozen {wr W:World} {p q:Int} (h:PS wr W p q) (i:Nat):W.frozen? ⟨wr.heap.size,i,none⟩=false:=frozen_of_row _ _ i _ _ h.box
end Go.Proofs.YtjpmpjbembhldaaGreatDoor.Hd

/-! KhHdTwin -/
namespace Go.Proofs.YtjpmpjbembhldaaGreatDoor.Hd
open Go.RowKit Go.Lib
theorem twoH {P:Program} {md:Region.Mode} {ops:Array Oper} {Q:Exit→Act→World→Prop} {S:World→Prop} {i j:Nat} (d e:Nat) {oi oj:Oper} {fuel:Nat} {listed:Array Bool} {a:Act} {w:World} (hi:ops[i]?=some oi) (hj:ops[j]?=some oj) (hd:oi.dst=some d) (he:oj.dst=some e) (hr:Region.ready md ops listed= [i,j])
  (hwi:Region.wanted oi (yielded ops a.tmps)=true) (hwj:Region.wanted oj (yielded ops a.tmps)=true)
  (h1: ∀ K':Act→World→Prop,Shut (∀ v w',S w'→(S w'→wpAnyH P md ops Q S fuel (listed.setIfInBounds i true) (a.put (some d) v) w')→K' (a.put oi.dst v) w')→Oper.wp P oi a w K' Q)
  (h2: ∀ K':Act→World→Prop,Shut (∀ v w',S w'→(S w'→wpAnyH P md ops Q S fuel (listed.setIfInBounds j true) (a.put (some e) v) w')→K' (a.put oj.dst v) w')→Oper.wp P oj a w K' Q):wpAnyH P md ops Q S (fuel+1) listed a w:=
 wpAnyH_ready hr (by simp) (AllReadyH.cons hi (fun K' hK=>by
  rw [if_pos hwi]
  exact h1 K' (fun v w' hS hW=>hK _ _ hS (by rw [hd];exact hW))) (AllReadyH.cons hj (fun K' hK=>by
  rw [if_pos hwj]
  exact h2 K' (fun v w' hS hW=>hK _ _ hS (by rw [he];exact hW))) AllReadyH.nil))
end Go.Proofs.YtjpmpjbembhldaaGreatDoor.Hd

/-! KhHdApp -/
namespace Go.Proofs.YtjpmpjbembhldaaGreatDoor.Hd
open Go.RowKit Go.Lib
namespace Ap
theorem below_grown {B:Nat} {w0 w w':World} {row:Option Nat} (h:Below B w0 w) (hg:w.grownBy w' row) (hB:B≤w.heap.size) (hr: ∀ g,row=some g→B≤g):Below B w0 w':=
 h.trans ⟨hg.os,hg.tape,hg.output,hg.size,fun k hk=>hg.block k (by omega) (fun e=>by have:=hr k e.symm;omega)⟩
def Reads (w:World) (B size:Nat) (A:Option Addr) (n:Nat) (xs:List Value):Prop:=
 xs.length=n*size∧(0<n→ ∃ ad,A=some ad∧ad.block<B∧ ∀ j u,xs[j]?=some u→w.cell? (ad.add j)=some u)
section
variable {P:Program} (w:World)
theorem run_append_of_nil (base:Nat) (t ty e:TypeId) (i:TypeInfo) (size:Nat) (ht:P.underlying t=some (.slice e)) (hi:P.info? e=some i)
  (v:Value) (n:Nat) (xs:List Value) (hown:w.ownsRow base e size v n xs) (c:Nat):(Builtin.append_ #[t,t] ty #[v, .slice none 0 c]).run P w= .ok v w:=by
 rcases hown.2 with ⟨rfl,rfl⟩|⟨g,cap,cur,rfl,_,_,hnc,_⟩
 ·simp [Builtin.append_,run_underlying ht,sizeOf,typeInfo,hi,Builtin.lenOf,Builtin.firstCells]
 ·simp [Builtin.append_,run_underlying ht,sizeOf,typeInfo,hi,Builtin.lenOf,Builtin.firstCells,hnc,storeCells]
theorem run_append_any (base:Nat) (t ty e:TypeId) (i:TypeInfo) (z:Value) (size bytes:Nat) (ht:P.underlying t=some (.slice e)) (hi:P.info? e=some i) (hz:i.zero=some z)
  (hsize:i.size=size) (hby:i.bytes=bytes) (hzs:z.cells.size=size) (hsz:0<size)
  (v:Value) (n:Nat) (xs:List Value) (hown:w.ownsRow base e size v n xs)
  (B:Nat) (A:Option Addr) (m c:Nat) (news:List Value) (hr:Reads w B size A m news) (h1: ∀ u∈news,u.oneCell'=true)
  (h63:n+m≤maxLen) (hbytes:(n+m)*bytes≤140737488355328) (hbase:base≤w.heap.size):
  ∃ v' w',(Builtin.append_ #[t,t] ty #[v, .slice A m c]).run P w= .ok v' w'∧w'.ownsRow base e size v' (n+m) (xs++news)∧w.grownBy w' v.ownBlock∧
    (v'.ownBlock=v.ownBlock∨v'.ownBlock=some w.heap.size):=by
 rcases A with _|ad
 ·have hm:m=0:=by
   rcases Nat.eq_zero_or_pos m with h0|h0
   ·exact h0
   ·obtain ⟨ad,h,_⟩:=hr.2 h0
    cases h
  subst hm
  have hn:news= []:=List.eq_nil_of_length_eq_zero (by simpa using hr.1)
  subst hn
  exact ⟨v,w,run_append_of_nil w base t ty e i size ht hi v n xs hown c,by simpa using hown,World.grownBy.refl w _, .inl rfl⟩
 ·have hcells: ∀ j u,news[j]?=some u→w.cell? (ad.add j)=some u:=by
   intro j u hu
   rcases Nat.eq_zero_or_pos m with h0|h0
   ·subst h0
    have hn:news= []:=List.eq_nil_of_length_eq_zero (by simpa using hr.1)
    subst hn
    simp at hu
   ·obtain ⟨ad',h,_,hc⟩:=hr.2 h0
    injection h with h
    subst h
    exact hc j u hu
  obtain ⟨v',w',hrun,h2,h3,_,h5⟩:=run_append_own_at (P:=P) w base t ty e i z size bytes ht hi hz hsize hby hzs hsz v n xs hown ad m c news hr.1 hcells h1 h63 hbytes hbase
  exact ⟨v',w',hrun,h2,h3,h5⟩
theorem wp_append_any {o:Oper} {a:Act} {K:Act→World→Prop} {Q:Exit→Act→World→Prop} (s x:Operand) (t:TypeId)
  (ho:o.op= .call { callee:= .builtin .append,args:= #[s,x],argTypes:= #[t,t] })
  (base:Nat) (e:TypeId) (i:TypeInfo) (z:Value) (size bytes:Nat) (ht:P.underlying t=some (.slice e)) (hi:P.info? e=some i) (hz:i.zero=some z)
  (hsize:i.size=size) (hby:i.bytes=bytes) (hzs:z.cells.size=size) (hsz:0<size)
  (v:Value) (n:Nat) (xs:List Value) (hs:a.eval s=v) (hown:w.ownsRow base e size v n xs)
  (B:Nat) (A:Option Addr) (m c:Nat) (news:List Value) (hx:a.eval x= .slice A m c) (hr:Reads w B size A m news) (h1: ∀ u∈news,u.oneCell'=true)
  (h63:n+m≤maxLen) (hbytes:(n+m)*bytes≤140737488355328) (hbase:base≤w.heap.size)
  (h: ∀ v' w',w'.ownsRow base e size v' (n+m) (xs++news)→w.grownBy w' v.ownBlock→(v'.ownBlock=v.ownBlock∨v'.ownBlock=some w.heap.size)→K (a.put o.dst v') w'):o.wp P a w K Q:=by
 obtain ⟨v',w',hrun,h2,h3,h4⟩:=run_append_any (P:=P) w base t o.type e i z size bytes ht hi hz hsize hby hzs hsz v n xs hown B A m c news hr h1 h63 hbytes hbase
 unfold Oper.wp execOp
 simp only [ho,resolve,invoke,builtin,Sem.run_bind,Sem.run_pure,Result.andThen_ok,List.map_toArray,List.map_cons,List.map_nil,hs,hx,hrun]
 exact h v' w' h2 h3 h4
end
end Ap
theorem OwnP.nil (w:World) (base:Nat):OwnP w base (.slice none 0 0) []:=⟨rfl, .inl ⟨rfl,rfl⟩⟩
theorem wp_appP {o:Oper} {a:Act} {w:World} {K:Act→World→Prop} {Q:Exit→Act→World→Prop} (s x:Operand)
  (ho:o.op= .call { callee:= .builtin .append,args:= #[s,x],argTypes:= #[22,22] })
  (base:Nat) (v:Value) (l:List (Int × Int)) (p q:Int) (hs:a.eval s=v) (hown:OwnP w base v l) (hbase:base≤w.heap.size) (gb:Nat)
  (hx:a.eval x= .slice (some ⟨gb,0,none⟩) 1 1) (hb:w.heap[gb]?=some (.cells #[.int .i64 p, .int .i64 q] 52 (0,0))) (hl:l.length≤1048576)
  (h: ∀ v' w',Hid (OwnP w' base v' (l++ [(p,q)]))→Hid (Below base w w')→K (a.put o.dst v') w'):Oper.wp Tryz.prog o a w K Q:=by
 obtain ⟨i0,hi,hz0,hz1,hz2⟩:=info_parts part_parts
 have hgb:gb<w.heap.size:=(Array.getElem?_eq_some_iff.1 hb).1
 refine Ap.wp_append_any w s x 22 ho base 52 i0 (.agg #[.int .i64 0, .int .i64 0]) 2 16 Tryz.underlying22 hi hz0 hz1 hz2 rfl (by decide) v l.length (pcells l) hs hown w.heap.size (some ⟨gb,0,none⟩) 1 1 [.int .i64 p, .int .i64 q] hx ?_ ?_ ?_ ?_ hbase ?_
 ·refine ⟨rfl,fun _=>⟨⟨gb,0,none⟩,rfl,hgb,fun j u hj=> ?_⟩⟩
  match j,hj with
  |0,hj=>simp at hj;subst hj;exact (cell_of_row _ _ 0 _ _ _ hb).trans rfl
  |1,hj=>simp at hj;subst hj;exact (cell_of_row _ _ 1 _ _ _ hb).trans rfl
 ·intro u hu
  simp at hu
  rcases hu with rfl|rfl<;>rfl
 ·unfold maxLen;omega
 ·omega
 ·intro v' w' hown' hgrow _
  refine h v' w' (hid ?_) (hid ?_)
  ·unfold OwnP
   rw [pcells_app,List.length_append]
   exact hown'
  ·refine Ap.below_grown (Below.refl base w) hgrow hbase ?_
   intro g hg
   rcases hown.2 with ⟨rfl,_⟩|⟨g',cap,cur,rfl,hb,_⟩
   ·simp [Value.ownBlock] at hg
   ·have:g'=g:=by simpa [Value.ownBlock] using hg
    omega
end Go.Proofs.YtjpmpjbembhldaaGreatDoor.Hd

/-! KhHdMathP -/
namespace Go.Proofs.YtjpmpjbembhldaaGreatDoor.Hd
namespace M
def rt (zs:List Int) (h:Hdr):Nat→Hdr
 |0=>h
 |1=> { h with name:=txt zs 0 100 }
 |2=> { h with name:=txt zs 0 100,link:=txt zs 157 100 }
 |3=> { h with name:=txt zs 0 100,link:=txt zs 157 100,user:=if h.way !=0 then txt zs 265 32 else h.user }
 |4=> { h with name:=txt zs 0 100,link:=txt zs 157 100,user:=if h.way !=0 then txt zs 265 32 else h.user,group:=if h.way !=0 then txt zs 297 32 else h.group }
 |_=> { h with name:=txt zs 0 100,link:=txt zs 157 100,user:=if h.way !=0 then txt zs 265 32 else h.user,group:=if h.way !=0 then txt zs 297 32 else h.group,pre:=if h.way==1 then txt zs 345 155 else h.pre }
def holed (h:Hdr):Bool:=h.kind==83&&h.way==2
def rn (zs:List Int) (h:Hdr) (k:Nat):Hdr:=
 { h with
   mode:=if 1≤k then num zs 100 8 else h.mode
   uid:=if 2≤k then num zs 108 8 else h.uid
   gid:=if 3≤k then num zs 116 8 else h.gid
   size:=if 4≤k then num zs 124 12 else h.size
   mtime:=if 5≤k then num zs 136 12 else h.mtime
   major:=if 6≤k then if h.way !=0 then num zs 329 8 else h.major else h.major
   minor:=if 7≤k then if h.way !=0 then num zs 337 8 else h.minor else h.minor
   real:=if 8≤k then if holed h then num zs 483 12 else h.real else h.real }
def told (zs:List Int) (w:Nat):Hdr:=rn zs (rt zs { kind:=kind zs,way:=w } 5) 8
end M
end Go.Proofs.YtjpmpjbembhldaaGreatDoor.Hd

/-! KhHdParseS -/
namespace Go.Proofs.YtjpmpjbembhldaaGreatDoor.Hd
open Go.RowKit Go.Lib
theorem PF.more {w W:World} {h:M.Hdr} {pv:Value} (p:PF w W h pv) (o:Obj):PF w (W.alloc o) h pv:=p.later ((Below.refl _ _).alloc (Nat.le_refl _) _)
theorem PF.text {w W w':World} {h h':M.Hdr} {pv:Value} {zs:List Int} {a m i:Nat} {there:Bool} {e:Ending} (p:PF w W h pv) (t:TxtTo zs a m there ⟨w.heap.size,i,none⟩ W e w')
  (h1:there=true→(hcells h pv).set! i (.string (M.txt zs a m))=hcells h' pv) (h0:there=false→h=h'):e= .returned (.tuple #[])∧PF w w' h' pv:=by
 obtain ⟨rfl,t⟩:=t
 refine ⟨rfl, ?_⟩
 cases ht:there with
 |true=>
  rw [ht,if_pos rfl] at t
  obtain ⟨w1,b1,rfl⟩:=t
  exact (p.later b1).set i _ (h1 ht)
 |false=>
  rw [ht,if_neg (by decide)] at t
  rw [←h0 ht]
  exact p.later t
theorem PF.num {w W w':World} {h h':M.Hdr} {pv:Value} {zs:List Int} {a m i:Nat} {there ok:Bool} {lo up:Int} {e:Ending} (p:PF w W h pv) (t:NumTo zs a m there lo up ⟨w.heap.size,i,none⟩ W e w')
  (hok:ok=(!there||M.numOk zs a m lo up)) (h1:there=true→(hcells h pv).set! i (.int .i64 (M.num zs a m))=hcells h' pv) (h0:there=false→h=h'):
  (ok=false→e= .panicked (boom 32)∧PF w w' h pv)∧(ok=true→e= .returned (.tuple #[])∧PF w w' h' pv):=by
 unfold NumTo at t
 cases ht:there with
 |true=>
  rw [ht,if_pos rfl] at t
  rw [ht] at hok
  have hok':ok=M.numOk zs a m lo up:=hok
  refine ⟨fun h2=> ?_,fun h2=> ?_⟩
  ·rw [if_neg (by rw [←hok',h2];decide)] at t
   exact ⟨t.1,p.later t.2⟩
  ·rw [if_pos (by rw [←hok',h2])] at t
   obtain ⟨rfl,w1,b1,rfl⟩:=t
   exact ⟨rfl,(p.later b1).set i _ (h1 ht)⟩
 |false=>
  rw [ht,if_neg (by decide)] at t
  rw [ht] at hok
  have hok':ok=true:=hok
  refine ⟨fun h2=> ?_,fun _=> ?_⟩
  ·rw [hok'] at h2;cases h2
  ·rw [←h0 ht]
   exact ⟨t.1,p.later t.2⟩
theorem PF.whole {w W:World} {h:M.Hdr} {pv:Value} (p:PF w W h pv):PF w (W.setRow w.heap.size (hcells h pv)) h pv:=
 ⟨setRow_heap W _ _ _ _ _ p.box,(setRow_other W _ _ _ (by simp)).trans p.err,below_setRow p.below (Nat.le_refl _) _⟩
end Go.Proofs.YtjpmpjbembhldaaGreatDoor.Hd

/-! KhHdFieldP -/
namespace Go.Proofs.YtjpmpjbembhldaaGreatDoor.Hd
open Go.RowKit Go.Lib
def laid (W:World) (gb:Nat) (zs:List Int):World:=W.setRow gb (bcells zs).toArray
theorem Arr.laid {W:World} {gb:Nat} {t:TypeId} {zs:List Int} (h:Arr W gb t zs) (ys:List Int):Arr (laid W gb ys) gb t ys:=h.setRow ys
def TxtPut (zs:List Int) (a m:Nat) (s:ByteArray) (gb:Nat) (w:World) (e:Ending) (w':World):Prop:=
 match S.M.put s.data.toList m with
 |none=>e= .panicked (boom 33)∧Below w.heap.size w w'
 |some l=>e= .returned (.tuple #[])∧ ∃ w1,Below w.heap.size w w1∧w'=laid w1 gb (splice zs a (S.ints l))
theorem put_len {s l:List UInt8} {m:Nat} (h:S.M.put s (m:Int)=some l):l.length=m:=by
 unfold S.M.put at h
 split at h
 ·rename_i h1
  injection h with h
  subst h
  rw [List.length_append,List.length_replicate]
  omega
 ·cases h
theorem putR_len {x:Int} {m:Nat} (h:M.putFits x m=true):(M.putR x m).length=m:=by
 unfold M.putR
 cases ho:M.octFits x m with
 |true=>
  rw [if_pos rfl]
  unfold M.oct
  rw [M.listOf_len]
  rfl
 |false=>
  have hb:M.binFits x m=true:=by
   unfold M.putFits at h
   rw [ho] at h
   exact h
  rw [if_neg (by decide),M.binR_yes hb]
  unfold M.bin
  rw [M.listOf_len]
  rfl
def M.putOk (x:Int) (m:Nat) (lo up:Int):Bool:=M.putFits x m&&(decide (lo≤x)&&decide (x≤up))
def NumPut (zs:List Int) (a m:Nat) (there:Bool) (lo up x:Int) (gb:Nat) (w:World) (e:Ending) (w':World):Prop:=
 if there=true then
  if M.putOk x m lo up=true then e= .returned (.tuple #[])∧ ∃ w1,Below w.heap.size w w1∧w'=laid w1 gb (splice zs a (M.putR x m))
  else e= .panicked (boom 32)∧Below w.heap.size w w'
 else if x=0 then e= .returned (.tuple #[])∧Below w.heap.size w w' else e= .panicked (boom 32)∧Below w.heap.size w w'
end Go.Proofs.YtjpmpjbembhldaaGreatDoor.Hd

/-! KhHdPick -/
namespace Go.Proofs.YtjpmpjbembhldaaGreatDoor.Hd
open Go.RowKit Go.Lib
namespace M
def gz (zs:List Int) (i:Nat):Int:=zs.getD i 0
theorem gz_bd {zs:List Int} (h: ∀ z∈zs,0≤z∧z≤255) (i:Nat):0≤gz zs i∧gz zs i≤255:=by
 unfold gz
 rw [List.getD_eq_getElem?_getD]
 cases hz:zs[i]? with
 |none=>exact ⟨Int.le_refl _,by decide⟩
 |some z=>exact h z (List.mem_of_getElem? hz)
def longName:ByteArray:=⟨#[97,32,108,111,110,103,32,110,97,109,101,44,32,111,102,32,115,111,109,101,32,102,111,114,116,121,32,98,121,116,101,115,58,32,49,50,51,52,53,54]⟩
def nm (c:Int):ByteArray:=
 if c%6=0 then ⟨#[]⟩ else if c%6=1 then ⟨#[100,105,114,47]⟩ else if c%6=2 then longName else if c%6=3 then ⟨#[195,169]⟩ else ⟨#[UInt8.ofNat (97+c%26).toNat]⟩
theorem nm_size (c:Int):(nm c).size≤100000:=by
 unfold nm
 repeat' split
 all_goals first|decide|exact Nat.le_trans (show (1:Nat)≤1 from Nat.le_refl _) (by decide)
def nr (c:Int):Int:=
 if 230<c then
  (if c%7=0 then 2097151 else if c%7=1 then 2097152 else if c%7=2 then 8589934591 else if c%7=3 then 8589934592 else if c%7=4 then 1099511627776 else if c%7=5 then -1 else 4611686018427387904)
 else c
theorem nr_bd {c:Int} (h:0≤c∧c≤255): -1≤nr c∧nr c≤4611686018427387904:=by
 unfold nr
 repeat' split
 all_goals omega
end M
set_option maxRecDepth 100000 in
set_option maxHeartbeats 1000000 in
theorem g_any (A:Option Addr) (n c i:Nat) (zs:List Int) (w:World) (B:Nat) (hr:Rd w B A n zs) (hi:i≤1000):
  Calls Tryz.prog 13 #[.slice A n c, .int .i64 i] w fun e w'=>e= .returned (.int .u8 (M.gz zs i))∧w=w':=by
 by_cases hin:i<n
 ·obtain ⟨b,off,z,rfl,_,_,_,hz,hcell⟩:=hr.at_ (k:=i) hin
  have hg:M.gz zs i=z:=by unfold M.gz;rw [List.getD_eq_getElem?_getD,hz];rfl
  rw [hg]
  clear hr hz hg
  go_enter Tryz.func13,Tryz.ntmps13
  go_wp2
  go_ret
  exact ⟨rfl,rfl⟩
 ·have hg:M.gz zs i=0:=by unfold M.gz;rw [List.getD_eq_getElem?_getD,List.getElem?_eq_none (by rw [hr.len];omega)];rfl
  rw [hg]
  clear hr hg
  go_enter Tryz.func13,Tryz.ntmps13
  go_wp2
  go_ret
  exact ⟨rfl,rfl⟩
set_option maxRecDepth 100000 in
set_option maxHeartbeats 1000000 in
theorem name_any (c:Int) (hc:0≤c∧c≤255) (w:World):Calls Tryz.prog 12 #[.int .u8 c] w fun e w'=>e= .returned (.string (M.nm c))∧Below w.heap.size w w':=by
 have hm:c.tmod 6=c%6:=Int.tmod_eq_emod_of_nonneg hc.1
 have hm2:c.tmod 26=c%26:=Int.tmod_eq_emod_of_nonneg hc.1
 have hcase:c%6=0∨c%6=1∨c%6=2∨c%6=3∨c%6=4∨c%6=5:=by omega
 have h26:0≤c%26∧c%26<26:=by omega
 rcases hcase with h|h|h|h|h|h
 ·have e:c.tmod 6=0:=by omega
  rw [show M.nm c=⟨#[]⟩ by simp [M.nm,h]]
  clear hm hm2 h h26
  go_enter Tryz.func12,Tryz.ntmps12
  go_wp2
  go_ret
  exact ⟨rfl,Below.refl _ _⟩
 ·have e:c.tmod 6=1:=by omega
  rw [show M.nm c=⟨#[100,105,114,47]⟩ by simp [M.nm,h]]
  clear hm hm2 h h26
  go_enter Tryz.func12,Tryz.ntmps12
  go_wp2
  go_ret
  exact ⟨rfl,Below.refl _ _⟩
 ·have e:c.tmod 6=2:=by omega
  rw [show M.nm c=M.longName by simp [M.nm,h]]
  clear hm hm2 h h26
  go_enter Tryz.func12,Tryz.ntmps12
  go_wp2
  go_ret
  exact ⟨rfl,Below.refl _ _⟩
 ·have e:c.tmod 6=3:=by omega
  rw [show M.nm c=⟨#[195,169]⟩ by simp [M.nm,h]]
  clear hm hm2 h h26
  go_enter Tryz.func12,Tryz.ntmps12
  go_wp2
  go_ret
  exact ⟨rfl,Below.refl _ _⟩
 ·have e:c.tmod 6=4:=by omega
  rw [show M.nm c=⟨#[UInt8.ofNat (97+c%26).toNat]⟩ by simp [M.nm,h]]
  have hw1:IntKind.u8.wrap (c.tmod 26)=c%26:=by rw [hm2];exact IntWalk.u8_in _ (by omega)
  have hw2:IntKind.u8.wrap (97+c%26)=97+c%26:=IntWalk.u8_in _ (by omega)
  have hr:Rd (w.alloc (.cells #[.int .u8 (97+c%26)] 5)) (w.alloc (.cells #[.int .u8 (97+c%26)] 5)).heap.size (some ⟨w.heap.size,0,none⟩) 1 [97+c%26]:=
   (Arr.new w 5 [97+c%26]).rd (by intro z hz;rw [List.mem_singleton] at hz;omega) (by simp)
  have cv:=S.run_str hr 1
  rw [show S.strOf [97+c%26]=⟨#[UInt8.ofNat (97+c%26).toNat]⟩ from rfl] at cv
  clear hm h hr
  go_enter Tryz.func12,Tryz.ntmps12
  go_wp2
  go_ret
  exact ⟨rfl,(Below.refl _ _).alloc (Nat.le_refl _) _⟩
 ·have e:c.tmod 6=5:=by omega
  rw [show M.nm c=⟨#[UInt8.ofNat (97+c%26).toNat]⟩ by simp [M.nm,h]]
  have hw1:IntKind.u8.wrap (c.tmod 26)=c%26:=by rw [hm2];exact IntWalk.u8_in _ (by omega)
  have hw2:IntKind.u8.wrap (97+c%26)=97+c%26:=IntWalk.u8_in _ (by omega)
  have hr:Rd (w.alloc (.cells #[.int .u8 (97+c%26)] 5)) (w.alloc (.cells #[.int .u8 (97+c%26)] 5)).heap.size (some ⟨w.heap.size,0,none⟩) 1 [97+c%26]:=
   (Arr.new w 5 [97+c%26]).rd (by intro z hz;rw [List.mem_singleton] at hz;omega) (by simp)
  have cv:=S.run_str hr 1
  rw [show S.strOf [97+c%26]=⟨#[UInt8.ofNat (97+c%26).toNat]⟩ from rfl] at cv
  clear hm h hr
  go_enter Tryz.func12,Tryz.ntmps12
  go_wp2
  go_ret
  exact ⟨rfl,(Below.refl _ _).alloc (Nat.le_refl _) _⟩
set_option maxRecDepth 100000 in
set_option maxHeartbeats 1000000 in
theorem number_any (c:Int) (hc:0≤c∧c≤255) (w:World):Calls Tryz.prog 14 #[.int .u8 c] w fun e w'=>e= .returned (.int .i64 (M.nr c))∧Below w.heap.size w w':=by
 by_cases hb:230<c
 ·have hm:c.tmod 7=c%7:=Int.tmod_eq_emod_of_nonneg hc.1
  have hcase:c%7=0∨c%7=1∨c%7=2∨c%7=3∨c%7=4∨c%7=5∨c%7=6:=by omega
  rcases hcase with h|h|h|h|h|h|h
  ·have e:c.tmod 7=0:=by omega
   rw [show M.nr c=2097151 by simp [M.nr,hb,h]]
   clear hm h
   go_enter Tryz.func14,Tryz.ntmps14
   go_wp2
   go_ret
   exact ⟨rfl,(Below.refl _ _).alloc (Nat.le_refl _) _⟩
  ·have e:c.tmod 7=1:=by omega
   rw [show M.nr c=2097152 by simp [M.nr,hb,h]]
   clear hm h
   go_enter Tryz.func14,Tryz.ntmps14
   go_wp2
   go_ret
   exact ⟨rfl,(Below.refl _ _).alloc (Nat.le_refl _) _⟩
  ·have e:c.tmod 7=2:=by omega
   rw [show M.nr c=8589934591 by simp [M.nr,hb,h]]
   clear hm h
   go_enter Tryz.func14,Tryz.ntmps14
   go_wp2
   go_ret
   exact ⟨rfl,(Below.refl _ _).alloc (Nat.le_refl _) _⟩
  ·have e:c.tmod 7=3:=by omega
   rw [show M.nr c=8589934592 by simp [M.nr,hb,h]]
   clear hm h
   go_enter Tryz.func14,Tryz.ntmps14
   go_wp2
   go_ret
   exact ⟨rfl,(Below.refl _ _).alloc (Nat.le_refl _) _⟩
  ·have e:c.tmod 7=4:=by omega
   rw [show M.nr c=1099511627776 by simp [M.nr,hb,h]]
   clear hm h
   go_enter Tryz.func14,Tryz.ntmps14
   go_wp2
   go_ret
   exact ⟨rfl,(Below.refl _ _).alloc (Nat.le_refl _) _⟩
  ·have e:c.tmod 7=5:=by omega
   rw [show M.nr c= -1 by simp [M.nr,hb,h]]
   clear hm h
   go_enter Tryz.func14,Tryz.ntmps14
   go_wp2
   go_ret
   exact ⟨rfl,(Below.refl _ _).alloc (Nat.le_refl _) _⟩
  ·have e:c.tmod 7=6:=by omega
   rw [show M.nr c=4611686018427387904 by simp [M.nr,hb,h]]
   clear hm h
   go_enter Tryz.func14,Tryz.ntmps14
   go_wp2
   go_ret
   exact ⟨rfl,(Below.refl _ _).alloc (Nat.le_refl _) _⟩
 ·rw [show M.nr c=c by simp [M.nr,hb]]
  have hw:IntKind.i64.wrap c=c:=IntWalk.i64_in _ (by omega)
  go_enter Tryz.func14,Tryz.ntmps14
  go_wp2
  go_ret
  exact ⟨rfl,Below.refl _ _⟩
end Go.Proofs.YtjpmpjbembhldaaGreatDoor.Hd

/-! KhHdMathQ -/
namespace Go.Proofs.YtjpmpjbembhldaaGreatDoor.Hd
namespace M
def putT (zs:List Int) (a m:Nat) (s:ByteArray):Option (List Int):=(S.M.put s.data.toList m).map fun l=>splice zs a (S.ints l)
def putN (zs:List Int) (a m:Nat) (there:Bool) (lo up x:Int):Option (List Int):=
 if there=true then if putOk x m lo up=true then some (splice zs a (putR x m)) else none
 else if x=0 then some zs else none
end M
end Go.Proofs.YtjpmpjbembhldaaGreatDoor.Hd

/-! KhHdPrintM -/
namespace Go.Proofs.YtjpmpjbembhldaaGreatDoor.Hd
open Go.RowKit Go.Lib
structure QF (w0 w:World) (h:M.Hdr) (pv v:Value):Prop where
 box:HB w w0.heap.size h pv
 bytes:w.heap[w0.heap.size+1]?=some (.cells #[v] 26 (0,0))
 err:w.heap[w0.heap.size+2]?=some (.cells #[.int .u16 0] 39 (0,0))
 below:Below w0.heap.size w0 w
theorem QF.keep {w0 w w':World} {h:M.Hdr} {pv v:Value} (q:QF w0 w h pv v) (hb:Below (w0.heap.size+3) w w'):QF w0 w' h pv v:=
 ⟨(hb.block _ (by omega)).trans q.box,(hb.block _ (by omega)).trans q.bytes,(hb.block _ (by omega)).trans q.err,q.below.trans (hb.mono (by omega))⟩
theorem QF.size {w0 w:World} {h:M.Hdr} {pv v:Value} (q:QF w0 w h pv v):w0.heap.size+3≤w.heap.size:=(Array.getElem?_eq_some_iff.1 q.err).1
theorem QF.later {w0 w w':World} {h:M.Hdr} {pv v:Value} (q:QF w0 w h pv v) (hb:Below w.heap.size w w'):QF w0 w' h pv v:=q.keep (hb.mono q.size)
def PartsB (w:World) (B:Nat) (pv:Value) (l:List (Int × Int)):Prop:=
 ∃ A c,pv= .slice A l.length c∧l.length≤c∧(0<l.length→ ∃ b off,A=some ⟨b,off,none⟩∧b<B∧ ∀ (j:Nat) (p:Int × Int),l[j]?=some p→w.cell? ⟨b,off+2*j,none⟩=some (.int .i64 p.1)∧w.cell? ⟨b,off+2*j+1,none⟩=some (.int .i64 p.2))
theorem PartsIs.in_ {w:World} {base:Nat} {pv:Value} {l:List (Int × Int)} (h:PartsIs w base pv l):PartsB w w.heap.size pv l:=by
 obtain ⟨A,c,rfl,h1,h2⟩:=h
 exact ⟨A,c,rfl,h1,fun hl=>let ⟨b,off,e,_,h4,h5⟩:=h2 hl;⟨b,off,e,h4,h5⟩⟩
theorem PartsB.below {w w':World} {B:Nat} {pv:Value} {l:List (Int × Int)} (h:PartsB w B pv l) (hb:Below B w w'):PartsB w' B pv l:=by
 obtain ⟨A,c,rfl,h1,h2⟩:=h
 exact ⟨A,c,rfl,h1,fun hl=>let ⟨b,off,e,h4,h5⟩:=h2 hl;⟨b,off,e,h4,fun j p hp=>⟨(hb.cell (p:=⟨b,off+2*j,none⟩) h4).trans (h5 j p hp).1,(hb.cell (p:=⟨b,off+2*j+1,none⟩) h4).trans (h5 j p hp).2⟩⟩⟩
end Go.Proofs.YtjpmpjbembhldaaGreatDoor.Hd

/-! KhHdPrintP -/
namespace Go.Proofs.YtjpmpjbembhldaaGreatDoor.Hd
open Go.RowKit Go.Lib
structure PP (w0 W:World) (gb g:Nat) (zs:List Int) (p q:Int):Prop where
 arr:Arr W gb 5 zs
 box:W.heap[g]?=some (.cells #[.int .i64 p, .int .i64 q] 52 (0,0))
 ne:gb≠g
 below:Below gb w0 W
theorem PP.new {w0 W:World} {gb:Nat} {zs:List Int} (ha:Arr W gb 5 zs) (hb:Below gb w0 W) (p q:Int):PP w0 (W.alloc (.cells #[.int .i64 p, .int .i64 q] 52)) gb W.heap.size zs p q:=
 ⟨ha.alloc _,heap_alloc_new W _,Nat.ne_of_lt ha.lt,hb.alloc (Nat.le_of_lt ha.lt) _⟩
theorem PP.later {w0 W W':World} {gb g:Nat} {zs:List Int} {p q:Int} (h:PP w0 W gb g zs p q) (hb:Below W.heap.size W W'):PP w0 W' gb g zs p q:=
 ⟨h.arr.below hb h.arr.lt,(hb.block _ (Array.getElem?_eq_some_iff.1 h.box).1).trans h.box,h.ne,h.below.trans (hb.mono (Nat.le_of_lt h.arr.lt))⟩
theorem PP.laid {w0 W:World} {gb g:Nat} {zs:List Int} {p q:Int} (h:PP w0 W gb g zs p q) (ys:List Int):PP w0 (laid W gb ys) gb g ys p q:=
 ⟨h.arr.laid ys,(setRow_other _ _ _ _ (Ne.symm h.ne)).trans h.box,h.ne,below_setRow h.below (Nat.le_refl _) _⟩
theorem PP.more {w0 W:World} {gb g:Nat} {zs:List Int} {p q:Int} (h:PP w0 W gb g zs p q) (o:Obj):PP w0 (W.alloc o) gb g zs p q:=h.later ((Below.refl _ _).alloc (Nat.le_refl _) _)
def PartsPut (o:Option (List Int)) (gb:Nat) (w:World) (e:Ending) (w':World):Prop:=
 (match o with
  |none=>e= .panicked (boom 32)
  |some ys=>e= .returned (.tuple #[])∧Arr w' gb 5 ys∧ys.length=512)∧Below gb w w'
theorem PartsPut.no {o:Option (List Int)} {gb:Nat} {w w':World} (ho:o=none) (hb:Below gb w w'):PartsPut o gb w (.panicked (boom 32)) w':=by
 subst ho;exact ⟨rfl,hb⟩
theorem PartsPut.yes {o:Option (List Int)} {ys:List Int} {gb:Nat} {w w':World} (ho:o=some ys) (ha:Arr w' gb 5 ys) (hl:ys.length=512) (hb:Below gb w w'):PartsPut o gb w (.returned (.tuple #[])) w':=by
 subst ho;exact ⟨⟨rfl,ha,hl⟩,hb⟩
namespace M
theorem putOk_fits {x:Int} {m:Nat} {lo up:Int} (h:putOk x m lo up=true):putFits x m=true:=by
 unfold putOk at h
 rw [Bool.and_eq_true] at h
 exact h.1
end M
def i64p (l:List (Int × Int)):Prop:= ∀ p∈l,(-9223372036854775808≤p.1∧p.1≤9223372036854775807)∧(-9223372036854775808≤p.2∧p.2≤9223372036854775807)
end Go.Proofs.YtjpmpjbembhldaaGreatDoor.Hd

/-! KhHdPrintS -/
namespace Go.Proofs.YtjpmpjbembhldaaGreatDoor.Hd
open Go.RowKit Go.Lib
structure RF (w0 W:World) (h:M.Hdr) (pv:Value) (zs:List Int):Prop where
 q:QF w0 W h pv (.slice (some ⟨w0.heap.size+3,0,none⟩) 512 512)
 arr:Arr W (w0.heap.size+3) 5 zs
 len:zs.length=512
 bd: ∀ z∈zs,0≤z∧z≤255
theorem RF.later {w0 W W':World} {h:M.Hdr} {pv:Value} {zs:List Int} (r:RF w0 W h pv zs) (hb:Below W.heap.size W W'):RF w0 W' h pv zs:=⟨r.q.later hb,r.arr.below hb r.arr.lt,r.len,r.bd⟩
theorem RF.more {w0 W:World} {h:M.Hdr} {pv:Value} {zs:List Int} (r:RF w0 W h pv zs) (o:Obj):RF w0 (W.alloc o) h pv zs:=r.later ((Below.refl _ _).alloc (Nat.le_refl _) _)
theorem RF.laid {w0 W:World} {h:M.Hdr} {pv:Value} {zs:List Int} (r:RF w0 W h pv zs) {ys:List Int} (hl:ys.length=512) (hbd: ∀ z∈ys,0≤z∧z≤255):RF w0 (laid W (w0.heap.size+3) ys) h pv ys:=
 ⟨r.q.keep (below_setRow (Below.refl _ _) (Nat.le_refl _) _),r.arr.laid ys,hl,hbd⟩
theorem RF.drew {w0 W:World} {h:M.Hdr} {pv:Value} {zs:List Int} (r:RF w0 W h pv zs):RF w0 W.drew h pv zs:=⟨⟨r.q.box,r.q.bytes,r.q.err,below_drew' r.q.below⟩,r.arr,r.len,r.bd⟩
theorem splice_bd {zs ys:List Int} {a:Nat} (h: ∀ z∈zs,0≤z∧z≤255) (hy: ∀ z∈ys,0≤z∧z≤255): ∀ z∈splice zs a ys,0≤z∧z≤255:=by
 intro z hz
 unfold splice at hz
 rcases List.mem_append.1 hz with h1|h1
 ·exact h z (List.mem_of_mem_take h1)
 ·rcases List.mem_append.1 h1 with h2|h2
  ·exact hy z h2
  ·exact h z (List.mem_of_mem_drop h2)
theorem listOf_bd {g:Nat→Int} {N:Nat} (hg: ∀ j,0≤g j∧g j≤255): ∀ z∈M.listOf g N,0≤z∧z≤255:=by
 intro z hz
 unfold M.listOf at hz
 obtain ⟨j,_,rfl⟩:=List.mem_map.1 hz
 exact hg j
theorem putR_bd (x m:Int): ∀ z∈M.putR x m,0≤z∧z≤255:=by
 unfold M.putR M.binR
 split
 ·exact listOf_bd (M.octG_bd _ _)
 ·split
  ·exact listOf_bd (M.binG_bd _ _)
  ·intro z hz;cases hz
theorem splice_len {zs ys:List Int} {a n:Nat} (h:zs.length=512) (hy:ys.length=n) (ha:a+n≤512):(splice zs a ys).length=512:=by
 rw [length_splice _ _ _ (by omega),h]
theorem RF.text {w0 W w':World} {h:M.Hdr} {pv:Value} {zs:List Int} {a m:Nat} {s:ByteArray} {e:Ending} (r:RF w0 W h pv zs) (ham:a+m≤512) (t:TxtPut zs a m s (w0.heap.size+3) W e w'):
  (M.putT zs a m s=none→e= .panicked (boom 33)∧QF w0 w' h pv (.slice (some ⟨w0.heap.size+3,0,none⟩) 512 512))∧(∀ ys,M.putT zs a m s=some ys→e= .returned (.tuple #[])∧RF w0 w' h pv ys):=by
 unfold TxtPut at t
 unfold M.putT
 cases hp:S.M.put s.data.toList (m:Int) with
 |none=>
  rw [hp] at t
  exact ⟨fun _=>⟨t.1,r.q.later t.2⟩,(fun ys h=>by cases h)⟩
 |some l=>
  rw [hp] at t
  refine ⟨(fun h=>by cases h),fun ys hy=> ?_⟩
  injection hy with hy
  subst hy
  obtain ⟨rfl,w1,b1,rfl⟩:=t
  exact ⟨rfl,(r.later b1).laid (splice_len r.len (by rw [S.ints_length];exact put_len hp) ham) (splice_bd r.bd (S.ints_bd l))⟩
theorem RF.num {w0 W w':World} {h:M.Hdr} {pv:Value} {zs:List Int} {a m:Nat} {there:Bool} {lo up x:Int} {e:Ending} (r:RF w0 W h pv zs) (ham:a+m≤512) (t:NumPut zs a m there lo up x (w0.heap.size+3) W e w'):
  (M.putN zs a m there lo up x=none→e= .panicked (boom 32)∧QF w0 w' h pv (.slice (some ⟨w0.heap.size+3,0,none⟩) 512 512))∧(∀ ys,M.putN zs a m there lo up x=some ys→e= .returned (.tuple #[])∧RF w0 w' h pv ys):=by
 unfold NumPut at t
 unfold M.putN
 cases there with
 |true=>
  rw [if_pos rfl] at t⊢
  cases ho:M.putOk x m lo up with
  |true=>
   rw [ho,if_pos rfl] at t
   rw [if_pos rfl]
   refine ⟨(fun h=>by cases h),fun ys hy=> ?_⟩
   injection hy with hy
   subst hy
   obtain ⟨rfl,w1,b1,rfl⟩:=t
   exact ⟨rfl,(r.later b1).laid (splice_len r.len (putR_len (M.putOk_fits ho)) ham) (splice_bd r.bd (putR_bd x m))⟩
  |false=>
   rw [ho,if_neg (by decide)] at t
   rw [if_neg (by decide)]
   exact ⟨fun _=>⟨t.1,r.q.later t.2⟩,(fun ys h=>by cases h)⟩
 |false=>
  rw [if_neg (by decide)] at t⊢
  by_cases h0:x=0
  ·rw [if_pos h0] at t⊢
   refine ⟨(fun h=>by cases h),fun ys hy=> ?_⟩
   injection hy with hy
   subst hy
   exact ⟨t.1,r.later t.2⟩
  ·rw [if_neg h0] at t⊢
   exact ⟨fun _=>⟨t.1,r.q.later t.2⟩,(fun ys h=>by cases h)⟩
namespace M
end M
end Go.Proofs.YtjpmpjbembhldaaGreatDoor.Hd

/-! KhHdPrintW -/
namespace Go.Proofs.YtjpmpjbembhldaaGreatDoor.Hd
open Go.RowKit Go.Lib
structure HIn (w:World) (h:M.Hdr) (pv:Value):Prop where
 parts:PartsB w w.heap.size pv h.parts
 nums:i64p h.parts
 kind:0≤h.kind∧h.kind≤255
 ints:(-9223372036854775808≤h.mode∧h.mode≤9223372036854775807)∧(-9223372036854775808≤h.uid∧h.uid≤9223372036854775807)∧(-9223372036854775808≤h.gid∧h.gid≤9223372036854775807)∧(-9223372036854775808≤h.size∧h.size≤9223372036854775807)∧(-9223372036854775808≤h.mtime∧h.mtime≤9223372036854775807)∧
  (-9223372036854775808≤h.major∧h.major≤9223372036854775807)∧(-9223372036854775808≤h.minor∧h.minor≤9223372036854775807)∧(-9223372036854775808≤h.real∧h.real≤9223372036854775807)
 texts:h.name.size≤100000∧h.link.size≤100000∧h.user.size≤100000∧h.group.size≤100000∧h.pre.size≤100000
theorem PartsB.mono {w:World} {B B':Nat} {pv:Value} {l:List (Int × Int)} (h:PartsB w B pv l) (hb:B≤B'):PartsB w B' pv l:=by
 obtain ⟨A,c,rfl,h1,h2⟩:=h
 exact ⟨A,c,rfl,h1,fun hl=>let ⟨b,off,e,h4,h5⟩:=h2 hl;⟨b,off,e,Nat.lt_of_lt_of_le h4 hb,h5⟩⟩
end Go.Proofs.YtjpmpjbembhldaaGreatDoor.Hd
