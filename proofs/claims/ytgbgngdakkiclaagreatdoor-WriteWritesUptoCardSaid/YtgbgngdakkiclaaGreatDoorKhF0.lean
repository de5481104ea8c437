/-
  Texts of one chapter, merged.
-/
import Derived.Test.YtgbgngdakkiclaaGreatDoorKhA0
import Derived.Test.YtgbgngdakkiclaaGreatDoorKhA1
import Derived.Test.YtgbgngdakkiclaaGreatDoorShelf
import Derived.Lib.Hide
import Derived.WalkKit
import Derived.IntWalk
import Derived.LoopTactic
import Derived.Laws.BytesString
import Derived.Laws.IdiomStrings
import Derived.Laws.MakeOwn
import Derived.Deep.OwnRows
import Derived.Deep.WholeRow
import Derived.Lib.BufferWrite
import Derived.Lib.SlBytesConst
import Derived.Lib.Bytes
import Derived.Defers
import Derived.Recover
import Derived.Laws.Pointers
import Derived.WalkSmall
import Derived.WalkLawsBesides
import Derived.BigRegion
import Derived.StillTailTactics
import Derived.Test.YtgbgngdakkiclaaGreatDoorStepZ
import Derived.Deep.AppendLies
import Derived.Laws.OwnMore
import Derived.Laws.AppendOwn
import Derived.Lib.SliceRun
import Derived.Maps.AppendAt
import Derived.OwnWalk
import Derived.LoopN
set_option linter.unusedVariables false
set_option linter.unusedSimpArgs false
/-! KhHUtfRef -/
namespace Go.Proofs.YtgbgngdakkiclaaGreatDoor.Hd.S
open Go.RowKit Go.Shelf
theorem at_eq (s:ByteArray) (k:Nat) (h:k<s.size):M.at' s.data.toList k=(s[k]'h).toNat:=by
 unfold M.at'
 rw [List.getD_eq_getElem?_getD,List.getElem?_eq_getElem (by simpa using h)]
 rfl
theorem len_eq (s:ByteArray):s.data.toList.length=s.size:=rfl
end Go.Proofs.YtgbgngdakkiclaaGreatDoor.Hd.S

/-! KhHStrPut -/
namespace Go.Proofs.YtgbgngdakkiclaaGreatDoor.Hd.S
open Go.RowKit Go.Shelf
def ints (l:List UInt8):List Int:=l.map fun b=>(b.toNat:Int)
theorem ints_length (l:List UInt8):(ints l).length=l.length:=by simp [ints]
theorem ints_bd (l:List UInt8): ∀ z∈ints l,0≤z∧z≤255:=by
 intro z hz
 obtain ⟨b,_,rfl⟩:=List.mem_map.1 hz
 have:=UInt8.toNat_lt b
 omega
theorem ints_at {l:List UInt8} {k:Nat} (h:k<l.length):(ints l)[k]?=some ((l[k]).toNat:Int):=by simp [ints,h]
theorem Rd.new (w:World) (t:TypeId) (l:List UInt8):Rd (w.alloc (.cells (Lib.byteCells l).toArray t)) (w.heap.size+1) (some ⟨w.heap.size,0,none⟩) l.length (ints l):=by
 refine ⟨ints_length l,ints_bd l,fun _=>⟨_,0,rfl,Nat.lt_succ_self _,fun j z hj=> ?_⟩⟩
 have hb:(w.alloc (.cells (Lib.byteCells l).toArray t)).heap[w.heap.size]?=some (.cells (Lib.byteCells l).toArray t (0,0)):=heap_alloc_new w _
 rw [cell_of_row _ _ _ _ _ _ hb,Nat.zero_add]
 unfold ints at hj
 rw [List.getElem?_map] at hj
 cases hx:l[j]? with
 |none=>rw [hx] at hj;cases hj
 |some x=>
  rw [hx] at hj
  injection hj with hj
  subst hj
  simp [Lib.byteCells,hx]
namespace M
def put (l:List UInt8) (n:Int):Option (List UInt8):=if (l.length:Int)≤n∧ ¬ (0:UInt8)∈l then some (l++List.replicate (n.toNat - l.length) 0) else none
def cut:List UInt8→List UInt8
 | []=> []
 |c::l=>if c=0 then [] else c::cut l
end M
def PutIs (w:World) (r:Option (List UInt8)) (e:Ending) (w':World):Prop:=
 ∃ A n c,e= .returned (.tuple #[.slice A n c, .bool r.isSome])∧n≤c∧c≤100000∧Rd w' w'.heap.size A n (ints (r.getD []))∧Below w.heap.size w w'∧(A=none→c=0)
theorem PutIs.no {w w':World} (h:Below w.heap.size w w'):PutIs w none (.returned (.tuple #[.slice none 0 0, .bool false])) w':=
 ⟨none,0,0,rfl,Nat.le_refl _,by omega,Rd.none_,h,fun _=>rfl⟩
theorem u8_info:(Tryz.prog.info? 5).map (fun i=>(i.zero,i.size,i.bytes))=some (some (.int .u8 0),1,1):=by kernel_rfl
theorem u8_size:(Tryz.prog.info? 5).map (·.size)=some 1:=by kernel_rfl
theorem indexByte_zero: ∀ (l:List UInt8),(0:UInt8)∈l↔0≤Lib.indexByte l 0
 | []=>by simp [Lib.indexByte]
 |b::l=>by
  have ih:=indexByte_zero l
  have hge:=(M.indexByte_ge l 0).1
  have e:Lib.indexByte (b::l) 0=if b==0 then 0 else if Lib.indexByte l 0== -1 then -1 else Lib.indexByte l 0+1:=rfl
  rw [List.mem_cons,ih,e]
  clear e
  by_cases hb:b=0
  ·simp [hb]
  ·have h1:(b==0)=false:=by simpa using hb
   rw [h1]
   simp only [Bool.false_eq_true,if_false]
   have h2: ¬ (0:UInt8)=b:=fun e=>hb e.symm
   by_cases h3:Lib.indexByte l 0= -1
   ·rw [h3];simp [h2]
   ·have h4:(Lib.indexByte l 0== -1)=false:=by simpa using h3
    rw [h4]
    simp only [Bool.false_eq_true,if_false]
    constructor
    ·rintro (e|e)
     ·exact absurd e h2
     ·omega
    ·intro _
     exact .inr (by omega)
theorem put_row (s:ByteArray) (N:Nat):
  (List.take 0 (madeCells #[Value.int .u8 0] N).toList++Lib.byteCells s.data.toList++(madeCells #[Value.int .u8 0] N).toList.drop (0+s.size)).toArray=(Lib.byteCells (s.data.toList++List.replicate (N - s.size) 0)).toArray:=by
 rw [toList_madeCells_one,List.take_zero,List.nil_append,Nat.zero_add,List.drop_replicate]
 congr 1
 simp [Lib.byteCells]
set_option maxRecDepth 100000 in
set_option maxHeartbeats 1000000 in
theorem put_any (s:ByteArray) (hs:s.size≤100000) (n:Int) (h1: -9223372036854775808≤n) (h2:n≤100000) (w:World):
  Calls Tryz.prog 142 #[.string s, .int .i64 n] w (PutIs w (M.put s.data.toList n)):=by
 have hix:=M.indexByte_ge s.data.toList 0
 have hz:=indexByte_zero s.data.toList
 rw [len_eq] at hix
 by_cases hw:(s.size:Int)≤n
 ·by_cases h0:(0:UInt8)∈s.data.toList
  ·have hr:M.put s.data.toList n=none:=by unfold M.put;rw [if_neg (fun h=>h.2 h0)]
   have hi:=hz.1 h0
   rw [hr]
   have HI:=Lib.hid hi
   clear hz h0 hr
   go_enter Tryz.func142,Tryz.ntmps142
   go_wp2_with (go_at_call 140;refine (Tryz.strings_IndexByte _ _ _).mono ?_;rintro e w' ⟨rfl,rfl⟩)
   go_ret2
   exact PutIs.no (Below.refl _ _)
  ·obtain ⟨N,rfl⟩: ∃ N:Nat,n=N:=⟨n.toNat,by omega⟩
   have hr:M.put s.data.toList N=some (s.data.toList++List.replicate (N - s.size) 0):=by
    unfold M.put;rw [if_pos ⟨by rw [len_eq];exact hw,h0⟩,len_eq,Int.toNat_natCast]
   have hi:Lib.indexByte s.data.toList 0= -1:=by
    have: ¬ 0≤Lib.indexByte s.data.toList 0:=fun e=>h0 (hz.2 e)
    omega
   rw [hr]
   have HI:=Lib.hid (show Lib.indexByte s.data.toList (0:Int).toNat.toUInt8= -1 from hi)
   clear hz h0 hr hi hix
   have hN:s.size≤N:=by omega
   have hmk:=run_make_row' (P:=Tryz.prog) 22 5 (.int .u8 0) 1 Tryz.underlying22 u8_info rfl .i64 .i64 N (by omega) (by omega)
   have hb:(w.alloc (.cells (madeCells #[.int .u8 0] N) 5)).heap[w.heap.size]?=some (.cells (madeCells #[.int .u8 0] N) 5 (0,0)):=heap_alloc_new w _
   have hcp: ∀ ty,(Builtin.copy_ #[22,9] ty #[.slice (some ⟨w.heap.size,0,none⟩) N N, .string s]).run Tryz.prog (w.alloc (.cells (madeCells #[.int .u8 0] N) 5))=
     .ok (.int .i64 s.size) (w.alloc (.cells (Lib.byteCells (s.data.toList++List.replicate (N - s.size) 0)).toArray 5)):=by
    intro ty
    have h:=Lib.run_copy_row_string (P:=Tryz.prog) _ 22 9 ty 5 w.heap.size 0 N N s _ _ Tryz.underlying22 u8_size hb hN (by rw [size_madeCells];omega)
    rw [put_row s N,World.setRow_alloc_new] at h
    exact h
   have hrd:=Rd.new w 5 (s.data.toList++List.replicate (N - s.size) 0)
   have hlen:(s.data.toList++List.replicate (N - s.size) 0).length=N:=by rw [List.length_append,len_eq,List.length_replicate];omega
   rw [hlen] at hrd
   have HH:=Lib.hid hrd
   clear hrd hlen hb
   go_enter Tryz.func142,Tryz.ntmps142
   go_wp2_with (go_at_call 140;refine (Tryz.strings_IndexByte _ _ _).mono ?_;rintro e w' ⟨rfl,rfl⟩;rw [HI.out])
   go_ret2
   exact ⟨_,N,N,rfl,Nat.le_refl _,by omega,by simpa using HH.out,(Below.refl _ _).alloc (Nat.le_refl _) _,fun e=>by cases e⟩
 ·have hr:M.put s.data.toList n=none:=by unfold M.put;rw [if_neg (fun h=>by have:=h.1;rw [len_eq] at this;omega)]
  rw [hr]
  clear hz hr hix
  have hw':n<(s.size:Int):=by omega
  clear hw
  go_enter Tryz.func142,Tryz.ntmps142
  go_wp2
  go_ret2
  exact PutIs.no (Below.refl _ _)
end Go.Proofs.YtgbgngdakkiclaaGreatDoor.Hd.S

/-! KhHStrCut -/
namespace Go.Proofs.YtgbgngdakkiclaaGreatDoor.Hd.S
open Go.RowKit Go.Shelf
theorem zero_mem {l:List UInt8} {k:Nat} (h:k<l.length):M.at' l k=0↔l[k]=0:=by
 unfold M.at'
 rw [List.getD_eq_getElem?_getD,List.getElem?_eq_getElem h,Option.getD_some,←UInt8.toNat_inj]
 rfl
theorem not_mem_take_succ {l:List UInt8} {k:Nat} (h:k<l.length) (h1: ¬ (0:UInt8)∈l.take k) (h2: ¬ M.at' l k=0): ¬ (0:UInt8)∈l.take (k+1):=by
 rw [List.take_succ_eq_append_getElem h,List.mem_append,List.mem_singleton,not_or]
 exact ⟨h1,fun e=>h2 ((zero_mem h).2 e.symm)⟩
def rowTo (l:List UInt8) (k:Nat) (j:Nat):Int:=if j<k then M.at' l j else 0
def RowB (w:World) (b N:Nat) (g:Nat→Int):Prop:=w.rowIs b 5 N (fun j=> .int .u8 (g j))
section
variable {w w':World} {b N:Nat} {g h:Nat→Int}
theorem RowB.cell (r:RowB w b N g) {i:Nat} (hi:i<N):w.cell? ⟨b,i,none⟩=some (.int .u8 (g i)):=World.rowIs.cell r hi
theorem RowB.frozen (r:RowB w b N g) (i:Nat):w.frozen? ⟨b,i,none⟩=false:=World.rowIs.frozen r i
theorem RowB.lt (r:RowB w b N g):b<w.heap.size:=World.rowIs.lt r
theorem RowB.to (r:RowB w b N g) (e: ∀ i,i<N→g i=h i):RowB w b N h:=World.rowIs.congr r fun i hi=>by rw [e i hi]
theorem RowB.set (r:RowB w b N g) (i:Nat) (v:Int):RowB (w.setCell ⟨b,i,none⟩ (.int .u8 v)) b N (fun j=>if j=i then v else g j):=
 (World.rowIs.set r i (.int .u8 v)).congr fun j _=>by
  show (if j=i then _ else _)=Value.int .u8 (if j=i then v else g j)
  split<;>rfl
theorem RowB.made (w:World) (N:Nat):RowB (w.alloc (.cells (madeCells #[.int .u8 0] N) 5)) w.heap.size N (fun _=>0):=World.rowIs_made w _ N _
end
theorem at_append_replicate (l:List UInt8) (n j:Nat):(M.at' (l++List.replicate n 0) j:Int)=rowTo l l.length j:=by
 unfold rowTo M.at'
 rw [List.getD_eq_getElem?_getD,List.getD_eq_getElem?_getD]
 split
 ·rename_i h
  rw [List.getElem?_append_left h]
 ·rename_i h
  rw [List.getElem?_append_right (by omega),List.getElem?_replicate]
  split<;>rfl
theorem RowB.rd {w:World} {b N:Nat} {l:List UInt8} (r:RowB w b N (fun j=>M.at' l j)) (hl:l.length=N):Rd w w.heap.size (some ⟨b,0,none⟩) N (ints l):=by
 refine ⟨by rw [ints_length,hl],ints_bd l,fun _=>⟨b,0,rfl,r.lt,fun j z hz=> ?_⟩⟩
 have hj:j<l.length:=by
  have:=(List.getElem?_eq_some_iff.1 hz).1
  rwa [ints_length] at this
 rw [ints_at hj] at hz
 injection hz with hz
 subst hz
 have:=r.cell (i:=j) (by omega)
 rw [Nat.zero_add,this]
 unfold M.at'
 rw [List.getD_eq_getElem?_getD,List.getElem?_eq_getElem hj]
 rfl
end Go.Proofs.YtgbgngdakkiclaaGreatDoor.Hd.S

/-! KhHStrPutO -/
namespace Go.Proofs.YtgbgngdakkiclaaGreatDoor.Hd.S
open Go.RowKit Go.Shelf
def PutOwnS (w:World) (r:Option (List UInt8)) (e:Ending) (w':World):Prop:=
 ∃ A n c,e= .returned (.tuple #[.slice A n c, .bool r.isSome])∧n≤c∧c≤100000∧Rd w' w'.heap.size A n (ints (r.getD []))∧Below w.heap.size w w'∧(∀ b off,A=some ⟨b,off,none⟩→w.heap.size≤b)
theorem PutOwnS.no {w w':World} (h:Below w.heap.size w w'):PutOwnS w none (.returned (.tuple #[.slice none 0 0, .bool false])) w':=
 ⟨none,0,0,rfl,Nat.le_refl _,by omega,Rd.none_,h,fun _ _ h=>nomatch h⟩
set_option maxRecDepth 100000 in
set_option maxHeartbeats 1000000 in
theorem refPut_own (s:ByteArray) (hs:s.size≤100000) (n:Int) (h1: -9223372036854775808≤n) (h2:n≤100000) (w:World):
  Calls Tryz.prog 78 #[.string s, .int .i64 n] w (PutOwnS w (M.put s.data.toList n)):=by
 by_cases hw:(s.size:Int)≤n
 ·obtain ⟨N,rfl⟩: ∃ N:Nat,n=N:=⟨n.toNat,by omega⟩
  have hN:s.size≤N:=by omega
  have hmk:=run_make_row' (P:=Tryz.prog) 22 5 (.int .u8 0) 1 Tryz.underlying22 u8_info rfl .i64 .i64 N (by omega) (by omega)
  go_enter Tryz.func78,Tryz.ntmps78
  go_wp2
  clear hmk
  go_loopw [7] (fun i wr=> ∃ k:Nat,i= .int .i64 k∧k≤s.size∧ ¬ (0:UInt8)∈s.data.toList.take k∧RowB wr w.heap.size N (rowTo s.data.toList k)∧Below w.heap.size w wr) (fun i _=>s.size - (intOf i).toNat)
  case atStart=>exact ⟨0,rfl,Nat.zero_le _,by simp,(RowB.made w N).to (fun i _=>by simp [rowTo]),(Below.refl _ _).alloc (Nat.le_refl _) _⟩
  case round=>
   obtain ⟨k,rfl,hk,hno,hrow,hbel⟩:=hrel
   by_cases hlt:k<s.size
   ·have hat:=at_eq s k hlt
    have hl:k<s.data.toList.length:=hlt
    have hb:(s[k]'hlt).toNat<256:=UInt8.toNat_lt _
    by_cases h0:M.at' s.data.toList k=0
    ·have hr:M.put s.data.toList N=none:=by
      unfold M.put
      rw [if_neg]
      rintro ⟨_,h⟩
      exact h ((zero_mem hl).1 h0▸List.getElem_mem hl)
     rw [hat] at h0
     have he:(((s[k]'hlt).toNat:Int)==0)=true:=by simp;omega
     have HR:=Lib.hid hr
     clear h0 hat hno hr hl
     go_wp2
     go_ret2
     rw [HR.out]
     exact PutOwnS.no hbel
    ·have hno2:=not_mem_take_succ hl hno h0
     have hne:(((s[k]'hlt).toNat:Int)==0)=false:=by rw [hat] at h0;simp;omega
     have hc:=hrow.cell (i:=k) (by omega)
     have hf:=hrow.frozen k
     have hset:=hrow.set k ((s[k]'hlt).toNat:Int)
     have hset2:RowB (wr.setCell ⟨w.heap.size,k,none⟩ (.int .u8 ((s[k]'hlt).toNat:Int))) w.heap.size N (rowTo s.data.toList (k+1)):=hset.to (fun i _=>by
      unfold rowTo
      by_cases e:i=k
      ·subst e;rw [if_pos rfl,if_pos (by omega),hat]
      ·rw [if_neg e]
       by_cases e2:i<k
       ·rw [if_pos e2,if_pos (by omega)]
       ·rw [if_neg e2,if_neg (by omega)])
     have HN:=Lib.hid hno2
     clear hno hno2 h0 hat hl hset hrow
     by_cases hk0:k=0
     ·subst hk0
      go_wp2
      go_roundw
      case rel=>exact ⟨1,by go_num,by omega,HN.out,hset2,hbel.setCell (p:=⟨w.heap.size,0,none⟩) (Nat.le_refl _) _⟩
      case measure=>simp [intOf];omega
     ·have hk1:0<k:=by omega
      clear hk0
      go_wp2
      go_roundw
      case rel=>exact ⟨k+1,by go_num,by omega,HN.out,hset2,hbel.setCell (p:=⟨w.heap.size,k,none⟩) (Nat.le_refl _) _⟩
      case measure=>simp [intOf];omega
   ·obtain rfl:k=s.size:=by omega
    have hno': ¬ (0:UInt8)∈s.data.toList:=by rw [←List.take_length (l:=s.data.toList)];exact hno
    have hr:M.put s.data.toList N=some (s.data.toList++List.replicate (N - s.size) 0):=by
     unfold M.put;rw [if_pos ⟨by rw [len_eq];exact hw,hno'⟩,len_eq,Int.toNat_natCast]
    have hrd:Rd wr wr.heap.size (some ⟨w.heap.size,0,none⟩) N (ints (s.data.toList++List.replicate (N - s.size) 0)):=RowB.rd (hrow.to (fun i _=>by rw [at_append_replicate,len_eq])) (by rw [List.length_append,len_eq,List.length_replicate];omega)
    have HR:=Lib.hid hr
    have HH:=Lib.hid hrd
    clear hno hno' hr hrow hrd
    go_wp2
    go_ret2
    rw [HR.out]
    exact ⟨_,N,N,rfl,Nat.le_refl _,by omega,by simpa using HH.out,hbel,fun b off h=>by injection h with h;injection h with h;exact Nat.le_of_eq h⟩
 ·have hr:M.put s.data.toList n=none:=by unfold M.put;rw [if_neg (fun h=>by have:=h.1;rw [len_eq] at this;omega)]
  rw [hr]
  clear hr
  have hw':n<(s.size:Int):=by omega
  clear hw
  go_enter Tryz.func78,Tryz.ntmps78
  go_wp2
  go_ret2
  exact PutOwnS.no (Below.refl _ _)
end Go.Proofs.YtgbgngdakkiclaaGreatDoor.Hd.S

/-! KhHdMath -/
namespace Go.Proofs.YtgbgngdakkiclaaGreatDoor.Hd
namespace M
structure Hdr where
 name:ByteArray:=⟨#[]⟩
 mode:Int:=0
 uid:Int:=0
 gid:Int:=0
 size:Int:=0
 mtime:Int:=0
 kind:Int:=0
 link:ByteArray:=⟨#[]⟩
 way:Int:=0
 user:ByteArray:=⟨#[]⟩
 group:ByteArray:=⟨#[]⟩
 major:Int:=0
 minor:Int:=0
 pre:ByteArray:=⟨#[]⟩
 parts:List (Int × Int):= []
 more:Bool:=false
 real:Int:=0
def toB (zs:List Int):List UInt8:=zs.map fun z=>UInt8.ofNat z.toNat
def sub (zs:List Int) (at_ n:Nat):List Int:=(zs.drop at_).take n
theorem sub_len {zs:List Int} {a n:Nat} (h:a+n≤zs.length):(sub zs a n).length=n:=by
 unfold sub
 rw [List.length_take,List.length_drop]
 omega
theorem sub_bd {zs:List Int} {a n:Nat} (h: ∀ z∈zs,0≤z∧z≤255): ∀ z∈sub zs a n,0≤z∧z≤255:=
 fun z hz=>h z (List.mem_of_mem_drop (List.mem_of_mem_take hz))
def txt (zs:List Int) (a n:Nat):ByteArray:=⟨(S.M.cut (toB (sub zs a n))).toArray⟩
def num (zs:List Int) (a n:Nat):Int:=parN (sub zs a n)
def numOk (zs:List Int) (a n:Nat) (lo up:Int):Bool:=parOk (sub zs a n)&&(decide (lo≤num zs a n)&&decide (num zs a n≤up))
def known (c:Int):Bool:=decide (48≤c)&&decide (c≤55)||c==83||c==120||c==103||c==76||c==75
def may (kind way:Int):Bool:=kind !=83||way==2
def magic:Nat→List Int
 |0=> [0,0,0,0,0,0,0,0]
 |1=> [117,115,116,97,114,0,48,48]
 |_=> [117,115,116,97,114,32,32,0]
def way (zs:List Int):Option Nat:=
 if zs.length=512 then
  if sub zs 257 8=magic 0 then some 0 else if sub zs 257 8=magic 1 then some 1 else if sub zs 257 8=magic 2 then some 2 else none
 else none
def byt (zs:List Int) (a:Nat):Int:=zs.getD a 0
def kind (zs:List Int):Int:=if byt zs 156=0 then 48 else byt zs 156
def parts (zs:List Int):Nat→Nat→Option (List (Int × Int))
 |_,0=>some []
 |a,n+1=>
  if zs.length<a+24 then none
  else if numOk zs a 12 0 most&&numOk zs (a+12) 12 0 most then
   if num zs a 12=0∧num zs (a+12) 12=0 then some [] else (parts zs (a+24) n).map ((num zs a 12,num zs (a+12) 12):: ·)
  else none
end M
end Go.Proofs.YtgbgngdakkiclaaGreatDoor.Hd

/-! KhHdMem -/
namespace Go.Proofs.YtgbgngdakkiclaaGreatDoor.Hd
open Go.RowKit
def hcells (h:M.Hdr) (pv:Value):Array Value:=
 #[.string h.name, .int .i64 h.mode, .int .i64 h.uid, .int .i64 h.gid, .int .i64 h.size, .int .i64 h.mtime, .int .u8 h.kind, .string h.link, .int .i64 h.way, .string h.user, .string h.group, .int .i64 h.major, .int .i64 h.minor, .string h.pre,pv, .bool h.more, .int .i64 h.real]
def HB (w:World) (g:Nat) (h:M.Hdr) (pv:Value):Prop:=w.heap[g]?=some (.cells (hcells h pv) 39 (0,0))
section
variable {w w':World} {g:Nat} {h:M.Hdr} {pv:Value}
theorem HB.lt (hb:HB w g h pv):g<w.heap.size:=(Array.getElem?_eq_some_iff.1 hb).1
theorem HB.cell (hb:HB w g h pv) {i:Nat} {v:Value} (hv:(hcells h pv)[i]?=some v):w.cell? ⟨g,i,none⟩=some v:=by
 rw [cell_of_row w g i _ _ (0,0) hb];exact hv
theorem HB.frozen (hb:HB w g h pv) (i:Nat):w.frozen? ⟨g,i,none⟩=false:=frozen_of_row w g i _ _ hb
theorem HB.of_block (hb:HB w g h pv) (e:w'.heap[g]?=w.heap[g]?):HB w' g h pv:=e.trans hb
theorem HB.other (hb:HB w g h pv) {a:Addr} (hn:g≠a.block) (v:Value):HB (w.setCell a v) g h pv:=hb.of_block (heap_setCell_other w a g v hn)
theorem HB.alloc (hb:HB w g h pv) (o:Obj):HB (w.alloc o) g h pv:=hb.of_block (by show (w.heap.push o)[g]?=_;rw [Array.getElem?_push,if_neg (Nat.ne_of_lt hb.lt)])
theorem HB.drew (hb:HB w g h pv):HB w.drew g h pv:=hb
theorem HB.below {B:Nat} (hb:HB w g h pv) (hw:Below B w w') (hB:g<B):HB w' g h pv:=hb.of_block (hw.block g hB)
theorem HB.new (w:World) (h:M.Hdr) (pv:Value):HB (w.alloc (.cells (hcells h pv) 39)) w.heap.size h pv:=heap_alloc_new w _
theorem HB.set (hb:HB w g h pv) (i:Nat) (v:Value) {h':M.Hdr} {pv':Value} (e:(hcells h pv).set! i v=hcells h' pv'):HB (w.setCell ⟨g,i,none⟩ v) g h' pv':=by
 unfold HB
 rw [heap_setCell_same w g i _ _ _ hb,←e]
 simp
end
theorem after_alloc {w W:World} {o:Obj} (h:w.alloc o=W):W.heap[w.heap.size]?=some o∧Below w.heap.size w W∧ ∀ a:Addr,a.block<w.heap.size→W.cell? a=w.cell? a:=by
 subst h
 exact ⟨heap_alloc_new w o,(Below.refl _ w).alloc (Nat.le_refl _) o,fun a ha=>World.cell?_alloc_lt w o a ha⟩
def boom (n:Int):List PanicEntry:= [{ v:= .iface 27 (.int .u16 n),recovered:=false }]
theorem demand_yes (n:Int) (w:World):Calls Tryz.prog 102 #[.bool true, .int .u16 n] w fun e w'=>e= .returned (.tuple #[])∧w=w':=by
 go_enter Tryz.func102,Tryz.ntmps102
 go_wp2
 go_end0
 all_goals exact ⟨rfl,rfl⟩
theorem demand_no (n:Int) (w:World):Calls Tryz.prog 102 #[.bool false, .int .u16 n] w fun e w'=>e= .panicked (boom n)∧w=w':=by
 go_enter Tryz.func102,Tryz.ntmps102
 go_wp2
 all_goals exact ⟨rfl,rfl,rfl⟩
theorem errno_nil (w:World):(Instr.typeAssert .nilIface 20 27 true).run Tryz.prog w= .ok (.tuple #[.int .u16 0, .bool false]) w:=by kernel_rfl
theorem errno_some (n:Int) (w:World):(Instr.typeAssert (.iface 27 (.int .u16 n)) 20 27 true).run Tryz.prog w= .ok (.tuple #[.int .u16 n, .bool true]) w:=by kernel_rfl
theorem hdr_size:(Tryz.prog.info? 39).map (·.size)=some 17:=by kernel_rfl
end Go.Proofs.YtgbgngdakkiclaaGreatDoor.Hd

/-! KhHdSmall -/
namespace Go.Proofs.YtgbgngdakkiclaaGreatDoor.Hd
open Go.RowKit Go.Lib
def tfv (a n:Int) (there:Bool) (p:Addr):Value:= .agg #[.int .i64 a, .int .i64 n, .bool there, .pointer (some p)]
def nfv (a n:Int) (there:Bool) (lo up:Int) (p:Addr):Value:= .agg #[.int .i64 a, .int .i64 n, .bool there, .int .i64 lo, .int .i64 up, .pointer (some p)]
set_option maxHeartbeats 1000000 in
theorem known_any (c:Int) (w:World):Calls Tryz.prog 103 #[.int .u8 c] w fun e w'=>e= .returned (.bool (M.known c))∧w=w':=by
 go_enter Tryz.func103,Tryz.ntmps103
 go_wp2
 all_goals
  go_ret
  refine ⟨ret_bool (Bool.eq_iff_iff.2 ?_),rfl⟩
  unfold M.known
  simp at*
  try omega
set_option maxHeartbeats 1000000 in
theorem may_any (k v:Int) (w:World):Calls Tryz.prog 104 #[.int .u8 k, .int .i64 v] w fun e w'=>e= .returned (.bool (M.may k v))∧w=w':=by
 cases hk:k !=83
 ·go_enter Tryz.func104,Tryz.ntmps104
  go_wp2
  go_ret
  exact ⟨ret_bool (by unfold M.may;rw [hk];rfl),rfl⟩
 ·go_enter Tryz.func104,Tryz.ntmps104
  go_wp2
  go_ret
  exact ⟨ret_bool (by unfold M.may;rw [hk];rfl),rfl⟩
set_option maxHeartbeats 1000000 in
theorem mayTell_any (a m:Int) (there:Bool) (lo up:Int) (p:Addr) (x:Int) (w:World):
  Calls Tryz.prog 144 #[nfv a m there lo up p, .int .i64 x] w fun e w'=>e= .returned (.bool (decide (lo≤x)&&decide (x≤up)))∧Below w.heap.size w w':=by
 unfold nfv
 cases hl:decide (lo≤x)
 ·go_enter Tryz.func144,Tryz.ntmps144
  go_wp2
  go_ret
  exact ⟨rfl,(Below.refl _ _).alloc (Nat.le_refl _) _⟩
 ·go_enter Tryz.func144,Tryz.ntmps144
  go_wp2
  go_ret
  exact ⟨rfl,(Below.refl _ _).alloc (Nat.le_refl _) _⟩
end Go.Proofs.YtgbgngdakkiclaaGreatDoor.Hd

/-! KhHdField -/
namespace Go.Proofs.YtgbgngdakkiclaaGreatDoor.Hd
open Go.RowKit Go.Lib
theorem Rd.sub {w:World} {B b off n:Nat} {zs:List Int} (h:Rd w B (some ⟨b,off,none⟩) n zs) {a m:Nat} (ham:a+m≤n):Rd w B (some ⟨b,off+a,none⟩) m (M.sub zs a m):=by
 refine ⟨M.sub_len (by rw [h.len];exact ham),M.sub_bd h.bd,fun hm=> ?_⟩
 obtain ⟨b',off',e,hb,hc⟩:=h.2.2 (by omega)
 injection e with e
 injection e with e1 e2
 subst e1 e2
 refine ⟨_,_,rfl,hb,fun j z hj=> ?_⟩
 unfold M.sub at hj
 rw [List.getElem?_take] at hj
 split at hj
 ·rw [List.getElem?_drop] at hj
  rw [Nat.add_assoc]
  exact hc _ z hj
 ·cases hj
def NumTo (zs:List Int) (a m:Nat) (there:Bool) (lo up:Int) (p:Addr) (w:World) (e:Ending) (w':World):Prop:=
 if there=true then
  if M.numOk zs a m lo up=true then e= .returned (.tuple #[])∧ ∃ w1,Below w.heap.size w w1∧w'=w1.setCell p (.int .i64 (M.num zs a m))
  else e= .panicked (boom 32)∧Below w.heap.size w w'
 else e= .returned (.tuple #[])∧Below w.heap.size w w'
end Go.Proofs.YtgbgngdakkiclaaGreatDoor.Hd

/-! KhHdText -/
namespace Go.Proofs.YtgbgngdakkiclaaGreatDoor.Hd
open Go.RowKit Go.Lib
def TxtTo (zs:List Int) (a m:Nat) (there:Bool) (p:Addr) (w:World) (e:Ending) (w':World):Prop:=
 e= .returned (.tuple #[])∧if there=true then ∃ w1,Below w.heap.size w w1∧w'=w1.setCell p (.string (M.txt zs a m)) else Below w.heap.size w w'
end Go.Proofs.YtgbgngdakkiclaaGreatDoor.Hd

/-! KhHdWay -/
namespace Go.Proofs.YtgbgngdakkiclaaGreatDoor.Hd
open Go.RowKit Go.Lib
def mgs:Nat→ByteArray
 |0=>⟨#[0,0,0,0,0,0,0,0]⟩
 |1=>⟨#[117,115,116,97,114,0,48,48]⟩
 |_=>⟨#[117,115,116,97,114,32,32,0]⟩
def MG (w:World):Prop:=w.cell? ⟨1,0,none⟩=some (.string ⟨#[0,0,0,0,0,0,0,0]⟩)∧w.cell? ⟨1,1,none⟩=some (.string ⟨#[117,115,116,97,114,0,48,48]⟩)∧w.cell? ⟨1,2,none⟩=some (.string ⟨#[117,115,116,97,114,32,32,0]⟩)
theorem MG.lt {w:World} (h:MG w):1<w.heap.size:=World.block_lt_of_cell? _ _ h.1
theorem MG.below {w w':World} {B:Nat} (h:MG w) (hb:Below B w w') (hB:1<B):MG w':=
 ⟨(hb.cell (p:=⟨_,0,none⟩) hB).trans h.1,(hb.cell (p:=⟨_,1,none⟩) hB).trans h.2.1,(hb.cell (p:=⟨_,2,none⟩) hB).trans h.2.2⟩
theorem MG.later {w w':World} (h:MG w) (hb:Below w.heap.size w w'):MG w':=h.below hb h.lt
theorem toList_inj {a b:ByteArray} (h:a.toList=b.toList):a=b:=by
 rw [ByteArray.toList_eq,ByteArray.toList_eq] at h
 obtain ⟨⟨a⟩⟩:=a
 obtain ⟨⟨b⟩⟩:=b
 simpa using h
end Go.Proofs.YtgbgngdakkiclaaGreatDoor.Hd

/-! KhHdArr -/
namespace Go.Proofs.YtgbgngdakkiclaaGreatDoor.Hd
open Go.RowKit Go.Lib
def textsV (g:Nat) (v:Int):Array Value:=
 #[.int .i64 0, .int .i64 100, .bool true, .pointer (some ⟨g,0,none⟩),
   .int .i64 157, .int .i64 100, .bool true, .pointer (some ⟨g,7,none⟩),
   .int .i64 265, .int .i64 32, .bool (v !=0), .pointer (some ⟨g,9,none⟩),
   .int .i64 297, .int .i64 32, .bool (v !=0), .pointer (some ⟨g,10,none⟩),
   .int .i64 345, .int .i64 155, .bool (v==1), .pointer (some ⟨g,13,none⟩)]
theorem textsV_one (g:Nat) (v:Int):(textsV g v).all (·.oneCell')=true:=by simp [textsV,Value.oneCell']
theorem texts_size:(Tryz.prog.info? 158).map (·.size)=some 20:=by kernel_rfl
theorem below_setRow {B:Nat} {w0 w:World} (h:Below B w0 w) {g:Nat} (hg:B≤g) (cs:Array Value):Below B w0 (w.setRow g cs):=
 h.trans ⟨rfl,rfl,rfl,by simp,fun k hk=>setRow_other w g k cs (by omega)⟩
theorem results_row {f:Func} {k:Nat} {t:TypeId} {d:TypeDesc} (hf:f.results= #[ResultVar.cell k t]) (hd:(match d with| .struct _| .array _ _=>true|_=>false)=true) (hu:Tryz.prog.underlying t=some d)
  {tmps:Array Value} {g:Nat} {cs:Array Value} {e:TypeId} {w:World} (hk:tmps.getD k undef= .pointer (some ⟨g,0,none⟩)) (hb:w.heap[g]?=some (.cells cs e (0,0)))
  (hs:(Tryz.prog.info? t).map (·.size)=some cs.size):(results f tmps).run Tryz.prog w= .ok (.agg cs) w:=by
 rw [Array.getD_eq_getD_getElem?] at hk
 have hl:=run_loadVar_row (P:=Tryz.prog) w g e t cs (0,0) d hb hu (by cases d<;>first|rfl|cases hd) hs
 simp [results,hf,hk,asAddr,hl]
set_option maxRecDepth 100000 in
set_option maxHeartbeats 2000000 in
theorem texts_any (g:Nat) (h:M.Hdr) (pv:Value) (w:World) (hb:HB w g h pv):
  Calls Tryz.prog 105 #[.pointer (some ⟨g,0,none⟩)] w fun e w'=>e= .returned (.agg (textsV g h.way))∧Below w.heap.size w w':=by
 have hw:w.cell? ⟨g,8,none⟩=some (.int .i64 h.way):=hb.cell rfl
 have hlt:=hb.lt
 go_enter Tryz.func105,Tryz.ntmps105
 go_wp2
 generalize hW:w.alloc _=W
 obtain ⟨hq,hB,hold⟩:=after_alloc hW
 have c0:({ W with drawn:=W.drawn+1 } :World).cell? ⟨g,8,none⟩=some (.int .i64 h.way):=(hold ⟨g,8,none⟩ hlt).trans hw
 have HB:=hid (below_drew' hB)
 unfold World.drew at HB
 clear hW hw hold hB
 refine wp_region_still_tail 28 (by kernel_rfl) (by kernel_rfl) ?_
 simp only [List.take_succ_cons,List.take_zero,List.drop_succ_cons,List.drop_zero]
 have HQ:=hid (show ({ W with drawn:=W.drawn+1 } :World).heap[w.heap.size]?=_ from hq)
 clear hq
 generalize ({ W with drawn:=W.drawn+1 } :World)=V at*
 repeat still_step
 try refine wpStill_nil ?_
 go_wp2_with ((refine wpList_store_row rfl 158 (.tmp 2) (.tmp 36) rfl w.heap.size (textsV g h.way) (by simp [Act.eval]) (by simp [Act.eval,textsV]) 158 _ HQ.out texts_size rfl (textsV_one _ _) ?_))
 refine bodyPost_ret (results_row rfl rfl Tryz.underlying158 (by rfl) (setRow_heap _ _ _ _ _ _ HQ.out) texts_size) rfl ⟨rfl,below_setRow HB.out (Nat.le_refl _) _⟩
def numbersV (g:Nat) (k v:Int):Array Value:=
 #[.int .i64 100, .int .i64 8, .bool true, .int .i64 0, .int .i64 4611686018427387904, .pointer (some ⟨g,1,none⟩),
   .int .i64 108, .int .i64 8, .bool true, .int .i64 0, .int .i64 4611686018427387904, .pointer (some ⟨g,2,none⟩),
   .int .i64 116, .int .i64 8, .bool true, .int .i64 0, .int .i64 4611686018427387904, .pointer (some ⟨g,3,none⟩),
   .int .i64 124, .int .i64 12, .bool true, .int .i64 0, .int .i64 1099511627776, .pointer (some ⟨g,4,none⟩),
   .int .i64 136, .int .i64 12, .bool true, .int .i64 (-4611686018427387904), .int .i64 4611686018427387904, .pointer (some ⟨g,5,none⟩),
   .int .i64 329, .int .i64 8, .bool (v !=0), .int .i64 0, .int .i64 4611686018427387904, .pointer (some ⟨g,11,none⟩),
   .int .i64 337, .int .i64 8, .bool (v !=0), .int .i64 0, .int .i64 4611686018427387904, .pointer (some ⟨g,12,none⟩),
   .int .i64 483, .int .i64 12, .bool (k==83&&v==2), .int .i64 0, .int .i64 1099511627776, .pointer (some ⟨g,16,none⟩)]
theorem numbersV_one (g:Nat) (k v:Int):(numbersV g k v).all (·.oneCell')=true:=by simp [numbersV,Value.oneCell']
theorem numbers_size:(Tryz.prog.info? 163).map (·.size)=some 48:=by kernel_rfl
set_option maxRecDepth 100000 in
set_option maxHeartbeats 2000000 in
theorem numbers_any (g:Nat) (h:M.Hdr) (pv:Value) (w:World) (hb:HB w g h pv):
  Calls Tryz.prog 107 #[.pointer (some ⟨g,0,none⟩)] w fun e w'=>e= .returned (.agg (numbersV g h.kind h.way))∧Below w.heap.size w w':=by
 have hw:w.cell? ⟨g,8,none⟩=some (.int .i64 h.way):=hb.cell rfl
 have hk:w.cell? ⟨g,6,none⟩=some (.int .u8 h.kind):=hb.cell rfl
 have hlt:=hb.lt
 cases hkk:h.kind==83
 all_goals
  go_enter Tryz.func107,Tryz.ntmps107
  go_wp2
  generalize hW:w.alloc _=W
  obtain ⟨hq,hB,hold⟩:=after_alloc hW
  have c0:({ W with drawn:=W.drawn+1 } :World).cell? ⟨g,8,none⟩=some (.int .i64 h.way):=(hold ⟨g,8,none⟩ hlt).trans hw
  have c1:({ W with drawn:=W.drawn+1 } :World).cell? ⟨g,6,none⟩=some (.int .u8 h.kind):=(hold ⟨g,6,none⟩ hlt).trans hk
  have HB:=hid (below_drew' hB)
  unfold World.drew at HB
  clear hW hw hk hold hB
  refine wp_region_still_tail 36 (by kernel_rfl) (by kernel_rfl) ?_
  simp only [List.take_succ_cons,List.take_zero,List.drop_succ_cons,List.drop_zero]
  have HQ:=hid (show ({ W with drawn:=W.drawn+1 } :World).heap[w.heap.size]?=_ from hq)
  clear hq
  generalize ({ W with drawn:=W.drawn+1 } :World)=V at*
  repeat still_step
  try refine wpStill_nil ?_
  go_wp2_with (refine wpList_store_row rfl 163 (.tmp 2) (.tmp 57) rfl w.heap.size (numbersV g h.kind h.way) (by simp [Act.eval]) (by simp [Act.eval,numbersV,hkk]) 163 _ HQ.out numbers_size rfl (numbersV_one _ _ _) ?_)
  refine bodyPost_ret (results_row rfl rfl Tryz.underlying163 (by rfl) (setRow_heap _ _ _ _ _ _ HQ.out) numbers_size) rfl ⟨rfl,below_setRow HB.out (Nat.le_refl _) _⟩
def pairV (g:Nat) (a:Int):Array Value:=
 #[.int .i64 a, .int .i64 12, .bool true, .int .i64 0, .int .i64 4611686018427387904, .pointer (some ⟨g,0,none⟩),
   .int .i64 (a+12), .int .i64 12, .bool true, .int .i64 0, .int .i64 4611686018427387904, .pointer (some ⟨g,1,none⟩)]
theorem pairV_one (g:Nat) (a:Int):(pairV g a).all (·.oneCell')=true:=by simp [pairV,Value.oneCell']
theorem pair_size:(Tryz.prog.info? 179).map (·.size)=some 12:=by kernel_rfl
set_option maxRecDepth 100000 in
set_option maxHeartbeats 2000000 in
theorem pair_any (g:Nat) (a:Int) (h0:0≤a) (h1:a≤100000) (w:World):
  Calls Tryz.prog 145 #[.pointer (some ⟨g,0,none⟩), .int .i64 a] w fun e w'=>e= .returned (.agg (pairV g a))∧Below w.heap.size w w':=by
 have e1:IntKind.i64.wrap (a+12)=a+12:=IntWalk.i64_in _ (by omega)
 go_enter Tryz.func145,Tryz.ntmps145
 go_wp2
 generalize hW:w.alloc _=W
 obtain ⟨hq,hB,hold⟩:=after_alloc hW
 have HB:=hid (below_drew' hB)
 unfold World.drew at HB
 clear hW hold hB
 refine wp_region_still_tail 12 (by kernel_rfl) (by kernel_rfl) ?_
 simp only [List.take_succ_cons,List.take_zero,List.drop_succ_cons,List.drop_zero]
 have HQ:=hid (show ({ W with drawn:=W.drawn+1 } :World).heap[w.heap.size]?=_ from hq)
 clear hq
 generalize ({ W with drawn:=W.drawn+1 } :World)=V at*
 repeat still_step
 try refine wpStill_nil ?_
 go_wp2_with (refine wpList_store_row rfl 179 (.tmp 4) (.tmp 16) rfl w.heap.size (pairV g a) (by simp [Act.eval]) (by simp [Act.eval,pairV,e1]) 179 _ HQ.out pair_size rfl (pairV_one _ _) ?_)
 refine bodyPost_ret (results_row rfl rfl Tryz.underlying179 (by rfl) (setRow_heap _ _ _ _ _ _ HQ.out) pair_size) rfl ⟨rfl,below_setRow HB.out (Nat.le_refl _) _⟩
end Go.Proofs.YtgbgngdakkiclaaGreatDoor.Hd

/-! KhHdParse -/
namespace Go.Proofs.YtgbgngdakkiclaaGreatDoor.Hd
open Go.RowKit Go.Lib
structure PF (w0 w:World) (h:M.Hdr) (pv:Value):Prop where
 box:HB w w0.heap.size h pv
 err:w.heap[w0.heap.size+1]?=some (.cells #[.int .u16 0] 27 (0,0))
 below:Below w0.heap.size w0 w
theorem PF.later {w0 w w':World} {h:M.Hdr} {pv:Value} (p:PF w0 w h pv) (hb:Below w.heap.size w w'):PF w0 w' h pv:=
 ⟨p.box.below hb p.box.lt,(hb.block _ (Array.getElem?_eq_some_iff.1 p.err).1).trans p.err,p.below.trans (hb.mono p.below.size)⟩
theorem PF.set {w0 w:World} {h h':M.Hdr} {pv pv':Value} (p:PF w0 w h pv) (i:Nat) (v:Value) (e:(hcells h pv).set! i v=hcells h' pv'):PF w0 (w.setCell ⟨w0.heap.size,i,none⟩ v) h' pv':=
 ⟨p.box.set i v e,(heap_setCell_other w ⟨w0.heap.size,i,none⟩ _ v (by simp)).trans p.err,p.below.setCell (p:=⟨w0.heap.size,i,none⟩) (Nat.le_refl _) v⟩
def PartsIs (w:World) (base:Nat) (pv:Value) (l:List (Int × Int)):Prop:=
 ∃ A c,pv= .slice A l.length c∧l.length≤c∧(0<l.length→ ∃ b off,A=some ⟨b,off,none⟩∧base≤b∧b<w.heap.size∧ ∀ (j:Nat) (p:Int × Int),l[j]?=some p→w.cell? ⟨b,off+2*j,none⟩=some (.int .i64 p.1)∧w.cell? ⟨b,off+2*j+1,none⟩=some (.int .i64 p.2))
theorem PartsIs.nil (w:World) (base:Nat):PartsIs w base (.slice none 0 0) []:=⟨none,0,rfl,Nat.le_refl _,fun h=>absurd h (by decide)⟩
theorem PartsIs.keep {w w':World} {base:Nat} {pv:Value} {l:List (Int × Int)} (h:PartsIs w base pv l) (hs:w.heap.size≤w'.heap.size) (hk: ∀ a:Addr,base≤a.block→a.block<w.heap.size→w'.cell? a=w.cell? a):PartsIs w' base pv l:=by
 obtain ⟨A,c,rfl,h1,h2⟩:=h
 refine ⟨A,c,rfl,h1,fun hl=> ?_⟩
 obtain ⟨b,off,e,h3,h4,h5⟩:=h2 hl
 exact ⟨b,off,e,h3,Nat.lt_of_lt_of_le h4 hs,fun j p hp=>⟨(hk _ h3 h4).trans (h5 j p hp).1,(hk _ h3 h4).trans (h5 j p hp).2⟩⟩
theorem PartsIs.later {w w':World} {base:Nat} {pv:Value} {l:List (Int × Int)} (h:PartsIs w base pv l) (hb:Below w.heap.size w w'):PartsIs w' base pv l:=h.keep hb.size fun a _ ha=>hb.cell ha
theorem PartsIs.set {w:World} {base:Nat} {pv:Value} {l:List (Int × Int)} (h:PartsIs w base pv l) (a:Addr) (ha:a.block<base) (v:Value):PartsIs (w.setCell a v) base pv l:=
 h.keep (by simp) fun q hq _=>World.cell?_setCell_other w a q v (fun e=>by subst e;omega)
theorem PartsIs.row {w:World} {base:Nat} {pv:Value} {l:List (Int × Int)} (h:PartsIs w base pv l) (g:Nat) (hg:g<base) (cs:Array Value):PartsIs (w.setRow g cs) base pv l:=
 h.keep (by simp) fun q hq _=>cell_setRow_other w g cs q (by omega)
end Go.Proofs.YtgbgngdakkiclaaGreatDoor.Hd

/-! KhHdPartsM -/
namespace Go.Proofs.YtgbgngdakkiclaaGreatDoor.Hd
open Go.RowKit Go.Lib
def pcells (l:List (Int × Int)):List Value:=l.flatMap fun p=> [.int .i64 p.1, .int .i64 p.2]
theorem pcells_at: ∀ {l:List (Int × Int)} {j:Nat} {p:Int × Int},l[j]?=some p→(pcells l)[2*j]?=some (.int .i64 p.1)∧(pcells l)[2*j+1]?=some (.int .i64 p.2)
 | [],j,p,h=>by simp at h
 |q::l,0,p,h=>by
  simp at h
  subst h
  exact ⟨rfl,rfl⟩
 |q::l,j+1,p,h=>by
  have ih:=pcells_at (l:=l) (j:=j) (p:=p) (by simpa using h)
  have e:pcells (q::l)= .int .i64 q.1:: .int .i64 q.2::pcells l:=rfl
  rw [e,show 2*(j+1)=2*j+1+1 by omega,List.getElem?_cons_succ,List.getElem?_cons_succ,List.getElem?_cons_succ,List.getElem?_cons_succ]
  exact ih
def OwnP (w:World) (base:Nat) (v:Value) (l:List (Int × Int)):Prop:=w.ownsRow base 113 2 v l.length (pcells l)
theorem OwnP.parts {w:World} {base:Nat} {v:Value} {l:List (Int × Int)} (h:OwnP w base v l):PartsIs w base v l:=by
 unfold OwnP at h
 by_cases hl:0<l.length
 ·obtain ⟨g,cap,rfl,hbg,hlt⟩:=h.form hl
  refine ⟨_,cap,rfl, ?_,fun _=>⟨g,0,rfl,hbg,hlt,fun j p hp=> ?_⟩⟩
  ·rcases h.2 with ⟨e,_⟩|⟨g',cap',cur,e,_,_,hnc,_⟩
   ·cases e
   ·injection e with _ _ e
    omega
  ·obtain ⟨h1,h2⟩:=pcells_at hp
   have c1:=h.cells (g:=g) rfl _ _ h1
   have c2:=h.cells (g:=g) rfl _ _ h2
   have e: ∀ k:Nat,(⟨g,0,none⟩:Addr).add k=⟨g,0+k,none⟩:=by
    intro k
    unfold Addr.add
    split
    ·rename_i h0;subst h0;rfl
    ·rfl
   rw [e] at c1 c2
   exact ⟨c1,by rw [Nat.add_assoc];exact c2⟩
 ·have h0:l= []:=List.eq_nil_of_length_eq_zero (by omega)
  subst h0
  rcases h.2 with ⟨rfl,_⟩|⟨g,cap,cur,rfl,_⟩
  ·exact PartsIs.nil w base
  ·exact ⟨_,cap,rfl,Nat.zero_le _,fun h=>absurd h (by decide)⟩
structure PL (w0 w:World) (v:Value) (l:List (Int × Int)):Prop where
 box:w.heap[w0.heap.size]?=some (.cells #[v] 32 (0,0))
 ok:w.heap[w0.heap.size+1]?=some (.cells #[.bool false] 4 (0,0))
 own:OwnP w (w0.heap.size+2) v l
 below:Below w0.heap.size w0 w
theorem OwnP.later {w w':World} {base:Nat} {v:Value} {l:List (Int × Int)} (h:OwnP w base v l) (hb:Below w.heap.size w w'):OwnP w' base v l:=
 World.ownsRow.kept (row:=none) h ⟨hb.os,hb.tape,hb.output,hb.size,fun k hk _=>hb.block k hk⟩ (by
  cases hv:v.ownBlock with
  |none=>exact .inl rfl
  |some g=>exact .inr (fun e=>nomatch e))
theorem PL.later {w0 w w':World} {v:Value} {l:List (Int × Int)} (p:PL w0 w v l) (hb:Below w.heap.size w w'):PL w0 w' v l:=
 ⟨(hb.block _ (Array.getElem?_eq_some_iff.1 p.box).1).trans p.box,(hb.block _ (Array.getElem?_eq_some_iff.1 p.ok).1).trans p.ok,p.own.later hb,p.below.trans (hb.mono p.below.size)⟩
theorem PL.next {w0 w w':World} {v v':Value} {l l':List (Int × Int)} (p:PL w0 w v l) (ho:OwnP w' (w0.heap.size+2) v' l') (hb:Below (w0.heap.size+2) w w'):PL w0 (w'.setCell ⟨w0.heap.size,0,none⟩ v') v' l':=by
 have hx:=(hb.block w0.heap.size (by omega)).trans p.box
 have hy:=(hb.block (w0.heap.size+1) (by omega)).trans p.ok
 refine ⟨?_,(heap_setCell_other w' ⟨w0.heap.size,0,none⟩ _ v' (by simp)).trans hy,ownsRow_setCell_below ho (by simp) _,(p.below.trans (hb.mono (by omega))).setCell (p:=⟨w0.heap.size,0,none⟩) (Nat.le_refl _) v'⟩
 have:=heap_setCell_same w' _ 0 _ _ v' hx
 simpa using this
structure PS (wr W:World) (p q:Int):Prop where
 box:W.heap[wr.heap.size]?=some (.cells #[.int .i64 p, .int .i64 q] 113 (0,0))
 below:Below wr.heap.size wr W
theorem PS.new (wr:World):PS wr (wr.alloc (.cells #[.int .i64 0, .int .i64 0] 113)) 0 0:=⟨heap_alloc_new wr _,(Below.refl _ wr).alloc (Nat.le_refl _) _⟩
theorem PS.later {wr W W':World} {p q:Int} (h:PS wr W p q) (hb:Below W.heap.size W W'):PS wr W' p q:=
 ⟨(hb.block _ (Array.getElem?_eq_some_iff.1 h.box).1).trans h.box,h.below.trans (hb.mono h.below.size)⟩
theorem PS.cell0 {wr W:World} {p q:Int} (h:PS wr W p q):W.cell? ⟨wr.heap.size,0,none⟩=some (.int .i64 p):=by rw [cell_of_row _ _ 0 _ _ _ h.box];rfl
theorem PS.cell1 {wr W:World} {p q:Int} (h:PS wr W p q):W.cell? ⟨wr.heap.size,1,none⟩=some (.int .i64 q):=by rw [cell_of_row _ _ 1 _ _ _ h.box];rfl
theorem PS.frozen {wr W:World} {p q:Int} (h:PS wr W p q) (i:Nat):W.frozen? ⟨wr.heap.size,i,none⟩=false:=frozen_of_row _ _ i _ _ h.box
end Go.Proofs.YtgbgngdakkiclaaGreatDoor.Hd

/-! KhHdApp -/
namespace Go.Proofs.YtgbgngdakkiclaaGreatDoor.Hd
open Go.RowKit Go.Lib
namespace Ap
theorem below_grown {B:Nat} {w0 w w':World} {row:Option Nat} (h:Below B w0 w) (hg:w.grownBy w' row) (hB:B≤w.heap.size) (hr: ∀ g,row=some g→B≤g):Below B w0 w':=
 h.trans ⟨hg.os,hg.tape,hg.output,hg.size,fun k hk=>hg.block k (by omega) (fun e=>by have:=hr k e.symm;omega)⟩
def Reads (w:World) (B size:Nat) (A:Option Addr) (n:Nat) (xs:List Value):Prop:=
 xs.length=n*size∧(0<n→ ∃ ad,A=some ad∧ad.block<B∧ ∀ j u,xs[j]?=some u→w.cell? (ad.add j)=some u)
section
variable {P:Program} (w:World)
theorem run_append_of_nil (base:Nat) (t ty e:TypeId) (i:TypeInfo) (size:Nat) (ht:P.underlying t=some (.slice e)) (hi:P.info? e=some i)
  (v:Value) (n:Nat) (xs:List Value) (hown:w.ownsRow base e size v n xs) (c:Nat):(Builtin.append_ #[t,t] ty #[v, .slice none 0 c]).run P w= .ok v w:=by
 rcases hown.2 with ⟨rfl,rfl⟩|⟨g,cap,cur,rfl,_,_,hnc,_⟩
 ·simp [Builtin.append_,run_underlying ht,sizeOf,typeInfo,hi,Builtin.lenOf,Builtin.firstCells]
 ·simp [Builtin.append_,run_underlying ht,sizeOf,typeInfo,hi,Builtin.lenOf,Builtin.firstCells,hnc,storeCells]
theorem run_append_any (base:Nat) (t ty e:TypeId) (i:TypeInfo) (z:Value) (size bytes:Nat) (ht:P.underlying t=some (.slice e)) (hi:P.info? e=some i) (hz:i.zero=some z)
  (hsize:i.size=size) (hby:i.bytes=bytes) (hzs:z.cells.size=size) (hsz:0<size)
  (v:Value) (n:Nat) (xs:List Value) (hown:w.ownsRow base e size v n xs)
  (B:Nat) (A:Option Addr) (m c:Nat) (news:List Value) (hr:Reads w B size A m news) (h1: ∀ u∈news,u.oneCell'=true)
  (h63:n+m≤maxLen) (hbytes:(n+m)*bytes≤140737488355328) (hbase:base≤w.heap.size):
  ∃ v' w',(Builtin.append_ #[t,t] ty #[v, .slice A m c]).run P w= .ok v' w'∧w'.ownsRow base e size v' (n+m) (xs++news)∧w.grownBy w' v.ownBlock∧
    (v'.ownBlock=v.ownBlock∨v'.ownBlock=some w.heap.size):=by
 rcases A with _|ad
 ·have hm:m=0:=by
   rcases Nat.eq_zero_or_pos m with h0|h0
   ·exact h0
   ·obtain ⟨ad,h,_⟩:=hr.2 h0
    cases h
  subst hm
  have hn:news= []:=List.eq_nil_of_length_eq_zero (by simpa using hr.1)
  subst hn
  exact ⟨v,w,run_append_of_nil w base t ty e i size ht hi v n xs hown c,by simpa using hown,World.grownBy.refl w _, .inl rfl⟩
 ·have hcells: ∀ j u,news[j]?=some u→w.cell? (ad.add j)=some u:=by
   intro j u hu
   rcases Nat.eq_zero_or_pos m with h0|h0
   ·subst h0
    have hn:news= []:=List.eq_nil_of_length_eq_zero (by simpa using hr.1)
    subst hn
    simp at hu
   ·obtain ⟨ad',h,_,hc⟩:=hr.2 h0
    injection h with h
    subst h
    exact hc j u hu
  obtain ⟨v',w',hrun,h2,h3,_,h5⟩:=run_append_own_at (P:=P) w base t ty e i z size bytes ht hi hz hsize hby hzs hsz v n xs hown ad m c news hr.1 hcells h1 h63 hbytes hbase
  exact ⟨v',w',hrun,h2,h3,h5⟩
theorem wp_append_any {o:Oper} {a:Act} {K:Act→World→Prop} {Q:Exit→Act→World→Prop} (s x:Operand) (t:TypeId)
  (ho:o.op= .call { callee:= .builtin .append,args:= #[s,x],argTypes:= #[t,t] })
  (base:Nat) (e:TypeId) (i:TypeInfo) (z:Value) (size bytes:Nat) (ht:P.underlying t=some (.slice e)) (hi:P.info? e=some i) (hz:i.zero=some z)
  (hsize:i.size=size) (hby:i.bytes=bytes) (hzs:z.cells.size=size) (hsz:0<size)
  (v:Value) (n:Nat) (xs:List Value) (hs:a.eval s=v) (hown:w.ownsRow base e size v n xs)
  (B:Nat) (A:Option Addr) (m c:Nat) (news:List Value) (hx:a.eval x= .slice A m c) (hr:Reads w B size A m news) (h1: ∀ u∈news,u.oneCell'=true)
  (h63:n+m≤maxLen) (hbytes:(n+m)*bytes≤140737488355328) (hbase:base≤w.heap.size)
  (h: ∀ v' w',w'.ownsRow base e size v' (n+m) (xs++news)→w.grownBy w' v.ownBlock→(v'.ownBlock=v.ownBlock∨v'.ownBlock=some w.heap.size)→K (a.put o.dst v') w'):o.wp P a w K Q:=by
 obtain ⟨v',w',hrun,h2,h3,h4⟩:=run_append_any (P:=P) w base t o.type e i z size bytes ht hi hz hsize hby hzs hsz v n xs hown B A m c news hr h1 h63 hbytes hbase
 unfold Oper.wp execOp
 simp only [ho,resolve,invoke,builtin,Sem.run_bind,Sem.run_pure,Result.andThen_ok,List.map_toArray,List.map_cons,List.map_nil,hs,hx,hrun]
 exact h v' w' h2 h3 h4
theorem wpList_append_any {ops:Array Oper} {rest:List Oper} {o:Oper} {a:Act} {Q:Exit→Act→World→Prop} (hgd:o.guard=none) (s x:Operand) (t:TypeId)
  (ho:o.op= .call { callee:= .builtin .append,args:= #[s,x],argTypes:= #[t,t] })
  (base:Nat) (e:TypeId) (i:TypeInfo) (z:Value) (size bytes:Nat) (ht:P.underlying t=some (.slice e)) (hi:P.info? e=some i) (hz:i.zero=some z)
  (hsize:i.size=size) (hby:i.bytes=bytes) (hzs:z.cells.size=size) (hsz:0<size)
  (v:Value) (n:Nat) (xs:List Value) (hs:a.eval s=v) (hown:w.ownsRow base e size v n xs)
  (B:Nat) (A:Option Addr) (m c:Nat) (news:List Value) (hx:a.eval x= .slice A m c) (hr:Reads w B size A m news) (h1: ∀ u∈news,u.oneCell'=true)
  (h63:n+m≤maxLen) (hbytes:(n+m)*bytes≤140737488355328) (hbase:base≤w.heap.size)
  (h: ∀ v' w',w'.ownsRow base e size v' (n+m) (xs++news)→w.grownBy w' v.ownBlock→(v'.ownBlock=v.ownBlock∨v'.ownBlock=some w.heap.size)→wpList P ops Q rest (a.put o.dst v') w'):wpList P ops Q (o::rest) a w:=
 wpList_plain hgd fun _ hK=>wp_append_any w s x t ho base e i z size bytes ht hi hz hsize hby hzs hsz v n xs hs hown B A m c news hx hr h1 h63 hbytes hbase fun v' w' h2 h3 h4=>hK _ _ (h v' w' h2 h3 h4)
end
end Ap
theorem OwnP.nil (w:World) (base:Nat):OwnP w base (.slice none 0 0) []:=⟨rfl, .inl ⟨rfl,rfl⟩⟩
end Go.Proofs.YtgbgngdakkiclaaGreatDoor.Hd

/-! KhHdMathP -/
namespace Go.Proofs.YtgbgngdakkiclaaGreatDoor.Hd
namespace M
def rt (zs:List Int) (h:Hdr):Nat→Hdr
 |0=>h
 |1=> { h with name:=txt zs 0 100 }
 |2=> { h with name:=txt zs 0 100,link:=txt zs 157 100 }
 |3=> { h with name:=txt zs 0 100,link:=txt zs 157 100,user:=if h.way !=0 then txt zs 265 32 else h.user }
 |4=> { h with name:=txt zs 0 100,link:=txt zs 157 100,user:=if h.way !=0 then txt zs 265 32 else h.user,group:=if h.way !=0 then txt zs 297 32 else h.group }
 |_=> { h with name:=txt zs 0 100,link:=txt zs 157 100,user:=if h.way !=0 then txt zs 265 32 else h.user,group:=if h.way !=0 then txt zs 297 32 else h.group,pre:=if h.way==1 then txt zs 345 155 else h.pre }
def maxSize:Int:=1099511627776
def holed (h:Hdr):Bool:=h.kind==83&&h.way==2
def rn (zs:List Int) (h:Hdr) (k:Nat):Hdr:=
 { h with
   mode:=if 1≤k then num zs 100 8 else h.mode
   uid:=if 2≤k then num zs 108 8 else h.uid
   gid:=if 3≤k then num zs 116 8 else h.gid
   size:=if 4≤k then num zs 124 12 else h.size
   mtime:=if 5≤k then num zs 136 12 else h.mtime
   major:=if 6≤k then if h.way !=0 then num zs 329 8 else h.major else h.major
   minor:=if 7≤k then if h.way !=0 then num zs 337 8 else h.minor else h.minor
   real:=if 8≤k then if holed h then num zs 483 12 else h.real else h.real }
def told (zs:List Int) (w:Nat):Hdr:=rn zs (rt zs { kind:=kind zs,way:=w } 5) 8
end M
end Go.Proofs.YtgbgngdakkiclaaGreatDoor.Hd

/-! KhHdParts -/
namespace Go.Proofs.YtgbgngdakkiclaaGreatDoor.Hd
open Go.RowKit Go.Lib
namespace M
end M
theorem pair_at0 (g:Nat) (a:Int) (w:World):(Instr.index 179 (.agg (pairV g a)) (.int .i64 0)).run Tryz.prog w= .ok (.agg #[.int .i64 a, .int .i64 12, .bool true, .int .i64 0, .int .i64 4611686018427387904, .pointer (some ⟨g,0,none⟩)]) w:=by kernel_rfl
theorem pair_at1 (g:Nat) (a:Int) (w:World):(Instr.index 179 (.agg (pairV g a)) (.int .i64 1)).run Tryz.prog w= .ok (.agg #[.int .i64 (a+12), .int .i64 12, .bool true, .int .i64 0, .int .i64 4611686018427387904, .pointer (some ⟨g,1,none⟩)]) w:=by kernel_rfl
end Go.Proofs.YtgbgngdakkiclaaGreatDoor.Hd

/-! KhHdParseS -/
namespace Go.Proofs.YtgbgngdakkiclaaGreatDoor.Hd
open Go.RowKit Go.Lib
theorem PF.start (w:World):PF w ((w.alloc (.cells (hcells {} (.slice none 0 0)) 39)).alloc (.cells #[.int .u16 0] 27)) {} (.slice none 0 0):=by
 refine ⟨(HB.new w {} _).alloc _, ?_,((Below.refl _ w).alloc (Nat.le_refl _) _).alloc (by simp) _⟩
 have:=heap_alloc_new (w.alloc (.cells (hcells {} (.slice none 0 0)) 39)) (.cells #[.int .u16 0] 27)
 rwa [World.size_alloc] at this
theorem PF.more {w W:World} {h:M.Hdr} {pv:Value} (p:PF w W h pv) (o:Obj):PF w (W.alloc o) h pv:=p.later ((Below.refl _ _).alloc (Nat.le_refl _) _)
theorem PF.text {w W w':World} {h h':M.Hdr} {pv:Value} {zs:List Int} {a m i:Nat} {there:Bool} {e:Ending} (p:PF w W h pv) (t:TxtTo zs a m there ⟨w.heap.size,i,none⟩ W e w')
  (h1:there=true→(hcells h pv).set! i (.string (M.txt zs a m))=hcells h' pv) (h0:there=false→h=h'):e= .returned (.tuple #[])∧PF w w' h' pv:=by
 obtain ⟨rfl,t⟩:=t
 refine ⟨rfl, ?_⟩
 cases ht:there with
 |true=>
  rw [ht,if_pos rfl] at t
  obtain ⟨w1,b1,rfl⟩:=t
  exact (p.later b1).set i _ (h1 ht)
 |false=>
  rw [ht,if_neg (by decide)] at t
  rw [←h0 ht]
  exact p.later t
theorem PF.num {w W w':World} {h h':M.Hdr} {pv:Value} {zs:List Int} {a m i:Nat} {there ok:Bool} {lo up:Int} {e:Ending} (p:PF w W h pv) (t:NumTo zs a m there lo up ⟨w.heap.size,i,none⟩ W e w')
  (hok:ok=(!there||M.numOk zs a m lo up)) (h1:there=true→(hcells h pv).set! i (.int .i64 (M.num zs a m))=hcells h' pv) (h0:there=false→h=h'):
  (ok=false→e= .panicked (boom 32)∧PF w w' h pv)∧(ok=true→e= .returned (.tuple #[])∧PF w w' h' pv):=by
 unfold NumTo at t
 cases ht:there with
 |true=>
  rw [ht,if_pos rfl] at t
  rw [ht] at hok
  have hok':ok=M.numOk zs a m lo up:=hok
  refine ⟨fun h2=> ?_,fun h2=> ?_⟩
  ·rw [if_neg (by rw [←hok',h2];decide)] at t
   exact ⟨t.1,p.later t.2⟩
  ·rw [if_pos (by rw [←hok',h2])] at t
   obtain ⟨rfl,w1,b1,rfl⟩:=t
   exact ⟨rfl,(p.later b1).set i _ (h1 ht)⟩
 |false=>
  rw [ht,if_neg (by decide)] at t
  rw [ht] at hok
  have hok':ok=true:=hok
  refine ⟨fun h2=> ?_,fun _=> ?_⟩
  ·rw [hok'] at h2;cases h2
  ·rw [←h0 ht]
   exact ⟨t.1,p.later t.2⟩
theorem PF.whole {w W:World} {h:M.Hdr} {pv:Value} (p:PF w W h pv):PF w (W.setRow w.heap.size (hcells h pv)) h pv:=
 ⟨setRow_heap W _ _ _ _ _ p.box,(setRow_other W _ _ _ (by simp)).trans p.err,below_setRow p.below (Nat.le_refl _) _⟩
theorem texts_at0 (g:Nat) (v:Int) (w:World):(Instr.index 158 (.agg (textsV g v)) (.int .i64 0)).run Tryz.prog w= .ok (.agg #[.int .i64 0, .int .i64 100, .bool true, .pointer (some ⟨g,0,none⟩)]) w:=by kernel_rfl
theorem texts_at1 (g:Nat) (v:Int) (w:World):(Instr.index 158 (.agg (textsV g v)) (.int .i64 1)).run Tryz.prog w= .ok (.agg #[.int .i64 157, .int .i64 100, .bool true, .pointer (some ⟨g,7,none⟩)]) w:=by kernel_rfl
theorem texts_at2 (g:Nat) (v:Int) (w:World):(Instr.index 158 (.agg (textsV g v)) (.int .i64 2)).run Tryz.prog w= .ok (.agg #[.int .i64 265, .int .i64 32, .bool (v !=0), .pointer (some ⟨g,9,none⟩)]) w:=by kernel_rfl
theorem texts_at3 (g:Nat) (v:Int) (w:World):(Instr.index 158 (.agg (textsV g v)) (.int .i64 3)).run Tryz.prog w= .ok (.agg #[.int .i64 297, .int .i64 32, .bool (v !=0), .pointer (some ⟨g,10,none⟩)]) w:=by kernel_rfl
theorem texts_at4 (g:Nat) (v:Int) (w:World):(Instr.index 158 (.agg (textsV g v)) (.int .i64 4)).run Tryz.prog w= .ok (.agg #[.int .i64 345, .int .i64 155, .bool (v==1), .pointer (some ⟨g,13,none⟩)]) w:=by kernel_rfl
theorem nums_at0 (g:Nat) (k v:Int) (w:World):(Instr.index 163 (.agg (numbersV g k v)) (.int .i64 0)).run Tryz.prog w= .ok (.agg #[.int .i64 100, .int .i64 8, .bool true, .int .i64 0, .int .i64 4611686018427387904, .pointer (some ⟨g,1,none⟩)]) w:=by kernel_rfl
theorem nums_at1 (g:Nat) (k v:Int) (w:World):(Instr.index 163 (.agg (numbersV g k v)) (.int .i64 1)).run Tryz.prog w= .ok (.agg #[.int .i64 108, .int .i64 8, .bool true, .int .i64 0, .int .i64 4611686018427387904, .pointer (some ⟨g,2,none⟩)]) w:=by kernel_rfl
theorem nums_at2 (g:Nat) (k v:Int) (w:World):(Instr.index 163 (.agg (numbersV g k v)) (.int .i64 2)).run Tryz.prog w= .ok (.agg #[.int .i64 116, .int .i64 8, .bool true, .int .i64 0, .int .i64 4611686018427387904, .pointer (some ⟨g,3,none⟩)]) w:=by kernel_rfl
theorem nums_at3 (g:Nat) (k v:Int) (w:World):(Instr.index 163 (.agg (numbersV g k v)) (.int .i64 3)).run Tryz.prog w= .ok (.agg #[.int .i64 124, .int .i64 12, .bool true, .int .i64 0, .int .i64 1099511627776, .pointer (some ⟨g,4,none⟩)]) w:=by kernel_rfl
theorem nums_at4 (g:Nat) (k v:Int) (w:World):(Instr.index 163 (.agg (numbersV g k v)) (.int .i64 4)).run Tryz.prog w= .ok (.agg #[.int .i64 136, .int .i64 12, .bool true, .int .i64 (-4611686018427387904), .int .i64 4611686018427387904, .pointer (some ⟨g,5,none⟩)]) w:=by kernel_rfl
theorem nums_at5 (g:Nat) (k v:Int) (w:World):(Instr.index 163 (.agg (numbersV g k v)) (.int .i64 5)).run Tryz.prog w= .ok (.agg #[.int .i64 329, .int .i64 8, .bool (v !=0), .int .i64 0, .int .i64 4611686018427387904, .pointer (some ⟨g,11,none⟩)]) w:=by kernel_rfl
theorem nums_at6 (g:Nat) (k v:Int) (w:World):(Instr.index 163 (.agg (numbersV g k v)) (.int .i64 6)).run Tryz.prog w= .ok (.agg #[.int .i64 337, .int .i64 8, .bool (v !=0), .int .i64 0, .int .i64 4611686018427387904, .pointer (some ⟨g,12,none⟩)]) w:=by kernel_rfl
theorem nums_at7 (g:Nat) (k v:Int) (w:World):(Instr.index 163 (.agg (numbersV g k v)) (.int .i64 7)).run Tryz.prog w= .ok (.agg #[.int .i64 483, .int .i64 12, .bool (k==83&&v==2), .int .i64 0, .int .i64 1099511627776, .pointer (some ⟨g,16,none⟩)]) w:=by kernel_rfl
end Go.Proofs.YtgbgngdakkiclaaGreatDoor.Hd

/-! KhHdFieldP -/
namespace Go.Proofs.YtgbgngdakkiclaaGreatDoor.Hd
open Go.RowKit Go.Lib
def laid (W:World) (gb:Nat) (zs:List Int):World:=W.setRow gb (bcells zs).toArray
theorem Arr.laid {W:World} {gb:Nat} {t:TypeId} {zs:List Int} (h:Arr W gb t zs) (ys:List Int):Arr (laid W gb ys) gb t ys:=h.setRow ys
def TxtPut (zs:List Int) (a m:Nat) (s:ByteArray) (gb:Nat) (w:World) (e:Ending) (w':World):Prop:=
 match S.M.put s.data.toList m with
 |none=>e= .panicked (boom 33)∧Below w.heap.size w w'
 |some l=>e= .returned (.tuple #[])∧ ∃ w1,Below w.heap.size w w1∧w'=laid w1 gb (splice zs a (S.ints l))
theorem put_len {s l:List UInt8} {m:Nat} (h:S.M.put s (m:Int)=some l):l.length=m:=by
 unfold S.M.put at h
 split at h
 ·rename_i h1
  injection h with h
  subst h
  rw [List.length_append,List.length_replicate]
  omega
 ·cases h
theorem splice_cells (zs ys:List Int) (a:Nat):((bcells zs).toArray.toList.take a++(bcells ys++(bcells zs).toArray.toList.drop (a+(bcells ys).length)))=bcells (splice zs a ys):=by
 rw [←bcells_splice]
 rfl
set_option maxRecDepth 100000 in
set_option maxHeartbeats 1000000 in
theorem text_print (a m:Nat) (there:Bool) (g i gb:Nat) (zs:List Int) (s:ByteArray) (w:World) (ham:a+m≤512) (hm:0<m) (hs:s.size≤100000) (hz:zs.length=512)
  (hA:Arr w gb 5 zs) (hcell:w.cell? ⟨g,i,none⟩=some (.string s)):
  Calls Tryz.prog 106 #[tfv a m there ⟨g,i,none⟩, .slice (some ⟨gb,0,none⟩) 512 512] w (TxtPut zs a m s gb w):=by
 have hg:g<w.heap.size:=World.block_lt_of_cell? _ _ hcell
 have hgb:=hA.lt
 have HC0:=fun (W:World)=>S.put_any s hs (m:Int) (by omega) (by omega) W
 unfold tfv
 go_enter Tryz.func106,Tryz.ntmps106
 go_wp2_with fail
 generalize hW1:w.alloc _=W1
 obtain ⟨hq,hb1,_⟩:=after_alloc hW1
 have CF:=hid (fun (W:World) (hW:Below W1.heap.size W1 W)=>(show W.cell? ⟨w.heap.size,0,none⟩=some (.int .i64 a)∧W.cell? ⟨w.heap.size,1,none⟩=some (.int .i64 m)∧W.cell? ⟨w.heap.size,3,none⟩=some (.pointer (some ⟨g,i,none⟩))∧W.cell? ⟨g,i,none⟩=some (.string s)∧Below w.heap.size w W by
  have h1:=hb1.trans (hW.mono hb1.size)
  have hlt:w.heap.size<W1.heap.size:=(Array.getElem?_eq_some_iff.1 hq).1
  have hq2:W.heap[w.heap.size]?=_:=(hW.block _ hlt).trans hq
  exact ⟨(cell_of_row _ _ 0 _ _ _ hq2).trans rfl,(cell_of_row _ _ 1 _ _ _ hq2).trans rfl,(cell_of_row _ _ 3 _ _ _ hq2).trans rfl,(h1.cell hg).trans hcell,h1⟩))
 have HC:=hid HC0
 have HAA:=hid hA
 clear HC0 hq hb1 hW1 hcell hA
 refine wp_region_held_drew (S:=fun W=>Below W1.heap.size W1 W) (by kernel_rfl) (below_drew' (Below.refl _ _)) (fun hS=> ?_)
 refine tkH 0 hS ?_ (hy:=fun W hW=>by have f0:=(CF.out W hW).1;have f1:=(CF.out W hW).2.1;have f2:=(CF.out W hW).2.2.1;have f3:=(CF.out W hW).2.2.2.1;clear hW;go_simp;first|done|with_reducible rfl)
 refine tkH 1 hS ?_ (hy:=fun W hW=>by have f0:=(CF.out W hW).1;have f1:=(CF.out W hW).2.1;have f2:=(CF.out W hW).2.2.1;have f3:=(CF.out W hW).2.2.2.1;clear hW;go_simp;first|done|with_reducible rfl)
 refine tkH 2 hS ?_ (hy:=fun W hW=>by have f0:=(CF.out W hW).1;have f1:=(CF.out W hW).2.1;have f2:=(CF.out W hW).2.2.1;have f3:=(CF.out W hW).2.2.2.1;clear hW;go_simp;first|done|with_reducible rfl)
 refine tkH 3 hS ?_ (hy:=fun W hW=>by have f0:=(CF.out W hW).1;have f1:=(CF.out W hW).2.1;have f2:=(CF.out W hW).2.2.1;have f3:=(CF.out W hW).2.2.2.1;clear hW;go_simp;first|done|with_reducible rfl)
 refine tkH 4 hS ?_ (hy:=fun W hW=>by have f0:=(CF.out W hW).1;have f1:=(CF.out W hW).2.1;have f2:=(CF.out W hW).2.2.1;have f3:=(CF.out W hW).2.2.2.1;clear hW;go_simp;first|done|with_reducible rfl)
 refine tkH 5 hS ?_ (hy:=fun W hW=>by have f0:=(CF.out W hW).1;have f1:=(CF.out W hW).2.1;have f2:=(CF.out W hW).2.2.1;have f3:=(CF.out W hW).2.2.2.1;clear hW;go_simp;first|done|with_reducible rfl)
 refine loneH (i:=6) 13 rfl rfl (by kernel_rfl) (by rfl) (fun K hK=> ?_)
 go_simp
 (with_reducible refine (HC.out _).mono ?_)
 rintro e w2 ⟨A2,n2,c2,rfl,hn2,hc2,hr2,b2,_⟩
 have B2:=hS.trans (b2.mono hS.size)
 have HR2:=hid hr2
 clear hS b2 hr2
 refine hK.out _ _ B2 (fun hS=> ?_)
 clear hK K
 try simp only [NM]
 refine tkH 7 hS ?_
 refine tkH 8 hS ?_
 refine tkH 9 hS ?_
 refine tkH 10 hS ?_
 refine tkH 11 hS ?_
 refine wpAnyH_done (by kernel_rfl) ?_ _
 obtain ⟨y0,_,_,_,yb⟩:=CF.out _ B2
 have HYB:=hid yb
 clear yb CF HC
 cases hput:S.M.put s.data.toList (m:Int) with
 |none=>
  rw [hput] at HR2
  rw [show (none:Option (List UInt8)).isSome=false from rfl]
  go_wp2_with (go_at_call 102;(with_reducible refine (demand_no _ _).mono ?_);rintro e w9 ⟨rfl,rfl⟩)
  exact ⟨rfl,(by unfold TxtPut;rw [hput];exact ⟨rfl,HYB.out⟩)⟩
 |some l=>
  rw [hput] at HR2
  rw [show (some l:Option (List UInt8)).isSome=true from rfl]
  have hl:l.length=m:=put_len hput
  have hn2l:=HR2.out.len
  rw [Option.getD_some,S.ints_length] at hn2l
  obtain ⟨bf,of_,rfl,_,hfc⟩:=HR2.out.2.2 (by omega)
  rw [Option.getD_some] at hfc
  have HFC:=hid (fun j v (hv:(bcells (S.ints l))[j]?=some v)=>(show w2.cell? ((⟨bf,of_,none⟩:Addr).add j)=some v by
   obtain ⟨z,hz,rfl⟩:=bcells_at' hv
   rw [add_lit']
   exact hfc j z hz))
  have HA2:=hid (HAA.out.below HYB.out hgb)
  have HSP:=hid (splice_cells zs (S.ints l) a)
  have e9: ¬ 512=a:=by omega
  have HLn:=hid (show (bcells (S.ints l)).length=Nat.min n2 (512 - a) by rw [bcells_len,S.ints_length];have:Nat.min n2 (512 - a)=n2:=Nat.min_eq_left (by omega);omega)
  have HFt:=hid (show a+(bcells (S.ints l)).length≤(bcells zs).toArray.size by rw [bcells_len,S.ints_length,bcells_size];omega)
  have HPU:=hid hput
  clear hput hl hn2l hfc HR2 HAA
  go_wp2_with (first
   |(go_at_call 102;(with_reducible refine (demand_yes _ _).mono ?_);rintro e w9 ⟨rfl,rfl⟩)
   |(refine wpList_copy_own rfl (.tmp 21) (.tmp 22) 22 22 rfl 5 Tryz.underlying22 u8_size gb a (512 - a) (512 - a) ⟨bf,of_,none⟩ n2 c2 (by rfl) (by rfl) (bcells zs).toArray 5 HA2.out (bcells (S.ints l)) HLn.out HFC.out HFt.out (bcells_one _) ?_;rw [HSP.out]))
  go_end0
  all_goals exact (by unfold TxtPut;rw [HPU.out];exact ⟨rfl,w2,HYB.out,rfl⟩)
theorem putR_len {x:Int} {m:Nat} (h:M.putFits x m=true):(M.putR x m).length=m:=by
 unfold M.putR
 cases ho:M.octFits x m with
 |true=>
  rw [if_pos rfl]
  unfold M.oct
  rw [M.listOf_len]
  rfl
 |false=>
  have hb:M.binFits x m=true:=by
   unfold M.putFits at h
   rw [ho] at h
   exact h
  rw [if_neg (by decide),M.binR_yes hb]
  unfold M.bin
  rw [M.listOf_len]
  rfl
def M.putOk (x:Int) (m:Nat) (lo up:Int):Bool:=M.putFits x m&&(decide (lo≤x)&&decide (x≤up))
def NumPut (zs:List Int) (a m:Nat) (there:Bool) (lo up x:Int) (gb:Nat) (w:World) (e:Ending) (w':World):Prop:=
 if there=true then
  if M.putOk x m lo up=true then e= .returned (.tuple #[])∧ ∃ w1,Below w.heap.size w w1∧w'=laid w1 gb (splice zs a (M.putR x m))
  else e= .panicked (boom 32)∧Below w.heap.size w w'
 else if x=0 then e= .returned (.tuple #[])∧Below w.heap.size w w' else e= .panicked (boom 32)∧Below w.heap.size w w'
set_option maxRecDepth 100000 in
set_option maxHeartbeats 1000000 in
theorem number_print (a m:Nat) (there:Bool) (lo up:Int) (g i gb:Nat) (zs:List Int) (x:Int) (w:World) (ham:a+m≤512) (hm:0<m) (hx: -9223372036854775808≤x∧x≤9223372036854775807) (hz:zs.length=512)
  (hA:Arr w gb 5 zs) (hcell:w.cell? ⟨g,i,none⟩=some (.int .i64 x)):
  Calls Tryz.prog 108 #[nfv a m there lo up ⟨g,i,none⟩, .slice (some ⟨gb,0,none⟩) 512 512] w (NumPut zs a m there lo up x gb w):=by
 have hg:g<w.heap.size:=World.block_lt_of_cell? _ _ hcell
 have hgb:=hA.lt
 cases there with
 |false=>
  by_cases h0:x=0
  ·subst h0
   unfold nfv
   go_enter Tryz.func108,Tryz.ntmps108
   go_wp2_with (go_at_call 102;(with_reducible refine (demand_yes _ _).mono ?_);rintro e w9 ⟨rfl,rfl⟩)
   go_end0
   all_goals exact (by unfold NumPut;rw [if_neg (by decide),if_pos rfl];exact ⟨rfl,(Below.refl _ _).alloc (Nat.le_refl _) _⟩)
  ·have e0:(x==0)=false:=by simpa using h0
   have HN:=hid h0
   clear h0
   unfold nfv
   go_enter Tryz.func108,Tryz.ntmps108
   go_wp2_with (go_at_call 102;(with_reducible refine (demand_no _ _).mono ?_);rintro e w9 ⟨rfl,rfl⟩)
   exact ⟨rfl,(by unfold NumPut;rw [if_neg (by decide),if_neg HN.out];exact ⟨rfl,(Below.refl _ _).alloc (Nat.le_refl _) _⟩)⟩
 |true=>
  have HC0:=fun (W:World)=>put_any x (m:Int) W hx
  have HM:=fun W=>mayTell_any a m true lo up ⟨g,i,none⟩ x W
  unfold nfv at HM
  have HMM:=hid HM
  clear HM
  unfold nfv
  go_enter Tryz.func108,Tryz.ntmps108
  go_wp2_with fail
  generalize hW1:w.alloc _=W1
  obtain ⟨hq,hb1,_⟩:=after_alloc hW1
  have CF:=hid (fun (W:World) (hW:Below W1.heap.size W1 W)=>(show W.cell? ⟨w.heap.size,0,none⟩=some (.int .i64 a)∧W.cell? ⟨w.heap.size,1,none⟩=some (.int .i64 m)∧W.cell? ⟨w.heap.size,2,none⟩=some (.bool true)∧W.cell? ⟨w.heap.size,3,none⟩=some (.int .i64 lo)∧W.cell? ⟨w.heap.size,4,none⟩=some (.int .i64 up)∧W.cell? ⟨w.heap.size,5,none⟩=some (.pointer (some ⟨g,i,none⟩))∧W.cell? ⟨g,i,none⟩=some (.int .i64 x)∧Below w.heap.size w W by
   have h1:=hb1.trans (hW.mono hb1.size)
   have hlt:w.heap.size<W1.heap.size:=(Array.getElem?_eq_some_iff.1 hq).1
   have hq2:W.heap[w.heap.size]?=_:=(hW.block _ hlt).trans hq
   exact ⟨(cell_of_row _ _ 0 _ _ _ hq2).trans rfl,(cell_of_row _ _ 1 _ _ _ hq2).trans rfl,(cell_of_row _ _ 2 _ _ _ hq2).trans rfl,(cell_of_row _ _ 3 _ _ _ hq2).trans rfl,(cell_of_row _ _ 4 _ _ _ hq2).trans rfl,(cell_of_row _ _ 5 _ _ _ hq2).trans rfl,(h1.cell hg).trans hcell,h1⟩))
  have HC:=hid HC0
  have HAA:=hid hA
  clear HC0 hq hb1 hW1 hcell hA
  refine wp_region_held_drew (S:=fun W=>Below W1.heap.size W1 W) (by kernel_rfl) (below_drew' (Below.refl _ _)) (fun hS=> ?_)
  refine tkH 0 hS ?_ (hy:=fun W hW=>by have f0:=(CF.out W hW).1;have f1:=(CF.out W hW).2.1;have f2:=(CF.out W hW).2.2.1;have f3:=(CF.out W hW).2.2.2.1;have f4:=(CF.out W hW).2.2.2.2.1;have f5:=(CF.out W hW).2.2.2.2.2.1;have f6:=(CF.out W hW).2.2.2.2.2.2.1;clear hW;go_simp;first|done|with_reducible rfl)
  refine tkH 1 hS ?_ (hy:=fun W hW=>by have f0:=(CF.out W hW).1;have f1:=(CF.out W hW).2.1;have f2:=(CF.out W hW).2.2.1;have f3:=(CF.out W hW).2.2.2.1;have f4:=(CF.out W hW).2.2.2.2.1;have f5:=(CF.out W hW).2.2.2.2.2.1;have f6:=(CF.out W hW).2.2.2.2.2.2.1;clear hW;go_simp;first|done|with_reducible rfl)
  refine tkH 2 hS ?_ (hy:=fun W hW=>by have f0:=(CF.out W hW).1;have f1:=(CF.out W hW).2.1;have f2:=(CF.out W hW).2.2.1;have f3:=(CF.out W hW).2.2.2.1;have f4:=(CF.out W hW).2.2.2.2.1;have f5:=(CF.out W hW).2.2.2.2.2.1;have f6:=(CF.out W hW).2.2.2.2.2.2.1;clear hW;go_simp;first|done|with_reducible rfl)
  refine tkH 3 hS ?_ (hy:=fun W hW=>by have f0:=(CF.out W hW).1;have f1:=(CF.out W hW).2.1;have f2:=(CF.out W hW).2.2.1;have f3:=(CF.out W hW).2.2.2.1;have f4:=(CF.out W hW).2.2.2.2.1;have f5:=(CF.out W hW).2.2.2.2.2.1;have f6:=(CF.out W hW).2.2.2.2.2.2.1;clear hW;go_simp;first|done|with_reducible rfl)
  refine tkH 4 hS ?_ (hy:=fun W hW=>by have f0:=(CF.out W hW).1;have f1:=(CF.out W hW).2.1;have f2:=(CF.out W hW).2.2.1;have f3:=(CF.out W hW).2.2.2.1;have f4:=(CF.out W hW).2.2.2.2.1;have f5:=(CF.out W hW).2.2.2.2.2.1;have f6:=(CF.out W hW).2.2.2.2.2.2.1;clear hW;go_simp;first|done|with_reducible rfl)
  refine tkH 5 hS ?_ (hy:=fun W hW=>by have f0:=(CF.out W hW).1;have f1:=(CF.out W hW).2.1;have f2:=(CF.out W hW).2.2.1;have f3:=(CF.out W hW).2.2.2.1;have f4:=(CF.out W hW).2.2.2.2.1;have f5:=(CF.out W hW).2.2.2.2.2.1;have f6:=(CF.out W hW).2.2.2.2.2.2.1;clear hW;go_simp;first|done|with_reducible rfl)
  refine loneH (i:=6) 22 rfl rfl (by kernel_rfl) (by rfl) (fun K hK=> ?_)
  go_simp
  (with_reducible refine (HC.out _).mono ?_)
  rintro e w2 ⟨A2,N2,rfl,hr2,b2⟩
  have B2:=hS.trans (b2.mono hS.size)
  have HR2:=hid hr2
  clear hS b2 hr2
  refine hK.out _ _ B2 (fun hS=> ?_)
  clear hK K
  try simp only [NM]
  refine tkH 7 hS ?_
  refine tkH 8 hS ?_
  refine tkH 9 hS ?_
  refine tkH 10 hS ?_
  refine tkH 11 hS ?_
  refine wpAnyH_done (by kernel_rfl) ?_ _
  have HSZ:=hid (show W1.heap.size≤w2.heap.size from B2.size)
  have HB2:=hid B2
  clear hS
  cases hfit:M.putFits x (m:Int) with
  |false=>
   have HPO:=hid (show M.putOk x m lo up=false by unfold M.putOk;rw [hfit];rfl)
   clear HR2 hfit
   go_wp2_with fail
   refine wp_region_held_drew (S:=fun W=>Below W1.heap.size W1 W) (by kernel_rfl) (below_drew' HB2.out) (fun hS=> ?_)
   refine tkH 0 hS ?_
   refine tkH 1 hS ?_
   refine skipH (i:=2) 27 rfl rfl (by kernel_rfl) (by kernel_rfl) (by kernel_rfl) (fun _ _ _ h=>h) (by rfl) hS ?_
   try simp only [NM]
   refine skipH (i:=3) 28 rfl rfl (by kernel_rfl) (by kernel_rfl) (by kernel_rfl) (fun _ _ _ h=>h) (by rfl) hS ?_
   try simp only [NM]
   refine skipH (i:=4) 29 rfl rfl (by kernel_rfl) (by kernel_rfl) (by kernel_rfl) (fun _ _ _ h=>h) (by rfl) hS ?_
   try simp only [NM]
   refine skipH (i:=5) 30 rfl rfl (by kernel_rfl) (by kernel_rfl) (by kernel_rfl) (fun _ _ _ h=>h) (by rfl) hS ?_
   try simp only [NM]
   refine skipH (i:=6) 31 rfl rfl (by kernel_rfl) (by kernel_rfl) (by kernel_rfl) (fun _ _ _ h=>h) (by rfl) hS ?_
   try simp only [NM]
   refine skipH (i:=7) 32 rfl rfl (by kernel_rfl) (by kernel_rfl) (by kernel_rfl) (fun _ _ _ h=>h) (by rfl) hS ?_
   try simp only [NM]
   refine tkH 8 hS ?_
   refine loneH (i:=9) 34 rfl rfl (by kernel_rfl) (by rfl) (fun K hK=> ?_)
   go_simp
   (with_reducible refine (demand_no _ _).mono ?_)
   rintro e w9 ⟨rfl,rfl⟩
   exact ⟨rfl,(by unfold NumPut;rw [if_pos rfl,if_neg (by rw [HPO.out];decide)];exact ⟨rfl,below_drew' (CF.out _ HB2.out).2.2.2.2.2.2.2⟩)⟩
  |true=>
   cases hlu:(decide (lo≤x)&&decide (x≤up)) with
   |false=>
    rw [hlu] at HMM
    have HPO:=hid (show M.putOk x m lo up=false by unfold M.putOk;rw [hfit,hlu];rfl)
    clear HR2 hfit hlu
    go_wp2_with fail
    refine wp_region_held_drew (S:=fun W=>Below W1.heap.size W1 W) (by kernel_rfl) (below_drew' HB2.out) (fun hS=> ?_)
    refine tkH 0 hS ?_
    refine tkH 1 hS ?_
    refine tkH 2 hS ?_ (hy:=fun W hW=>by have f0:=(CF.out W hW).1;have f1:=(CF.out W hW).2.1;have f2:=(CF.out W hW).2.2.1;have f3:=(CF.out W hW).2.2.2.1;have f4:=(CF.out W hW).2.2.2.2.1;have f5:=(CF.out W hW).2.2.2.2.2.1;have f6:=(CF.out W hW).2.2.2.2.2.2.1;clear hW;go_simp;first|done|with_reducible rfl)
    refine tkH 3 hS ?_ (hy:=fun W hW=>by have f0:=(CF.out W hW).1;have f1:=(CF.out W hW).2.1;have f2:=(CF.out W hW).2.2.1;have f3:=(CF.out W hW).2.2.2.1;have f4:=(CF.out W hW).2.2.2.2.1;have f5:=(CF.out W hW).2.2.2.2.2.1;have f6:=(CF.out W hW).2.2.2.2.2.2.1;clear hW;go_simp;first|done|with_reducible rfl)
    refine tkH 4 hS ?_ (hy:=fun W hW=>by have f0:=(CF.out W hW).1;have f1:=(CF.out W hW).2.1;have f2:=(CF.out W hW).2.2.1;have f3:=(CF.out W hW).2.2.2.1;have f4:=(CF.out W hW).2.2.2.2.1;have f5:=(CF.out W hW).2.2.2.2.2.1;have f6:=(CF.out W hW).2.2.2.2.2.2.1;clear hW;go_simp;first|done|with_reducible rfl)
    refine tkH 5 hS ?_ (hy:=fun W hW=>by have f0:=(CF.out W hW).1;have f1:=(CF.out W hW).2.1;have f2:=(CF.out W hW).2.2.1;have f3:=(CF.out W hW).2.2.2.1;have f4:=(CF.out W hW).2.2.2.2.1;have f5:=(CF.out W hW).2.2.2.2.2.1;have f6:=(CF.out W hW).2.2.2.2.2.2.1;clear hW;go_simp;first|done|with_reducible rfl)
    refine tkH 6 hS ?_ (hy:=fun W hW=>by have f0:=(CF.out W hW).1;have f1:=(CF.out W hW).2.1;have f2:=(CF.out W hW).2.2.1;have f3:=(CF.out W hW).2.2.2.1;have f4:=(CF.out W hW).2.2.2.2.1;have f5:=(CF.out W hW).2.2.2.2.2.1;have f6:=(CF.out W hW).2.2.2.2.2.2.1;clear hW;go_simp;first|done|with_reducible rfl)
    refine loneH (i:=7) 32 rfl rfl (by kernel_rfl) (by rfl) (fun K hK=> ?_)
    go_simp
    (with_reducible refine (HMM.out _).mono ?_)
    rintro e w5 ⟨rfl,b5⟩
    have B5R:=hid (show Below w2.heap.size w2 w5 from (below_drew' (Below.refl _ w2)).trans (b5.mono (Nat.le_refl _)))
    have B5:=HB2.out.trans (B5R.out.mono HSZ.out)
    clear hS b5
    refine hK.out _ _ B5 (fun hS=> ?_)
    clear hK K
    try simp only [NM]
    refine tkH 8 hS ?_
    refine loneH (i:=9) 34 rfl rfl (by kernel_rfl) (by rfl) (fun K hK=> ?_)
    go_simp
    (with_reducible refine (demand_no _ _).mono ?_)
    rintro e w9 ⟨rfl,rfl⟩
    exact ⟨rfl,(by unfold NumPut;rw [if_pos rfl,if_neg (by rw [HPO.out];decide)];exact ⟨rfl,(CF.out _ B5).2.2.2.2.2.2.2⟩)⟩
   |true=>
    rw [hlu] at HMM
    have HPO:=hid (show M.putOk x m lo up=true by unfold M.putOk;rw [hfit,hlu];rfl)
    have hl:(M.putR x m).length=m:=putR_len hfit
    have HRR:=HR2
    clear HR2 hfit hlu
    go_wp2_with fail
    refine wp_region_held_drew (S:=fun W=>Below W1.heap.size W1 W) (by kernel_rfl) (below_drew' HB2.out) (fun hS=> ?_)
    refine tkH 0 hS ?_
    refine tkH 1 hS ?_
    refine tkH 2 hS ?_ (hy:=fun W hW=>by have f0:=(CF.out W hW).1;have f1:=(CF.out W hW).2.1;have f2:=(CF.out W hW).2.2.1;have f3:=(CF.out W hW).2.2.2.1;have f4:=(CF.out W hW).2.2.2.2.1;have f5:=(CF.out W hW).2.2.2.2.2.1;have f6:=(CF.out W hW).2.2.2.2.2.2.1;clear hW;go_simp;first|done|with_reducible rfl)
    refine tkH 3 hS ?_ (hy:=fun W hW=>by have f0:=(CF.out W hW).1;have f1:=(CF.out W hW).2.1;have f2:=(CF.out W hW).2.2.1;have f3:=(CF.out W hW).2.2.2.1;have f4:=(CF.out W hW).2.2.2.2.1;have f5:=(CF.out W hW).2.2.2.2.2.1;have f6:=(CF.out W hW).2.2.2.2.2.2.1;clear hW;go_simp;first|done|with_reducible rfl)
    refine tkH 4 hS ?_ (hy:=fun W hW=>by have f0:=(CF.out W hW).1;have f1:=(CF.out W hW).2.1;have f2:=(CF.out W hW).2.2.1;have f3:=(CF.out W hW).2.2.2.1;have f4:=(CF.out W hW).2.2.2.2.1;have f5:=(CF.out W hW).2.2.2.2.2.1;have f6:=(CF.out W hW).2.2.2.2.2.2.1;clear hW;go_simp;first|done|with_reducible rfl)
    refine tkH 5 hS ?_ (hy:=fun W hW=>by have f0:=(CF.out W hW).1;have f1:=(CF.out W hW).2.1;have f2:=(CF.out W hW).2.2.1;have f3:=(CF.out W hW).2.2.2.1;have f4:=(CF.out W hW).2.2.2.2.1;have f5:=(CF.out W hW).2.2.2.2.2.1;have f6:=(CF.out W hW).2.2.2.2.2.2.1;clear hW;go_simp;first|done|with_reducible rfl)
    refine tkH 6 hS ?_ (hy:=fun W hW=>by have f0:=(CF.out W hW).1;have f1:=(CF.out W hW).2.1;have f2:=(CF.out W hW).2.2.1;have f3:=(CF.out W hW).2.2.2.1;have f4:=(CF.out W hW).2.2.2.2.1;have f5:=(CF.out W hW).2.2.2.2.2.1;have f6:=(CF.out W hW).2.2.2.2.2.2.1;clear hW;go_simp;first|done|with_reducible rfl)
    refine loneH (i:=7) 32 rfl rfl (by kernel_rfl) (by rfl) (fun K hK=> ?_)
    go_simp
    (with_reducible refine (HMM.out _).mono ?_)
    rintro e w5 ⟨rfl,b5⟩
    have B5R:=hid (show Below w2.heap.size w2 w5 from (below_drew' (Below.refl _ w2)).trans (b5.mono (Nat.le_refl _)))
    have B5:=HB2.out.trans (B5R.out.mono HSZ.out)
    clear hS b5
    refine hK.out _ _ B5 (fun hS=> ?_)
    clear hK K
    try simp only [NM]
    refine tkH 8 hS ?_
    refine loneH (i:=9) 34 rfl rfl (by kernel_rfl) (by rfl) (fun K hK=> ?_)
    go_simp
    (with_reducible refine (demand_yes _ _).mono ?_)
    rintro e w9 ⟨rfl,rfl⟩
    refine hK.out _ _ B5 (fun hS=> ?_)
    clear hK K
    try simp only [NM]
    refine wpAnyH_done (by kernel_rfl) ?_ _
    obtain ⟨y0,_,_,_,_,_,_,yb⟩:=CF.out _ B5
    have HYB:=hid yb
    have hn2l:=HRR.out.len
    have HR3:=HRR.out.keep (w':=w5) fun p hp=>B5R.out.cell hp
    obtain ⟨bf,of_,rfl,_,hfc⟩:=HR3.2.2 (by omega)
    have HFC:=hid (fun j v (hv:(bcells (M.putR x m))[j]?=some v)=>(show w5.cell? ((⟨bf,of_,none⟩:Addr).add j)=some v by
     obtain ⟨z,hz,rfl⟩:=bcells_at' hv
     rw [add_lit']
     exact hfc j z hz))
    have HA2:=hid (HAA.out.below HYB.out hgb)
    have HSP:=hid (splice_cells zs (M.putR x m) a)
    have e9: ¬ 512=a:=by omega
    have HLn:=hid (show (bcells (M.putR x m)).length=Nat.min N2 (512 - a) by rw [bcells_len];have:Nat.min N2 (512 - a)=N2:=Nat.min_eq_left (by omega);omega)
    have HFt:=hid (show a+(bcells (M.putR x m)).length≤(bcells zs).toArray.size by rw [bcells_len,bcells_size];omega)
    clear hl hn2l hfc HRR HAA yb HR3 CF HMM HC
    go_wp2_with (refine wpList_copy_own rfl (.tmp 38) (.tmp 39) 22 22 rfl 5 Tryz.underlying22 u8_size gb a (512 - a) (512 - a) ⟨bf,of_,none⟩ N2 N2 (by rfl) (by rfl) (bcells zs).toArray 5 HA2.out (bcells (M.putR x m)) HLn.out HFC.out HFt.out (bcells_one _) ?_;rw [HSP.out])
    go_end0
    all_goals exact (by unfold NumPut;rw [if_pos rfl,if_pos HPO.out];exact ⟨rfl,w5,HYB.out,rfl⟩)
end Go.Proofs.YtgbgngdakkiclaaGreatDoor.Hd
