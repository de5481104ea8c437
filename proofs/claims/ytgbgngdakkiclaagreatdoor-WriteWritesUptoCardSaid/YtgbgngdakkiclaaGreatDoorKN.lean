import Derived.Below
import Derived.Laws.OwnMore
import Derived.Deep.AppendLies
import Derived.Deep.Draws
import Derived.Lib.Hide
import Derived.Test.YtgbgngdakkiclaaGreatDoorRows
import Derived.WalkKit
import Derived.Laws.BitsAllLaws
import Derived.Laws.BitsLemmas
import Derived.Laws.MakeOwn
import Derived.Deep.OwnRows
set_option linter.unusedVariables false
set_option linter.unusedSimpArgs false
namespace Go.Proofs.YtgbgngdakkiclaaGreatDoor.Nm
namespace M
def most:Int:=4611686018427387904
def first (c:Int):Int:=if c<192 then c - 128 else c - 256
def bits (z:Int) (l:List Int):Int:=l.foldl (fun n c=>256*n+c) (first z)
def octC (n:Int) (N k j:Nat):Int:=if N - 1≤j+k∧j+1<N then 48+(n/8^(N - 2 - j))%8 else 0
def octG (n:Int) (N j:Nat):Int:=if j+1<N then 48+(n/8^(N - 2 - j))%8 else 0
theorem octC_zero (n:Int) (N j:Nat):octC n N 0 j=0:=by
 unfold octC
 rw [if_neg (by omega)]
theorem octC_end (n:Int) (N j:Nat):octC n N (N - 1) j=octG n N j:=by
 unfold octC octG
 by_cases h:j+1<N
 ·rw [if_pos ⟨by omega,h⟩,if_pos h]
 ·rw [if_neg (by omega),if_neg h]
theorem octC_succ (n:Int) (N k j:Nat) (hk:k<N - 1):(if j=N - 2 - k then 48+(n/8^k)%8 else octC n N k j)=octC n N (k+1) j:=by
 by_cases h:j=N - 2 - k
 ·rw [if_pos h]
  unfold octC
  rw [if_pos ⟨by omega,by omega⟩,show N - 2 - j=k by omega]
 ·rw [if_neg h]
  unfold octC
  by_cases h2:N - 1≤j+k∧j+1<N
  ·rw [if_pos h2,if_pos ⟨by omega,h2.2⟩]
  ·rw [if_neg h2,if_neg (by omega)]
theorem octG_bd (n:Int) (N j:Nat):0≤octG n N j∧octG n N j≤255:=by
 unfold octG;split<;>omega
def listOf (g:Nat→Int) (N:Nat):List Int:=(List.range N).map g
theorem listOf_len (g:Nat→Int) (N:Nat):(listOf g N).length=N:=by simp [listOf]
theorem listOf_at {g:Nat→Int} {N j:Nat} {z:Int} (h:(listOf g N)[j]?=some z):j<N∧g j=z:=by
 unfold listOf at h
 rw [List.getElem?_map] at h
 by_cases hj:j<N
 ·rw [List.getElem?_range hj] at h
  exact ⟨hj,by simpa using h⟩
 ·rw [List.getElem?_eq_none (by simp;omega)] at h
  cases h
def oct (n:Int) (N:Nat):List Int:=listOf (octG n N) N
def octFits (n wide:Int):Bool:=decide (2≤wide)&&decide (wide≤32)&&decide (0≤n)&&decide (n≤most)&&decide (n/8^(wide.toNat - 1)=0)
def octR (n wide:Int):List Int:=if octFits n wide then oct n wide.toNat else []
theorem shr8_succ (n:Int) (k:Nat):n/8^(k+1)=n/8^k/8:=by
 rw [Int.pow_succ,Int.ediv_ediv_of_nonneg (Int.pow_nonneg (by decide))]
theorem shr8_nonneg {n:Int} (h:0≤n) (k:Nat):0≤n/8^k:=Int.ediv_nonneg h (Int.pow_nonneg (by decide))
theorem shr8_le {n:Int} (h:0≤n) (k:Nat):n/8^k≤n:=Int.ediv_le_self _ h
end M
end Go.Proofs.YtgbgngdakkiclaaGreatDoor.Nm
set_option linter.unusedVariables false
set_option linter.unusedSimpArgs false
namespace Go.Proofs.YtgbgngdakkiclaaGreatDoor.Nm
open Go.RowKit
def Rd (w:World) (B:Nat) (A:Option Addr) (n:Nat) (zs:List Int):Prop:=
 zs.length=n∧(∀ z∈zs,0≤z∧z≤255)∧
  (0<n→ ∃ b off,A=some ⟨b,off,none⟩∧b<B∧ ∀ j z,zs[j]?=some z→w.cell? ⟨b,off+j,none⟩=some (.int .u8 z))
section
variable {w w':World} {B B' n:Nat} {A:Option Addr} {zs:List Int}
theorem Rd.none_:Rd w B A 0 []:=⟨rfl,by simp,fun h=>absurd h (by omega)⟩
theorem Rd.keep (h:Rd w B A n zs) (hk: ∀ p:Addr,p.block<B→w'.cell? p=w.cell? p):Rd w' B A n zs:=
 ⟨h.1,h.2.1,fun hn=>by
  obtain ⟨b,off,e,hb,hc⟩:=h.2.2 hn
  exact ⟨b,off,e,hb,fun j z hz=>(hk _ hb).trans (hc j z hz)⟩⟩
theorem Rd.below (h:Rd w B A n zs) (hb:Below B w w'):Rd w' B A n zs:=h.keep fun _ hp=>hb.cell hp
theorem Rd.alloc (h:Rd w B A n zs) (hB:B≤w.heap.size) (o:Obj):Rd (w.alloc o) B A n zs:=h.keep fun p hp=>World.cell?_alloc_lt w o p (by omega)
theorem Rd.setCell (h:Rd w B A n zs) {p:Addr} (hB:B≤p.block) (u:Value):Rd (w.setCell p u) B A n zs:=
 h.keep fun q hq=>World.cell?_setCell_other w p q u (fun e=>by subst e;omega)
end
end Go.Proofs.YtgbgngdakkiclaaGreatDoor.Nm
namespace Go.Proofs.YtgbgngdakkiclaaGreatDoor.Nm
open Go.RowKit Go.Lib
theorem width_yes (n:Int) (w:World) (h1:2≤n) (h2:n≤32):Calls Tryz.prog 155 #[.int .i64 n] w fun e w'=>e= .returned (.bool true)∧w=w':=by
 go_enter Tryz.func155,Tryz.ntmps155
 go_wp2
 go_ret
 exact ⟨rfl,rfl⟩
theorem width_no (n:Int) (w:World) (h:n<2∨32<n):Calls Tryz.prog 155 #[.int .i64 n] w fun e w'=>e= .returned (.bool false)∧w=w':=by
 rcases h with h|h
 ·go_enter Tryz.func155,Tryz.ntmps155
  go_wp2
  go_ret
  exact ⟨rfl,rfl⟩
 ·have h':2≤n:=by omega
  have h'':decide (n≤32)=false:=by simp;omega
  go_enter Tryz.func155,Tryz.ntmps155
  go_wp2
  go_ret
  exact ⟨rfl,rfl⟩
end Go.Proofs.YtgbgngdakkiclaaGreatDoor.Nm
namespace Go.Proofs.YtgbgngdakkiclaaGreatDoor.Nm
open Go.RowKit Go.Lib
theorem ofInt_i64 (a:Nat) (ha:a<9223372036854775808):(BitVec.ofInt 64 (a:Int)).toNat=a:=by
 rw [BitVec.ofInt_natCast,BitVec.toNat_ofNat];exact Nat.mod_eq_of_lt (by omega)
theorem u8_info:(Tryz.prog.info? 5).map (fun i=>(i.zero,i.size,i.bytes))=some (some (.int .u8 0),1,1):=by kernel_rfl
def RowB (w:World) (b N:Nat) (g:Nat→Int):Prop:=w.rowIs b 5 N (fun j=> .int .u8 (g j))
section
variable {w w':World} {b N:Nat} {g h:Nat→Int}
theorem RowB.cell (r:RowB w b N g) {i:Nat} (hi:i<N):w.cell? ⟨b,i,none⟩=some (.int .u8 (g i)):=World.rowIs.cell r hi
theorem RowB.frozen (r:RowB w b N g) (i:Nat):w.frozen? ⟨b,i,none⟩=false:=World.rowIs.frozen r i
theorem RowB.lt (r:RowB w b N g):b<w.heap.size:=World.rowIs.lt r
theorem RowB.to (r:RowB w b N g) (e: ∀ i,i<N→g i=h i):RowB w b N h:=World.rowIs.congr r fun i hi=>by rw [e i hi]
theorem RowB.set (r:RowB w b N g) (i:Nat) (v:Int):RowB (w.setCell ⟨b,i,none⟩ (.int .u8 v)) b N (fun j=>if j=i then v else g j):=
 (World.rowIs.set r i (.int .u8 v)).congr fun j _=>by
  show (if j=i then _ else _)=Value.int .u8 (if j=i then v else g j)
  split<;>rfl
theorem RowB.made (w:World) (N:Nat):RowB (w.alloc (.cells (madeCells #[.int .u8 0] N) 5)) w.heap.size N (fun _=>0):=World.rowIs_made w _ N _
theorem RowB.rd (r:RowB w b N g) (hb: ∀ j,0≤g j∧g j≤255):Rd w w.heap.size (some ⟨b,0,none⟩) N (M.listOf g N):=by
 refine ⟨M.listOf_len g N, ?_,fun _=>⟨b,0,rfl,r.lt,fun j z hz=> ?_⟩⟩
 ·intro z hz
  obtain ⟨j,hj,rfl⟩:=List.getElem_of_mem hz
  obtain ⟨_,e⟩:=M.listOf_at (List.getElem?_eq_getElem hj)
  rw [←e]
  exact hb j
 ·obtain ⟨hj,rfl⟩:=M.listOf_at hz
  rw [Nat.zero_add]
  exact r.cell hj
end
def PutPost (w:World) (ok:Bool) (zs:List Int) (e:Ending) (w':World):Prop:=
 ∃ A N,e= .returned (.tuple #[.slice A N N, .bool ok])∧Rd w' w'.heap.size A N zs∧Below w.heap.size w w'
theorem PutPost.none_ {w w':World} (h:Below w.heap.size w w'):PutPost w false [] (.returned (.tuple #[.slice none 0 0, .bool false])) w':=
 ⟨none,0,rfl,Rd.none_,h⟩
theorem and7 (v:Int) (h0:0≤v) (h1:v≤4611686018427387904):bits .and .i64 v 7=v%8:=by
 obtain ⟨v,rfl⟩:=Int.eq_ofNat_of_zero_le h0
 have hx:v&&&7=v%8:=Nat.and_two_pow_sub_one_eq_mod v 3
 show IntKind.i64.wrap ((BitVec.ofInt 64 (v:Int)&&&BitVec.ofInt 64 7).toNat:Int)=_
 rw [BitVec.toNat_and,ofInt_i64 v (by omega),show (BitVec.ofInt 64 7).toNat=7 from rfl,hx,IntKind.wrap_i64]
 omega
set_option maxHeartbeats 400000 in
theorem putOctal_go (n:Int) (N:Nat) (w:World) (h1:2≤N) (h2:N≤32) (h3:0≤n) (h4:n≤4611686018427387904):
  Calls Tryz.prog 130 #[.int .i64 n, .int .i64 N] w (PutPost w (M.octFits n N) (M.octR n N)):=by
 have HW:=hid (width_yes N w (by omega) (by omega))
 have e1:decide (n<0)=false:=by simpa using h3
 have e2:decide (4611686018427387904<n)=false:=by simpa using h4
 have hmk:=run_make_row' (P:=Tryz.prog) 22 5 (.int .u8 0) 1 Tryz.underlying22 u8_info rfl .i64 .i64 N (by omega) (by omega)
 go_enter Tryz.func130,Tryz.ntmps130
 go_wp2_with fail
 (with_reducible refine HW.out.mono ?_)
 rintro e w' ⟨rfl,rfl⟩
 go_wp2
 clear hmk e1 e2
 go_loopw [0,23] (fun v i wr=> ∃ k:Nat,k≤N - 1∧i= .int .i64 k∧v= .int .i64 (n/8^k)∧RowB wr w.heap.size N (M.octC n N k)∧Below w.heap.size w wr) (fun _ i _=>N - 1 - (intOf i).toNat)
 case atStart=>exact ⟨0,Nat.zero_le _,rfl,by simp,(RowB.made w N).to fun i _=>(M.octC_zero n N i).symm,(Below.refl _ _).alloc (Nat.le_refl _) _⟩
 case round=>
  obtain ⟨k,hk,rfl,rfl,hrow,hbel⟩:=hrel
  have hv0:=M.shr8_nonneg h3 k
  have hv1:=M.shr8_le h3 k
  by_cases hlt:k<N - 1
  ·have hc:=hrow.cell (i:=N - 2 - k) (by omega)
   have hf:=hrow.frozen (N - 2 - k)
   have HS:=hid (M.shr8_succ n k)
   generalize hval:n/8^k=v at*
   have HV:=hid hval
   clear hval
   have HA:=hid (and7 v hv0 (by omega))
   go_wp2
   have he:(48+bits .and .i64 v 7)%256=48+v%8:=by rw [HA.out];omega
   rw [he]
   go_roundw
   case rel=>
    refine ⟨k+1,by omega,by go_num,by rw [HS.out],(hrow.set _ _).to fun j _=> ?_,hbel.setCell (Nat.le_refl _) _⟩
    rw [←HV.out]
    exact M.octC_succ n N k j hlt
   case measure=>simp [intOf];omega
  ·obtain rfl:k=N - 1:=by omega
   have hrow':RowB wr w.heap.size N (M.octG n N):=hrow.to fun j _=>M.octC_end n N j
   clear hrow hlt hk
   have hfits:M.octFits n N=decide (n/8^(N - 1)=0):=by
    unfold M.octFits M.most
    rw [show decide ((2:Int)≤N)=true by simp;omega,show decide ((N:Int)≤32)=true by simp;omega,show decide (0≤n)=true by simpa using h3,
     show decide (n≤4611686018427387904)=true by simpa using h4,Int.toNat_natCast]
    rfl
   by_cases hz:n/8^(N - 1)=0
   ·have hf:M.octFits n N=true:=by rw [hfits,hz];rfl
    have hR:M.octR n N=M.oct n N:=by unfold M.octR;rw [hf,Int.toNat_natCast];rfl
    have HF:=hid hf
    have HR:=hid hR
    clear hf hR hfits
    rw [hz]
    clear hz hv0 hv1
    go_wp2
    go_ret2
    rw [HF.out,HR.out]
    exact ⟨_,N,rfl,hrow'.rd (M.octG_bd n N),hbel⟩
   ·have hf:M.octFits n N=false:=by rw [hfits];simpa using hz
    have hR:M.octR n N= []:=by unfold M.octR;rw [hf];rfl
    have HF:=hid hf
    have HR:=hid hR
    clear hf hR hfits
    generalize n/8^(N - 1)=v at*
    have hz':(v !=0)=true:=by simpa using hz
    go_wp2
    go_ret2
    rw [HF.out,HR.out]
    exact PutPost.none_ hbel
theorem octFits_no {n wide:Int} (h: ¬ (2≤wide∧wide≤32∧0≤n∧n≤4611686018427387904)):M.octFits n wide=false:=by
 unfold M.octFits M.most
 by_cases h1:2≤wide
 ·by_cases h2:wide≤32
  ·by_cases h3:0≤n
   ·have h4: ¬ n≤4611686018427387904:=fun h4=>h ⟨h1,h2,h3,h4⟩
    simp [h4]
   ·simp [h3]
  ·simp [h2]
 ·simp [h1]
theorem octR_no {n wide:Int} (h:M.octFits n wide=false):M.octR n wide= []:=by unfold M.octR;rw [h];rfl
set_option maxHeartbeats 400000 in
theorem putOctal_any (n wide:Int) (w:World):
  Calls Tryz.prog 130 #[.int .i64 n, .int .i64 wide] w (PutPost w (M.octFits n wide) (M.octR n wide)):=by
 by_cases h:2≤wide∧wide≤32∧0≤n∧n≤4611686018427387904
 ·obtain ⟨h1,h2,h3,h4⟩:=h
  obtain ⟨N,rfl⟩:=Int.eq_ofNat_of_zero_le (by omega:0≤wide)
  exact putOctal_go n N w (by omega) (by omega) h3 h4
 ·rw [octR_no (octFits_no h),octFits_no h]
  by_cases hw:wide<2∨32<wide
  ·have HW:=hid (width_no wide w hw)
   clear hw h
   go_enter Tryz.func130,Tryz.ntmps130
   go_wp2_with fail
   (with_reducible refine HW.out.mono ?_)
   rintro e w' ⟨rfl,rfl⟩
   go_wp2
   go_ret2
   exact PutPost.none_ (Below.refl _ _)
  ·have HW:=hid (width_yes wide w (by omega) (by omega))
   by_cases hn:n<0
   ·have e1:decide (n<0)=true:=by simpa using hn
    clear h hn
    go_enter Tryz.func130,Tryz.ntmps130
    go_wp2_with fail
    (with_reducible refine HW.out.mono ?_)
    rintro e w' ⟨rfl,rfl⟩
    go_wp2
    go_ret2
    exact PutPost.none_ (Below.refl _ _)
   ·have e1:decide (n<0)=false:=by simpa using hn
    have e2:decide (4611686018427387904<n)=true:=by rw [decide_eq_true_eq];omega
    clear h hw
    go_enter Tryz.func130,Tryz.ntmps130
    go_wp2_with fail
    (with_reducible refine HW.out.mono ?_)
    rintro e w' ⟨rfl,rfl⟩
    go_wp2
    go_ret2
    exact PutPost.none_ (Below.refl _ _)
set_option maxHeartbeats 800000 in
theorem putOctalRef_go (n:Int) (N:Nat) (w:World) (h1:2≤N) (h2:N≤32) (h3:0≤n) (h4:n≤4611686018427387904):
  Calls Tryz.prog 51 #[.int .i64 n, .int .i64 N] w (PutPost w (M.octFits n N) (M.octR n N)):=by
 have e1:decide (n<0)=false:=by simpa using h3
 have e2:decide (4611686018427387904<n)=false:=by simpa using h4
 have e3:decide ((N:Int)<2)=false:=by rw [decide_eq_false_iff_not];omega
 have e4:decide (32<(N:Int))=false:=by rw [decide_eq_false_iff_not];omega
 have hmk:=run_make_row' (P:=Tryz.prog) 22 5 (.int .u8 0) 1 Tryz.underlying22 u8_info rfl .i64 .i64 N (by omega) (by omega)
 go_enter Tryz.func51,Tryz.ntmps51
 go_wp2
 clear hmk e1 e2 e3 e4
 go_loopw [0,7] (fun v i wr=> ∃ k:Nat,k≤N - 1∧i= .int .i64 ((N:Int) - 2 - k)∧v= .int .i64 (n/8^k)∧RowB wr w.heap.size N (M.octC n N k)∧Below w.heap.size w wr) (fun _ i _=>(intOf i+1).toNat)
 case atStart=>exact ⟨0,Nat.zero_le _,by go_num,by simp,(RowB.made w N).to fun i _=>(M.octC_zero n N i).symm,(Below.refl _ _).alloc (Nat.le_refl _) _⟩
 case round=>
  obtain ⟨k,hk,rfl,rfl,hrow,hbel⟩:=hrel
  have hv0:=M.shr8_nonneg h3 k
  have hv1:=M.shr8_le h3 k
  by_cases hlt:k<N - 1
  ·have hc:=hrow.cell (i:=N - 2 - k) (by omega)
   have hf:=hrow.frozen (N - 2 - k)
   have HS:=hid (M.shr8_succ n k)
   generalize hval:n/8^k=v at*
   have HV:=hid hval
   clear hval
   have hge:(0:Int)≤(N:Int) - 2 - k:=by omega
   have hto:((N:Int) - 2 - k).toNat=N - 2 - k:=by omega
   go_wp2
   have he:(48+v%8)%256=48+v%8:=by omega
   go_roundw
   case rel=>
    refine ⟨k+1,by omega,by go_num,by rw [HS.out],(hrow.set _ _).to fun j _=> ?_,hbel.setCell (Nat.le_refl _) _⟩
    rw [←HV.out]
    exact M.octC_succ n N k j hlt
   case measure=>simp [intOf];omega
  ·obtain rfl:k=N - 1:=by omega
   have hrow':RowB wr w.heap.size N (M.octG n N):=hrow.to fun j _=>M.octC_end n N j
   clear hrow hlt hk
   have hfits:M.octFits n N=decide (n/8^(N - 1)=0):=by
    unfold M.octFits M.most
    rw [show decide ((2:Int)≤N)=true by simp;omega,show decide ((N:Int)≤32)=true by simp;omega,show decide (0≤n)=true by simpa using h3,
     show decide (n≤4611686018427387904)=true by simpa using h4,Int.toNat_natCast]
    rfl
   have hneg:(N:Int) - 2 - ((N - 1:Nat):Int)<0:=by omega
   by_cases hz:n/8^(N - 1)=0
   ·have hf:M.octFits n N=true:=by rw [hfits,hz];rfl
    have hR:M.octR n N=M.oct n N:=by unfold M.octR;rw [hf,Int.toNat_natCast];rfl
    have HF:=hid hf
    have HR:=hid hR
    clear hf hR hfits
    rw [hz]
    clear hz hv0 hv1
    go_wp2
    go_ret2
    rw [HF.out,HR.out]
    exact ⟨_,N,rfl,hrow'.rd (M.octG_bd n N),hbel⟩
   ·have hf:M.octFits n N=false:=by rw [hfits];simpa using hz
    have hR:M.octR n N= []:=by unfold M.octR;rw [hf];rfl
    have HF:=hid hf
    have HR:=hid hR
    clear hf hR hfits
    generalize n/8^(N - 1)=v at*
    have hz':0<v:=by omega
    go_wp2
    go_ret2
    rw [HF.out,HR.out]
    exact PutPost.none_ hbel
end Go.Proofs.YtgbgngdakkiclaaGreatDoor.Nm
