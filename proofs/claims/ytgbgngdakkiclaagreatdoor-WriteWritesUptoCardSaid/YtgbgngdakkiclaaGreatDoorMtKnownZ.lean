/-
  Texts of one chapter, merged.
-/
import Derived.Test.YtgbgngdakkiclaaGreatDoorMtFrom
import Derived.Test.YtgbgngdakkiclaaGreatDoorMtMathZ
import Derived.Test.YtgbgngdakkiclaaGreatDoorStepZ
import Derived.Test.YtgbgngdakkiclaaGreatDoorMtDelZ
import Derived.IntWalk
import Derived.Laws.Cover1
import Derived.Test.YtgbgngdakkiclaaGreatDoorMtTextZ
import Derived.Deep.CutRange
import Derived.Test.YtgbgngdakkiclaaGreatDoorKX
import Derived.Test.YtgbgngdakkiclaaGreatDoorKS
import Derived.Laws.StructEq
set_option linter.unusedVariables false
set_option linter.unusedSimpArgs false
namespace Go.Proofs.YtgbgngdakkiclaaGreatDoor
open Go.RowKit Go.Lib
open Px (R2 tl)
attribute [local go_sem ↓] add_plain
end Go.Proofs.YtgbgngdakkiclaaGreatDoor

namespace Go.Proofs.YtgbgngdakkiclaaGreatDoor
open Go.RowKit Go.Lib
open Px (R2 tl)
attribute [local go_sem ↓] add_plain
def keyL:List ByteArray:= [M.kPath,M.kLink,M.kUser,M.kGroup,M.kUid,M.kGid,M.kSize,M.kTime,M.kMap,M.kReal]
def keyCells:Array Value:= #[.string M.kPath, .string M.kLink, .string M.kUser, .string M.kGroup, .string M.kUid, .string M.kGid, .string M.kSize, .string M.kTime, .string M.kMap, .string M.kReal]
theorem key_cell (w:World) (j:Nat) (hj:j<keyL.length):(w.alloc (.cells keyCells 9)).cell? ⟨w.heap.size,j,none⟩=some (.string keyL[j]):=by
 have h:=World.cell?_alloc_mark w keyCells 9 (0,0) j
 refine h.trans ?_
 have e:keyCells=(keyL.map Value.string).toArray:=rfl
 rw [e]
 simp [hj]
theorem keyL_keys:M.keys=keyL.map tl:=rfl
set_option maxRecDepth 100000 in
theorem keys_any (w:World):Calls Tryz.prog 73 #[] w fun e w'=>e= .returned (.slice (some ⟨w.heap.size,0,none⟩) 10 10)∧w'=w.alloc (.cells keyCells 9):=by
 go_enter Tryz.func73,Tryz.ntmps73
 go_wp2
 go_ret
 exact ⟨rfl,rfl⟩
set_option maxRecDepth 100000 in
set_option maxHeartbeats 1000000 in
theorem is_any (s:ByteArray) (w:World):Calls Tryz.prog 44 #[.string s] w fun e w'=>e= .returned (.bool (M.isKey (tl s)))∧Below w.heap.size w w':=by
 go_enter Tryz.func44,Tryz.ntmps44
 go_wp2_with (go_at_call 73;(with_reducible refine (keys_any _).mono ?_);rintro e w1 ⟨rfl,rfl⟩)
 have HB:=hid ((Below.refl w.heap.size w).alloc (Nat.le_refl _) (.cells keyCells 9))
 have HC:=hid (key_cell w)
 generalize World.alloc w _=W at*
 have hln:keyL.length=10:=rfl
 go_loopw [4] (fun iv wr=> ∃ k:Nat,iv= .int .i64 k∧k≤10∧Hid (∀ j (h:j<keyL.length),j<k→ ¬ tl keyL[j]=tl s)∧wr=W) (fun iv _=>10 - (intOf iv).toNat)
 case atStart=>exact ⟨0,rfl,by omega,hid (fun j _ h=>absurd h (by omega)),rfl⟩
 case round=>
  obtain ⟨k,rfl,hk,HN,rfl⟩:=hrel
  by_cases hlt:k<10
  ·have hkl:k<keyL.length:=by omega
   have hc:=HC.out k hkl
   have hq:=str_eq keyL[k] s
   obtain ⟨x,hx⟩: ∃ x,keyL[k]=x:=⟨_,rfl⟩
   rw [hx] at hc hq
   by_cases he:tl x=tl s
   ·rw [decide_eq_true he] at hq
    have HK:=hid (show M.isKey (tl s)=true by
     unfold M.isKey
     rw [decide_eq_true_eq,keyL_keys,←he,←hx]
     exact List.mem_map_of_mem (List.getElem_mem hkl))
    clear he hx hkl hln
    go_wp2
    go_ret
    exact ⟨by rw [HK.out];rfl,HB.out⟩
   ·rw [decide_eq_false he] at hq
    have HN2:=hid (show ∀ j (h:j<keyL.length),j<k+1→ ¬ tl keyL[j]=tl s from fun j h hj=>by
     rcases Nat.lt_succ_iff_lt_or_eq.1 hj with h1|h1
     ·exact HN.out j h h1
     ·subst h1;rw [hx];exact he)
    clear he hx HN hkl hln
    go_wp2
    go_roundw
    case rel=>exact ⟨k+1,by go_num,by omega,HN2,by first|rfl|trivial⟩
    case measure=>simp [intOf];omega
  ·obtain rfl:k=10:=by omega
   have HK:=hid (show M.isKey (tl s)=false by
    unfold M.isKey
    rw [decide_eq_false_iff_not,keyL_keys]
    intro hm
    obtain ⟨x,hx,he⟩:=List.mem_map.1 hm
    obtain ⟨j,hj,rfl⟩:=List.getElem_of_mem hx
    exact HN.out j hj (by omega) he)
   clear HN hlt
   go_wp2
   go_ret
   exact ⟨by rw [HK.out];rfl,HB.out⟩
end Go.Proofs.YtgbgngdakkiclaaGreatDoor
namespace Go.Proofs.YtgbgngdakkiclaaGreatDoor
open Go.RowKit Go.Lib
open Px (R2 tl)
attribute [local go_sem ↓] add_plain
end Go.Proofs.YtgbgngdakkiclaaGreatDoor
namespace Go.Proofs.YtgbgngdakkiclaaGreatDoor
open Go.RowKit Go.Lib
open Px (R2 tl)
attribute [local go_sem ↓] add_plain
end Go.Proofs.YtgbgngdakkiclaaGreatDoor

namespace Go.Proofs.YtgbgngdakkiclaaGreatDoor
open Go.RowKit Go.Lib
open Px (R2 tl)
theorem cuts_eq (s:ByteArray) (k:Nat) (h:k<s.size):M.cutsAt (tl s) k=(((s[k].toNat:Int)==47)&&(decide ((k:Int)≥1)&&(decide ((k:Int)≤155)&&(decide ((s.size:Int) - k - 1≥1)&&decide ((s.size:Int) - k - 1≤100))))):=by
 have hlen:(tl s).length=s.size:=rfl
 unfold M.cutsAt
 rw [at_tl s k h,hlen]
 have e1:(some s[k]==some (47:UInt8))=((s[k].toNat:Int)==47):=by
  rw [Bool.eq_iff_iff,beq_iff_eq,beq_iff_eq,Option.some.injEq]
  constructor
  ·intro h;rw [h];rfl
  ·intro h;exact UInt8.toNat_inj.1 (by have:s[k].toNat=47:=by omega
                                       rw [this];rfl)
 have e2:decide (1≤k)=decide ((k:Int)≥1):=by rw [decide_eq_decide];omega
 have e3:decide (k≤155)=decide ((k:Int)≤155):=by rw [decide_eq_decide];omega
 have e4:decide (k+2≤s.size)=decide ((s.size:Int) - k - 1≥1):=by rw [decide_eq_decide];omega
 have e5:decide (s.size≤k+101)=decide ((s.size:Int) - k - 1≤100):=by rw [decide_eq_decide];omega
 rw [e1,e2,e3,e4,e5,Bool.and_assoc,Bool.and_assoc,Bool.and_assoc]
set_option maxRecDepth 100000 in
set_option maxHeartbeats 1000000 in
theorem refSplit_any (s:ByteArray) (hs:s.size≤1048576) (w:World):Calls Tryz.prog 47 #[.string s] w fun e w'=>e= .returned (splitV s)∧Below w.heap.size w w':=by
 by_cases h1:s.size≤100
 ·have d1:decide ((s.size:Int)≤100)=true:=by rw [decide_eq_true_eq];omega
  have HE:=hid (split_short h1)
  clear h1
  go_enter Tryz.func47,Tryz.ntmps47
  go_wp2
  go_ret3
  exact ⟨ret_val HE.out.symm,Below.refl _ _⟩
 ·have d1:decide ((s.size:Int)≤100)=false:=by rw [decide_eq_false_iff_not];omega
  have H100:=hid (show 100<s.size by omega)
  clear h1
  have hlen:(tl s).length=s.size:=rfl
  go_enter Tryz.func47,Tryz.ntmps47
  go_wp2
  go_loopw [5] (fun iv wr=> ∃ (k:Nat),iv= .int .i64 k∧k≤s.size∧Hid (∀ j,j<k→M.cutsAt (tl s) j=false)∧Hid (Below w.heap.size w wr)) (fun iv _=>s.size - (intOf iv).toNat)
  case atStart=>exact ⟨0,rfl,by omega,hid (fun j hj=>absurd hj (by omega)),hid (Below.refl _ _)⟩
  case round=>
   obtain ⟨k,rfl,hk,HN,HB⟩:=hrel
   by_cases hlt:k<s.size
   ·have hw1:IntKind.i64.wrap ((s.size:Int) - k)=(s.size:Int) - k:=IntWalk.i64_in _ (by omega)
    have hw2:IntKind.i64.wrap ((s.size:Int) - k - 1)=(s.size:Int) - k - 1:=IntWalk.i64_in _ (by omega)
    go_upto_region 6 with fail
    go_cut [43] from 16 to 43 (fun v wx=>v= .bool (M.cutsAt (tl s) k)∧wr=wx)
    case first=>
     have HE:=hid (cuts_eq s k hlt)
     go_wp2
     all_goals
      go_meet
      case rel=>
       refine ⟨?_,rfl⟩
       rw [HE.out]
       first
        |(simp [*];done)
        |(simp_all;done)
        |(simp_all;omega)
        |(simp [*];omega)
    obtain ⟨rfl,rfl⟩:=hcut
    cases hc:M.cutsAt (tl s) k with
    |true=>
     have HE:=hid (split_at H100.out (M.cutPlace_at hc (by rw [hlen];exact hlt) HN.out))
     have hnx:=IntWalk.i64_in ((k:Int)+1) (by omega)
     clear hc HN hw1 hw2
     go_wp2_with fail
     go_quiet (fail)
     go_wp2
     go_ret3
     exact ⟨ret_val HE.out.symm,Px.below_drewN' HB.out _⟩
    |false=>
     have HN2:=hid (show ∀ j,j<k+1→M.cutsAt (tl s) j=false from fun j hj=>by
      by_cases e:j=k
      ·subst e;exact hc
      ·exact HN.out j (by omega))
     clear hc HN hw1 hw2
     go_wp2_with fail
     go_roundw
     case rel=>exact ⟨k+1,by go_num,by omega,HN2,HB⟩
     case measure=>simp [intOf];omega
   ·obtain rfl:k=s.size:=by omega
    have HE:=hid (split_no H100.out (M.cutPlace_no (fun j=>by
     by_cases hj:j<s.size
     ·exact HN.out j hj
     ·unfold M.cutsAt
      have:(tl s)[j]?=none:=List.getElem?_eq_none (by rw [hlen];omega)
      rw [this];rfl)))
    have h100:=H100.out
    clear HN
    go_wp2_with fail
    go_quiet (fail)
    go_wp2
    go_ret3
    exact ⟨ret_val HE.out.symm,Px.below_drewN' HB.out _⟩
end Go.Proofs.YtgbgngdakkiclaaGreatDoor
namespace Go.Proofs.YtgbgngdakkiclaaGreatDoor
open Go.RowKit Go.Lib
open Px (R2 tl)
attribute [local go_sem ↓] add_plain
def wordL:List ByteArray:= [⟨#[97]⟩,⟨#[98]⟩,⟨#[99]⟩,⟨#[100,100]⟩,⟨#[47]⟩,⟨#[101]⟩]
def wordT (k:Nat):Nat→ByteArray
 |0=>⟨#[]⟩
 |q+1=>wordT k q++wordL.getD ((q*q+k)%6) ⟨#[]⟩
theorem wordL_size: ∀ x∈wordL,x.size≤2:=by decide
theorem wordT_size (k:Nat): ∀ q,(wordT k q).size≤2*q
 |0=>Nat.le_refl 0
 |q+1=>by
  have ih:=wordT_size k q
  have hl:(q*q+k)%6<wordL.length:=by show _<6;exact Nat.mod_lt _ (by decide)
  have h2:=wordL_size _ (List.getElem_mem hl)
  show (wordT k q++wordL.getD ((q*q+k)%6) ⟨#[]⟩).size≤2*(q+1)
  rw [ByteArray.size_append,List.getD_eq_getElem?_getD,List.getElem?_eq_getElem hl]
  show (wordT k q).size+(wordL[(q*q+k)%6]).size≤_
  omega
set_option maxRecDepth 100000 in
set_option maxHeartbeats 2000000 in
theorem textX_any (k:Nat) (hk:k≤1000) (w:World):
  Calls Tryz.prog 31 #[.int .i64 k] w fun e w'=>e= .returned (.string (wordT k k))∧Below w.heap.size w w':=by
 go_enter Tryz.func31,Tryz.ntmps31
 go_wp2
 go_loopw [3,4] (fun v i wr=> ∃ (q:Nat) (s:ByteArray),i= .int .i64 q∧q≤k∧v= .string s∧s.size≤2*q∧Hid (s=wordT k q)∧Hid (Below w.heap.size w wr)) (fun _ i _=>k - (intOf i).toNat)
 case atStart=>exact ⟨0,⟨#[]⟩,rfl,by omega,rfl,by decide,hid rfl,hid (Below.refl _ _)⟩
 case round=>
  obtain ⟨q,s,rfl,hq,rfl,hs,HSQ,HW⟩:=hrel
  have hbs:=HW.out.size
  by_cases hlt:q<k
  ·have hq2:(q:Int)*q≤1048576:=by
    have:q*q≤1000*1000:=Nat.mul_le_mul (by omega) (by omega)
    have h3:((q*q:Nat):Int)≤((1000*1000:Nat):Int):=Int.ofNat_le.2 this
    rw [Int.natCast_mul] at h3
    omega
   have hq3:0≤(q:Int)*q:=Int.mul_nonneg (by omega) (by omega)
   obtain ⟨p,hp⟩: ∃ p:Int,(q:Int)*q=p:=⟨_,rfl⟩
   rw [hp] at hq2 hq3
   have e1:IntKind.i64.wrap ((q:Int)*q)=p:=by rw [hp];exact IntWalk.i64_in _ (by omega)
   obtain ⟨m,hm⟩: ∃ m:Int,p+k=m:=⟨_,rfl⟩
   have e2:IntKind.i64.wrap (p+k)=m:=by rw [←hm];exact IntWalk.i64_in _ (by omega)
   obtain ⟨j,hj⟩: ∃ j:Nat,j=(q*q+k)%6:=⟨_,rfl⟩
   have hmj:m%6=j:=by rw [hj,←hm,←hp];simp
   have e3:m.tmod 6=j:=by rw [Int.tmod_eq_emod_of_nonneg (by omega),hmj]
   have hj6:j<wordL.length:=by rw [hj];show _<6;exact Nat.mod_lt _ (by decide)
   have hcx:(wr.alloc (.cells #[.string ⟨#[97]⟩, .string ⟨#[98]⟩, .string ⟨#[99]⟩, .string ⟨#[100,100]⟩, .string ⟨#[47]⟩, .string ⟨#[101]⟩] 9)).cell? ⟨wr.heap.size,j,none⟩=some (.string wordL[j]):=by
    refine (World.cell?_alloc_mark wr _ 9 (0,0) j).trans ?_
    have e:(#[Value.string ⟨#[97]⟩, .string ⟨#[98]⟩, .string ⟨#[99]⟩, .string ⟨#[100,100]⟩, .string ⟨#[47]⟩, .string ⟨#[101]⟩]:Array Value)=(wordL.map Value.string).toArray:=rfl
    rw [e]
    simp [hj6]
   have HX:=hid (show wordT k (q+1)=s++wordL[j] from by
    show wordT k q++wordL.getD ((q*q+k)%6) ⟨#[]⟩=_
    rw [←hj,HSQ.out,List.getD_eq_getElem?_getD,List.getElem?_eq_getElem hj6]
    rfl)
   have hx:=wordL_size _ (List.getElem_mem hj6)
   obtain ⟨x,hxe⟩: ∃ x,wordL[j]=x:=⟨_,rfl⟩
   rw [hxe] at hcx HX hx
   have hj6':j<6:=hj6
   clear hj hq2 hq3 hp hm hmj HSQ hxe hj6
   go_wp2
   go_roundw
   case rel=>exact ⟨q+1,s++x,by go_num,by omega,rfl,by rw [ByteArray.size_append];omega,hid HX.out.symm,hid (HW.out.alloc hbs _)⟩
   case measure=>simp [intOf];omega
  ·obtain rfl:q=k:=by omega
   have HE:=hid HSQ.out
   clear hlt
   go_wp2
   go_ret
   exact ⟨by rw [←HE.out];rfl,HW.out⟩
end Go.Proofs.YtgbgngdakkiclaaGreatDoor
namespace Go.Proofs.YtgbgngdakkiclaaGreatDoor
open Go.RowKit Go.Lib
open Px (R2 tl)
attribute [local go_sem ↓] add_plain
end Go.Proofs.YtgbgngdakkiclaaGreatDoor
namespace Go.Proofs.YtgbgngdakkiclaaGreatDoor
open Go.RowKit Go.Lib
open Px (R2 tl)
attribute [local go_sem ↓] add_plain
section
variable {P:Program} {ops:Array Oper} {Q:Exit→Act→World→Prop} {a:Act} {w:World} {rest:List Oper} {o:Oper}
theorem wl_call (d:Nat) {v:Value} {f:FuncId} {args:Array Value} {C:World→Prop} (hd:o.dst=some d) (hw:Region.wanted o (yielded ops a.tmps)=true) (hx:(execOp a.eval o).run P w= .ok (.enter f args) w)
  (hc:Calls P f args w (fun e w'=>e= .returned v∧C w')) (h: ∀ w',C w'→wpList P ops Q rest (a.put (some d) v) w'):wpList P ops Q (o::rest) a w:=by
 unfold wpList
 rw [if_pos hw]
 left
 unfold Oper.wp
 rw [hx]
 refine hc.mono ?_
 rintro e w' ⟨rfl,hC⟩
 show wpList P ops Q rest (a.put o.dst v) w'
 rw [hd];exact h w' hC
end
structure SIn (w:World) (m:M.Met) (pv ev:Value):Prop where
 parts: ∃ A c,pv= .slice A m.parts.length c∧Sp.RdP w w.heap.size A m.parts.length m.parts
 extra: ∃ A c,ev= .slice A m.extra.length c∧Px.RdR w w.heap.size A m.extra
 nparts:m.parts.length≤9223372036854775807
 nextra:m.extra.length≤9223372036854775807
theorem SIn.later {w w':World} {m:M.Met} {pv ev:Value} (h:SIn w m pv ev) (hb:Below w.heap.size w w'):SIn w' m pv ev:=by
 obtain ⟨⟨A,c,h1,h2⟩,⟨A',c',h3,h4⟩,h5,h6⟩:=h
 exact ⟨⟨A,c,h1,(h2.below hb).more hb.size⟩,⟨A',c',h3,(h4.below hb).more hb.size⟩,h5,h6⟩
namespace M
noncomputable def sameM (a b:Met):Bool:= @decide (a=b) (Classical.propDecidable _)
end M
end Go.Proofs.YtgbgngdakkiclaaGreatDoor
namespace Go.Proofs.YtgbgngdakkiclaaGreatDoor
open Go.RowKit Go.Lib
open Px (R2 tl)
attribute [local go_sem ↓] add_plain
end Go.Proofs.YtgbgngdakkiclaaGreatDoor
