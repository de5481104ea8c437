import Derived.Test.YtgbgngdakkiclaaGreatDoorKhF3
import Derived.Test.YtgbgngdakkiclaaGreatDoorMtFromZ
set_option linter.unusedVariables false
set_option linter.unusedSimpArgs false
namespace Go.Proofs.YtgbgngdakkiclaaGreatDoor
open Go.RowKit Go.Lib
open Px (R2 tl)
def hd (h:M.Hdr):Hd.M.Hdr:=
 { name:=h.name,mode:=h.mode,uid:=h.uid,gid:=h.gid,size:=h.size,mtime:=h.mtime,kind:=h.kind,link:=h.link,way:=h.way,user:=h.user,group:=h.group,major:=h.major,minor:=h.minor,pre:=h.pre,parts:=h.parts,more:=h.more,real:=h.real }
theorem nul_extract (s:ByteArray) (a b:Nat) (h:M.noNul (tl s)=true): ¬ (0:UInt8)∈(s.extract a b).data.toList:=by
 intro hm
 have h0:(0:UInt8)∈s.data.toList:=by
  rw [ByteArray.data_extract,Array.toList_extract] at hm
  exact List.mem_of_mem_drop (List.mem_of_mem_take hm)
 have:=List.all_eq_true.1 h 0 h0
 simp at this
theorem nul_all (s:ByteArray) (h:M.noNul (tl s)=true): ¬ (0:UInt8)∈s.data.toList:=by
 intro hm
 have:=List.all_eq_true.1 h 0 hm
 simp at this
theorem tOk_of {s:ByteArray} {k:Nat} (h:s.size≤k) (h0: ¬ (0:UInt8)∈s.data.toList):Hd.M.tOk k s=true:=by
 unfold Hd.M.tOk Hd.S.M.put
 rw [if_pos ⟨by have:s.data.toList.length=s.size:=Array.length_toList;omega,h0⟩]
 rfl
theorem d_zero (a k:Nat) (hk:k=8∨k=12):Hd.M.dOk (0,a,k)=true:=by
 have h1:Hd.M.octFits 0 (k:Int)=true:=by
  unfold Hd.M.octFits
  simp only [Bool.and_eq_true,decide_eq_true_eq,Int.zero_ediv]
  refine ⟨⟨⟨⟨by omega,by omega⟩,by decide⟩,by unfold Hd.M.most;decide⟩,trivial⟩
 unfold Hd.M.dOk
 simp only [Hd.M.putFits,h1,Bool.true_or,Bool.true_and]
 rfl
theorem d_if (x:Int) (a k:Nat) (hk:k=8∨k=12):Hd.M.dOk ((if M.fits x k=true then x else 0),a,k)=true:=by
 cases h:M.fits x k with
 |true=>
  unfold Hd.M.dOk
  have h1:Hd.M.octFits x k=true:=h
  have h0:0≤x:=by
   unfold Hd.M.octFits at h1
   simp only [Bool.and_eq_true,decide_eq_true_eq] at h1
   exact h1.1.1.2
  simp only [if_pos,Hd.M.putFits,h1,Bool.true_or,Bool.true_and,decide_eq_true h0]
 |false=>
  exact d_zero a k hk
theorem d_small (x:Int) (a:Nat) (h:0≤x∧x≤2097151):Hd.M.dOk (x,a,8)=true:=by
 have h1:Hd.M.octFits x ((8:Nat):Int)=true:=by
  unfold Hd.M.octFits
  simp only [Bool.and_eq_true,decide_eq_true_eq]
  refine ⟨⟨⟨⟨by decide,by decide⟩,h.1⟩,by unfold Hd.M.most;omega⟩, ?_⟩
  rw [show (8:Int)^((((8:Nat):Int)).toNat - 1)=2097152 from rfl]
  omega
 unfold Hd.M.dOk
 simp only [Hd.M.putFits,h1,Bool.true_or,Bool.true_and,decide_eq_true h.1]
theorem asked_head {m:M.Met} (he:M.toE m=0):Hd.M.Asked (hd (M.head m)):=by
 have R:=M.right_of (M.toE_wrong he)
 have hroom:=M.split_room m.name
 have hk:=R.kind
 have dv: ∀ n:Int,(0≤n∧n≤if M.isDev m.kind=true then 2097151 else 0)→0≤n∧n≤2097151:=by
  intro n hn
  split at hn<;>omega
 have hns: ∀ a b:Nat,¬ (0:UInt8)∈(m.name.extract a b).data.toList:=fun a b=>nul_extract _ _ _ R.nuls.1
 have hsp:(¬ (0:UInt8)∈(M.split m.name).1.data.toList)∧ ¬ (0:UInt8)∈(M.split m.name).2.1.data.toList:=by
  unfold M.split
  split
  ·exact ⟨by simp,nul_all _ R.nuls.1⟩
  ·split
   ·exact ⟨hns _ _,hns _ _⟩
   ·exact ⟨by simp,hns _ _⟩
 have hsz:(if M.fits m.size 12=true then m.size else 0)≤1099511627776:=by
  have:=R.size
  split
  ·split at this<;>omega
  ·omega
 have hex: ∀ (s:ByteArray) (k:Nat),(s.extract 0 k).size≤k:=fun s k=>by rw [ByteArray.size_extract];omega
 have hkind: ¬ m.kind=83:=by omega
 refine ⟨⟨?_, ?_⟩, ?_, ?_, ?_⟩
 ·show Hd.M.known m.kind=true
  unfold Hd.M.known
  rw [decide_eq_true (show 48≤m.kind by omega),decide_eq_true (show m.kind≤55 by omega)]
  rfl
 ·show (m.kind !=83||_)=true
  rw [bne_iff_ne.2 hkind]
  rfl
 ·intro x hx
  unfold Hd.M.tq at hx
  simp only [List.mem_cons,List.not_mem_nil,or_false] at hx
  rcases hx with rfl|rfl|rfl|rfl|rfl
  ·exact tOk_of hroom.2 hsp.2
  ·exact tOk_of (hex _ _) (nul_extract _ _ _ R.nuls.2.1)
  ·exact tOk_of (hex _ _) (nul_extract _ _ _ R.nuls.2.2.1)
  ·exact tOk_of (hex _ _) (nul_extract _ _ _ R.nuls.2.2.2)
  ·exact tOk_of hroom.1 hsp.1
 ·have e1:Hd.M.f1 (hd (M.head m))=true:=decide_eq_true ⟨show (0:Int)≤1 by decide,show (1:Int)≤2 by decide,hsz,show (0:Int)≤1099511627776 by decide,show (0:Nat)≤4 by decide⟩
  have e2:Hd.M.f2 (hd (M.head m))=true:=decide_eq_true ⟨fun h=>absurd (show (1:Int)=0 from h) (by decide),fun h=>absurd rfl h⟩
  have e4:Hd.M.f4 (hd (M.head m))=true:=decide_eq_true (.inr ⟨rfl,rfl,rfl⟩)
  unfold Hd.M.fits
  rw [e1,e2,e4]
  rfl
 ·have en:Hd.M.nq (hd (M.head m))= [(m.mode,100,8),((if M.fits m.uid 8=true then m.uid else 0),108,8),((if M.fits m.gid 8=true then m.gid else 0),116,8),((if M.fits m.size 12=true then m.size else 0),124,12),((if M.timeFits m=true then m.sec else 0),136,12),(m.major,329,8),(m.minor,337,8)]:=by
   unfold Hd.M.nq
   rw [if_neg (by show ¬ (m.kind==83)=true;rw [beq_iff_eq];exact hkind)]
   rfl
  rw [en]
  intro x hx
  simp only [List.mem_cons,List.not_mem_nil,or_false] at hx
  rcases hx with rfl|rfl|rfl|rfl|rfl|rfl|rfl
  ·exact d_small _ _ R.mode
  ·exact d_if _ _ 8 (.inl rfl)
  ·exact d_if _ _ 8 (.inl rfl)
  ·exact d_if _ _ 12 (.inr rfl)
  ·unfold M.timeFits
   cases hn:(m.nan==0) with
   |true=>rw [Bool.and_true];exact d_if _ _ 12 (.inr rfl)
   |false=>rw [Bool.and_false];exact d_zero _ 12 (.inr rfl)
  ·exact d_small _ _ (dv _ R.major)
  ·exact d_small _ _ (dv _ R.minor)
end Go.Proofs.YtgbgngdakkiclaaGreatDoor
