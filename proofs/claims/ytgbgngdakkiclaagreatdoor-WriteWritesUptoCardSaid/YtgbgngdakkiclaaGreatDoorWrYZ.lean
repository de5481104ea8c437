/-
  Texts of one chapter, merged.
-/
import Derived.Test.YtgbgngdakkiclaaGreatDoorKS
import Derived.Test.YtgbgngdakkiclaaGreatDoorShelfB
import Derived.Lib.BufferAt
import Derived.Deep.MidRow
import Derived.Shelf.RegionOpen
import Derived.Laws.Cover1
import Derived.Test.YtgbgngdakkiclaaGreatDoorKSa
import Derived.Test.YtgbgngdakkiclaaGreatDoorMtAsked
import Derived.Test.YtgbgngdakkiclaaGreatDoorKhF1
import Derived.Test.YtgbgngdakkiclaaGreatDoorKhF2
import Derived.Test.YtgbgngdakkiclaaGreatDoorMtRefZ
import Derived.Test.YtgbgngdakkiclaaGreatDoorKX
import Derived.Test.YtgbgngdakkiclaaGreatDoorStepZ
set_option linter.unusedVariables false
set_option linter.unusedSimpArgs false
namespace Go.Proofs.YtgbgngdakkiclaaGreatDoor
open Go.RowKit Go.Lib
def Buf (w:World) (B b:Nat) (zs:List Int):Prop:=LibA.IsBuffer 60 (fun _=>none) 5 B b 0 (Sp.bcells zs) w
section
variable {w w':World} {B b:Nat} {zs:List Int}
theorem Buf.lt (h:Buf w B b zs):b<w.heap.size:=LibA.IsBuffer.lt h
theorem Buf.ge (h:Buf w B b zs):B≤b:=h.1
theorem Buf.later (h:Buf w B b zs) (hb:Below w.heap.size w w'):Buf w' B b zs:=LibA.IsBuffer.old h hb
theorem Buf.new (w:World):Buf (w.alloc (.cells #[.slice none 0 0, .int .i64 0, .int .i8 0] 60)) w.heap.size w.heap.size []:=
 LibA.zero_isBuffer (Nat.le_refl _) (LibA.three_whole (heap_alloc_new w _))
theorem Buf.open (h:Buf w B b zs): ∃ A cap lr,LibA.Three w b 0 60 (fun _=>none) (.slice A zs.length cap) (.int .i64 0) (.int .i8 lr)∧zs.length≤cap∧cap≤maxLen∧Sp.OwnY w B (.slice A zs.length cap) zs∧(Value.slice A zs.length cap).ownBlock≠some b:=by
 obtain ⟨hB,v,lr,h3,hown,hne⟩:=h
 rw [Sp.bcells_len] at hown
 obtain ⟨A,c,rfl,h1,h2⟩:=Sp.own_room hown
 exact ⟨A,c,lr,h3,h1,h2,hown,hne⟩
end
theorem bufLen {w:World} {B b:Nat} {zs:List Int} (h:Buf w B b zs):
  Calls Tryz.prog 72 #[.pointer (some ⟨b,0,none⟩)] w fun e w'=>e= .returned (.int .i64 zs.length)∧ ∃ n,w'=w.drewN n:=by
 have h1:=Tryz.Buffer_Len_at _ _ B b 0 _ w h
 rw [Sp.bcells_len] at h1
 exact h1
theorem run_copy_none (w:World) (d:Option Addr) (dl dc c:Nat) (ty:TypeId):
  (Builtin.copy_ #[22,22] ty #[.slice d dl dc, .slice none 0 c]).run Tryz.prog w= .ok (.int .i64 0) w:=by
 obtain ⟨i0,hi,_⟩:=info_parts Sp.u8_parts
 cases d<;>simp [Builtin.copy_,run_underlying (P:=Tryz.prog) Tryz.underlying22,Builtin.lenOf,Builtin.firstCells,sizeOf,typeInfo,hi,storeCells,goInt]
set_option maxRecDepth 100000 in
set_option maxHeartbeats 1000000 in
theorem bufWrite0 {w:World} {B b:Nat} {zs:List Int} (h:Buf w B b zs) (c:Nat):
  Calls Tryz.prog 26 #[.pointer (some ⟨b,0,none⟩), .slice none 0 c] w fun e w'=>e= .returned (.tuple #[.int .i64 0, .nilIface])∧Buf w' B b zs∧Below B w w'∧Lib.OthersKept 5 (some b) w w':=by
 obtain ⟨A,cap,lr,h3,h1,h2,hown,hne⟩:=h.open
 have hlt:=h3.lt
 have hge:=h.ge
 have c2:=h3.c2
 have f2:=h3.f 2
 have h3':LibA.Three (w.setCell ⟨b,2,none⟩ (.int .i8 0)) b 0 60 (fun _=>none) (.slice A zs.length cap) (.int .i64 0) (.int .i8 0):=h3.set2 (.int .i8 0)
 have hG:=Lib.grownBy_setCell w b 2 (.int .i8 0)
 have hown1:Sp.OwnY (w.setCell ⟨b,2,none⟩ (.int .i8 0)) B (.slice A zs.length cap) zs:=Sp.OwnY.grown hown hG (.inr hne)
 have HB1:=hid (Sp.below_grown (Below.refl B w) hG (by omega) (fun g hg=>by injection hg with hg;omega))
 have c0':=h3'.c0
 have f0':=h3'.f 0
 have HT:=hid (fun W=>Tryz.Buffer_tryGrow_room_at b 0 A zs.length cap 0 W)
 have H3:=hid h3'
 have HO:=hid hown1
 have HN:=hid hne
 clear h3 hown hne h h3' hG hown1
 unfold maxLen at h2
 go_enter Tryz.func26,Tryz.ntmps26
 go_wp2_with fail
 refine (HT.out _ c0' f0' h1 (by unfold maxLen;omega) (by omega)).mono ?_
 rintro e w2 ⟨rfl,rfl⟩
 have h4:=H3.out.set0 (.slice A (zs.length+0) cap)
 have hG2:=Lib.grownBy_setCell (w.setCell ⟨b,2,none⟩ (.int .i8 0)) b 0 (.slice A (zs.length+0) cap)
 have hown2:Sp.OwnY ((w.setCell ⟨b,2,none⟩ (.int .i8 0)).setCell ⟨b,0,none⟩ (.slice A (zs.length+0) cap)) B (.slice A zs.length cap) zs:=Sp.OwnY.grown HO.out hG2 (.inr HN.out)
 have HB2:=hid (show Below B w ((w.setCell ⟨b,2,none⟩ (.int .i8 0)).setCell ⟨b,0,none⟩ (.slice A (zs.length+0) cap)) from Sp.below_grown HB1.out hG2 (by simp;omega) (fun g hg=>by injection hg with hg;omega))
 have H4:=hid (show Buf ((w.setCell ⟨b,2,none⟩ (.int .i8 0)).setCell ⟨b,0,none⟩ (.slice A (zs.length+0) cap)) B b zs from ⟨hge,_,_,h4,by rw [Sp.bcells_len];exact hown2,HN.out⟩)
 have HK:=hid (((Lib.OthersKept.refl 5 (some b) w).setCell ⟨b,2,none⟩ rfl (.int .i8 0)).setCell ⟨b,0,none⟩ rfl (.slice A (zs.length+0) cap))
 have d0:=h4.c0
 clear h4 hG2 hown2 c0' f0' c2 f2
 clear H3 HO
 generalize (w.setCell ⟨b,2,none⟩ (.int .i8 0)).setCell ⟨b,0,none⟩ (.slice A (zs.length+0) cap)=W at*
 have hcp:=fun (V:World) (d:Option Addr) (dl dc:Nat) (ty:TypeId)=>run_copy_none V d dl dc c ty
 go_wp2_with fail
 all_goals (go_ret2;exact ⟨rfl,H4.out,HB2.out,HK.out⟩)
theorem bufWrite {w:World} {B b:Nat} {zs:List Int} (h:Buf w B b zs) (hB:B≤w.heap.size) {A:Option Addr} {n:Nat} (c:Nat) {news:List Int} (hr:Sp.Rd w w.heap.size A n news) (hA: ∀ a,A=some a→a.block≠b) (hlim:zs.length+n≤140737488355328):
  Calls Tryz.prog 26 #[.pointer (some ⟨b,0,none⟩), .slice A n c] w fun e w'=>e= .returned (.tuple #[.int .i64 n, .nilIface])∧Buf w' B b (zs++news)∧Below B w w'∧Lib.OthersKept 5 (some b) w w':=by
 cases A with
 |none=>
  have hn:n=0:=by
   rcases Nat.eq_zero_or_pos n with h0|h0
   ·exact h0
   ·obtain ⟨b',off,e,_⟩:=hr.2.2 h0
    cases e
  subst hn
  obtain rfl:news= []:=List.eq_nil_of_length_eq_zero hr.1
  rw [List.append_nil]
  exact bufWrite0 h c
 |some a=>
  refine (Tryz.Buffer_Write_at _ _ B b 0 _ (Sp.bcells news) a n c w h hB (Sp.bcells_one _) (by rw [Sp.bcells_len];exact hr.1) (hA a rfl) (fun j v hv=> ?_) (Sp.bcells_one _) (by rw [Sp.bcells_len];exact hlim)).mono ?_
  ·have hj:j<news.length:=by have:=(List.getElem?_eq_some_iff.1 hv).1;rwa [Sp.bcells_len] at this
   obtain ⟨b',off,e,_,hc⟩:=hr.2.2 (by have:=hr.1;omega)
   injection e with e
   subst e
   have hz:=hc j _ (List.getElem?_eq_getElem hj)
   have hv2:v= .int .u8 news[j]:=by
    have:(Sp.bcells news)[j]?=some (.int .u8 news[j]):=by simp [Sp.bcells,List.getElem?_eq_getElem hj]
    rw [this] at hv
    injection hv with hv
    exact hv.symm
   rw [hv2,show (⟨b',off,none⟩:Addr).add j=⟨b',off+j,none⟩ from Addr.add_mid _ _ _]
   exact hz
  ·rintro e w' ⟨rfl,hb,hbel,hok⟩
   refine ⟨rfl, ?_,hbel,hok⟩
   unfold Buf
   rw [Sp.bcells_app]
   exact hb
set_option maxRecDepth 100000 in
set_option maxHeartbeats 1000000 in
theorem bufBytes {w:World} {B b:Nat} {zs:List Int} (h:Buf w B b zs):
  Calls Tryz.prog 19 #[.pointer (some ⟨b,0,none⟩)] w fun e w'=> ∃ v,e= .returned v∧Sp.OwnY w' B v zs∧ ∃ n,w'=w.drewN n:=by
 obtain ⟨hB,lr,hc⟩:=LibA.IsBuffer.cases h
 rcases hc with ⟨hnil,hbk⟩|⟨g,cap,cur,hbk,hBg,hg,hnc,hcm,hcs,htk,hgb⟩
 ·have c0:=hbk.c0
  have c1:w.cell? ⟨b,1,none⟩=_:=hbk.c1
  have mixed:Tryz.prog.follows .mixedOrders=true:=by kernel_rfl
  have hz:zs= []:=by
   cases zs with
   |nil=>rfl
   |cons a l=>cases hnil
  subst hz
  clear hbk h hnil
  go_enter Tryz.func19,Tryz.ntmps19
  go_wp2
  go_region_o
  all_goals (go_wp2;go_ret;exact ⟨_,rfl,World.ownsRow_nil _ _ _ _,1,rfl⟩)
 ·rw [Sp.bcells_len] at*
  have c0:=hbk.c0
  have c1:w.cell? ⟨b,1,none⟩=_:=hbk.c1
  have mixed:Tryz.prog.follows .mixedOrders=true:=by kernel_rfl
  have hcm':=hcm
  unfold maxLen at hcm'
  have HK:=hid (show (Sp.bcells zs).length=zs.length from Sp.bcells_len zs)
  have HT:=hid htk
  clear hbk h htk
  go_enter Tryz.func19,Tryz.ntmps19
  go_wp2
  go_region_o
  all_goals (go_wp2;go_ret;exact ⟨_,rfl,⟨by rw [HK.out];simp, .inr ⟨g,cap,cur,rfl,hBg,hg,hnc,hcm,by simpa using hcs,by simpa using HT.out⟩⟩,1,rfl⟩)
end Go.Proofs.YtgbgngdakkiclaaGreatDoor

namespace Go.Proofs.YtgbgngdakkiclaaGreatDoor
namespace M
def padK (n:Nat):Nat:=(512 - n%512)%512
def pad (l:List Int):List Int:=l++List.replicate (padK l.length) 0
theorem padK_lt (n:Nat):padK n<512:=Nat.mod_lt _ (by decide)
theorem padK_mod (n:Nat):(n+padK n)%512=0:=by unfold padK;omega
theorem pad_len (l:List Int):(pad l).length=l.length+padK l.length:=by unfold pad;rw [List.length_append,List.length_replicate]
theorem pad_u8 {l:List Int} (h: ∀ z∈l,0≤z∧z≤255): ∀ z∈pad l,0≤z∧z≤255:=by
 intro z hz
 rcases List.mem_append.1 hz with h1|h1
 ·exact h z h1
 ·rw [(List.mem_replicate.1 h1).2];decide
end M
end Go.Proofs.YtgbgngdakkiclaaGreatDoor

namespace Go.Proofs.YtgbgngdakkiclaaGreatDoor
open Go.RowKit Go.Lib
open Px (R2 tl)
namespace M
def recI (m:Met):List Int:=(Px.M.printB (toR m)).map fun b=>(b.toNat:Int)
def paxH (n:Int):Hdr:= { name:=⟨#[112,97,120]⟩,mode:=420,size:=n,kind:=120,way:=1 }
def blk (h:Hdr):List Int:=(Hd.M.hprint (hd h)).2
def oneR (m:Met):List Int:=if (toR m).length=0 then [] else blk (paxH (recI m).length)++pad (recI m)
def oneL (m:Met) (d:List Int):List Int:=oneR m++blk (toH m)++pad d
def oneE (m:Met) (d:List Int):Nat:=if toE m≠0 then toE m else if (d.length:Int)≠m.size then 11 else 0
theorem recI_len (m:Met):(recI m).length=(Px.M.printB (toR m)).length:=List.length_map _
theorem recI_u8 (m:Met): ∀ z∈recI m,0≤z∧z≤255:=by
 intro z hz
 obtain ⟨b,_,rfl⟩:=List.mem_map.1 hz
 have:=b.toNat_lt
 omega
theorem recE {m:Met} (hE:toE m=0):Px.M.printE (toR m)=0:=by
 have h:=hE
 unfold toE at h
 split at h
 ·rename_i h1;exact absurd h h1
 ·unfold toR;rw [if_pos hE];exact h
theorem recI_le (m:Met):(recI m).length≤1048576:=by
 rw [recI_len]
 by_cases h:Px.M.printE (toR m)=0
 ·rw [Px.M.printB_0 h]
  unfold Px.M.printE at h
  split at h
  ·cases h
  ·split at h
   ·cases h
   ·omega
 ·rw [Px.M.printB_no h];decide
end M
theorem toH_head {m:M.Met} (hE:M.toE m=0):M.toH m=M.head m:=by unfold M.toH;rw [if_pos hE]
theorem blk_of {h:M.Hdr} (ha:Hd.M.Asked (hd h)):Hd.M.hprint (hd h)=(0,M.blk h):=by
 have he:Hd.M.herr (hd h)=0:=(Hd.M.asked_iff _).2 ha
 unfold M.blk
 rw [←he,←Hd.M.hprint_err]
theorem blk_len {h:M.Hdr} (ha:Hd.M.Asked (hd h)):(M.blk h).length=512:=by
 obtain ⟨s⟩:=Hd.M.steps (blk_of ha)
 exact s.lout
theorem blk_u8 {h:M.Hdr} (ha:Hd.M.Asked (hd h)): ∀ z∈M.blk h,0≤z∧z≤255:=by
 obtain ⟨s⟩:=Hd.M.steps (blk_of ha)
 exact s.bd
theorem asked_toH {m:M.Met} (hE:M.toE m=0):Hd.M.Asked (hd (M.toH m)):=by rw [toH_head hE];exact asked_head hE
theorem asked_pax (n:Int) (h0:0≤n) (h1:n≤2097151):Hd.M.Asked (hd (M.paxH n)):=by
 refine ⟨⟨?_, ?_⟩, ?_, ?_, ?_⟩
 ·show Hd.M.known 120=true
  decide
 ·show ((120:Int) !=83||_)=true
  rfl
 ·intro x hx
  unfold Hd.M.tq at hx
  simp only [List.mem_cons,List.not_mem_nil,or_false] at hx
  rcases hx with rfl|rfl|rfl|rfl|rfl
  ·exact (show Hd.M.tOk 100 (⟨#[112,97,120]⟩:ByteArray)=true from tOk_of (by decide) (by decide))
  ·exact (show Hd.M.tOk 100 (⟨#[]⟩:ByteArray)=true from tOk_of (by decide) (by decide))
  ·exact (show Hd.M.tOk 32 (⟨#[]⟩:ByteArray)=true from tOk_of (by decide) (by decide))
  ·exact (show Hd.M.tOk 32 (⟨#[]⟩:ByteArray)=true from tOk_of (by decide) (by decide))
  ·exact (show Hd.M.tOk 155 (⟨#[]⟩:ByteArray)=true from tOk_of (by decide) (by decide))
 ·have e1:Hd.M.f1 (hd (M.paxH n))=true:=decide_eq_true ⟨show (0:Int)≤1 by decide,show (1:Int)≤2 by decide,show n≤1099511627776 by omega,show (0:Int)≤1099511627776 by decide,show (0:Nat)≤4 by decide⟩
  have e2:Hd.M.f2 (hd (M.paxH n))=true:=decide_eq_true ⟨fun h=>absurd (show (1:Int)=0 from h) (by decide),fun h=>absurd rfl h⟩
  have e4:Hd.M.f4 (hd (M.paxH n))=true:=decide_eq_true (.inr ⟨rfl,rfl,rfl⟩)
  unfold Hd.M.fits
  rw [e1,e2,e4]
  rfl
 ·have en:Hd.M.nq (hd (M.paxH n))= [(420,100,8),(0,108,8),(0,116,8),(n,124,12),(0,136,12),(0,329,8),(0,337,8)]:=rfl
  rw [en]
  intro x hx
  simp only [List.mem_cons,List.not_mem_nil,or_false] at hx
  rcases hx with rfl|rfl|rfl|rfl|rfl|rfl|rfl
  ·exact d_small _ _ (by decide)
  ·exact d_zero _ 8 (.inl rfl)
  ·exact d_zero _ 8 (.inl rfl)
  ·have h2:Hd.M.octFits n ((12:Nat):Int)=true:=by
    unfold Hd.M.octFits
    simp only [Bool.and_eq_true,decide_eq_true_eq]
    refine ⟨⟨⟨⟨by decide,by decide⟩,h0⟩,by unfold Hd.M.most;omega⟩, ?_⟩
    rw [show (8:Int)^((((12:Nat):Int)).toNat - 1)=8589934592 from rfl]
    omega
   unfold Hd.M.dOk
   simp only [Hd.M.putFits,h2,Bool.true_or,Bool.true_and,decide_eq_true h0]
  ·exact d_zero _ 12 (.inr rfl)
  ·exact d_zero _ 8 (.inl rfl)
  ·exact d_zero _ 8 (.inl rfl)
theorem asked_recs (m:M.Met):Hd.M.Asked (hd (M.paxH ((M.recI m).length:Nat))):=asked_pax _ (by omega) (by have:=M.recI_le m;omega)
theorem hin_head {m:M.Met} {W:World} {pv ev:Value} (hI:MIn W m pv ev) (hE:M.toE m=0) (V:World):Hd.HIn V (hd (M.toH m)) (.slice none 0 0):=by
 rw [toH_head hE]
 have R:=M.right_of (M.toE_wrong hE)
 have hroom:=M.split_room m.name
 have dv: ∀ n:Int,(0≤n∧n≤if M.isDev m.kind=true then 2097151 else 0)→ -9223372036854775808≤n∧n≤9223372036854775807:=by
  intro n hn
  split at hn<;>omega
 have fi: ∀ (c:Bool) (n:Int),(-9223372036854775808≤n∧n≤9223372036854775807)→ -9223372036854775808≤(if c=true then n else 0)∧(if c=true then n else 0)≤9223372036854775807:=by
  intro c n hn
  split<;>omega
 have hex: ∀ (s:ByteArray) (k:Nat),(s.extract 0 k).size≤k:=fun s k=>by rw [ByteArray.size_extract];omega
 exact {
  parts:=⟨none,0,rfl,Nat.le_refl _,fun h=>absurd h (Nat.lt_irrefl 0)⟩
  nums:=fun p hp=>nomatch hp
  kind:=⟨by have:=R.kind;show (0:Int)≤m.kind;omega,by have:=R.kind;show m.kind≤255;omega⟩
  ints:=⟨hI.ints.1,fi _ _ hI.ints.2.1,fi _ _ hI.ints.2.2.1,fi _ _ hI.ints.2.2.2.2.2.2.2.1,fi _ _ hI.ints.2.2.2.1,dv _ R.major,dv _ R.minor,by show _≤(0:Int)∧(0:Int)≤_;decide⟩
  texts:=⟨Nat.le_trans hroom.2 (by decide),Nat.le_trans (hex _ 100) (by decide),Nat.le_trans (hex _ 32) (by decide),Nat.le_trans (hex _ 32) (by decide),Nat.le_trans hroom.1 (by decide)⟩ }
theorem hin_pax (n:Int) (h0:0≤n) (h1:n≤2097151) (W:World):Hd.HIn W (hd (M.paxH n)) (.slice none 0 0):= {
  parts:=⟨none,0,rfl,Nat.le_refl _,fun h=>absurd h (Nat.lt_irrefl 0)⟩
  nums:=fun p hp=>nomatch hp
  kind:=⟨by show (0:Int)≤120;decide,by show (120:Int)≤255;decide⟩
  ints:=⟨by show _≤(420:Int)∧(420:Int)≤_;decide,by show _≤(0:Int)∧(0:Int)≤_;decide,by show _≤(0:Int)∧(0:Int)≤_;decide,by show _≤n∧n≤_;omega,by show _≤(0:Int)∧(0:Int)≤_;decide,by show _≤(0:Int)∧(0:Int)≤_;decide,by show _≤(0:Int)∧(0:Int)≤_;decide,by show _≤(0:Int)∧(0:Int)≤_;decide⟩
  texts:=⟨by show (3:Nat)≤100000;decide,by show (0:Nat)≤100000;decide,by show (0:Nat)≤100000;decide,by show (0:Nat)≤100000;decide,by show (0:Nat)≤100000;decide⟩ }
namespace M
theorem oneR_len {m:Met} :(oneR m).length=if (toR m).length=0 then 0 else 512+((recI m).length+padK (recI m).length):=by
 unfold oneR
 split
 ·rfl
 ·rw [List.length_append,blk_len (asked_recs m),pad_len]
theorem oneL_len {m:Met} (hE:toE m=0) (d:List Int):(oneL m d).length=(oneR m).length+512+(d.length+padK d.length):=by
 unfold oneL
 rw [List.length_append,List.length_append,blk_len (asked_toH hE),pad_len]
theorem oneL_0 {m:Met} (h:(toR m).length=0) (zs d:List Int):zs++oneL m d=(zs++blk (toH m))++pad d:=by
 unfold oneL oneR
 rw [if_pos h,List.nil_append,List.append_assoc]
theorem oneL_1 {m:Met} (h: ¬ (toR m).length=0) (zs d:List Int):zs++oneL m d=((zs++(blk (paxH (recI m).length)++pad (recI m)))++blk (toH m))++pad d:=by
 unfold oneL oneR
 rw [if_neg h]
 simp only [List.append_assoc]
theorem oneL_mod {m:Met} (hE:toE m=0) (d:List Int):(oneL m d).length%512=0:=by
 have h1:=padK_mod d.length
 have h2:=padK_mod (recI m).length
 rw [oneL_len hE,oneR_len]
 split<;>omega
theorem oneL_u8 {m:Met} (hE:toE m=0) {d:List Int} (hd': ∀ z∈d,0≤z∧z≤255): ∀ z∈oneL m d,0≤z∧z≤255:=by
 intro z hz
 unfold oneL at hz
 rcases List.mem_append.1 hz with h1|h1
 ·rcases List.mem_append.1 h1 with h2|h2
  ·unfold oneR at h2
   split at h2
   ·cases h2
   ·rcases List.mem_append.1 h2 with h3|h3
    ·exact blk_u8 (asked_recs m) z h3
    ·exact pad_u8 (recI_u8 m) z h3
  ·exact blk_u8 (asked_toH hE) z h2
 ·exact pad_u8 hd' z h1
end M
end Go.Proofs.YtgbgngdakkiclaaGreatDoor

namespace Go.Proofs.YtgbgngdakkiclaaGreatDoor
open Go.RowKit Go.Lib
theorem wr_zeros (n:Nat):madeCells #[Value.int .u8 0] n=(Sp.bcells (List.replicate n 0)).toArray:=by
 apply Array.ext
 ·simp [madeCells,Sp.bcells]
 ·intro i h1 h2
  simp [madeCells,Sp.bcells,Nat.mod_one]
theorem wr_make (n:Nat) (hn:n≤1000000000) (w:World):(Instr.makeSlice 22 (.int .i64 (n:Int)) (.int .i64 (n:Int))).run Tryz.prog w= .ok (.slice (some ⟨w.heap.size,0,none⟩) n n) (w.alloc (.cells (Sp.bcells (List.replicate n 0)).toArray 5)):=by
 have h:=run_make_row' (P:=Tryz.prog) 22 5 (.int .u8 0) 1 Tryz.underlying22 Sp.u8_parts rfl .i64 .i64 n (by omega) (by omega) w
 rw [wr_zeros] at h
 exact h
theorem wr_rd (w:World) (n:Nat):Sp.Rd (w.alloc (.cells (Sp.bcells (List.replicate n 0)).toArray 5)) (w.alloc (.cells (Sp.bcells (List.replicate n 0)).toArray 5)).heap.size (some ⟨w.heap.size,0,none⟩) n (List.replicate n 0):=
 ⟨List.length_replicate,fun z hz=>by rw [(List.mem_replicate.1 hz).2];decide,fun _=>⟨w.heap.size,0,rfl,by rw [World.size_alloc];omega,fun j z hz=>by
  rw [cell_of_row _ _ _ _ _ _ (heap_alloc_new w _),Nat.zero_add]
  rw [List.getElem?_replicate] at hz
  split at hz
  ·rename_i hj
   injection hz with hz
   subst hz
   simp [Sp.bcells,hj]
  ·cases hz⟩⟩
set_option maxRecDepth 100000 in
set_option maxHeartbeats 2000000 in
theorem archPadded {w:World} {B b:Nat} {zs:List Int} (h:Buf w B b zs) (hB:B≤w.heap.size) {A:Option Addr} {n:Nat} (c:Nat) {news:List Int} (hr:Sp.Rd w w.heap.size A n news) (hA: ∀ a,A=some a→a.block≠b) (hm:zs.length%512=0) (hl:zs.length+n≤100000000000):
  Calls Tryz.prog 36 #[.pointer (some ⟨b,0,none⟩), .slice A n c] w fun e w'=>e= .returned (.tuple #[])∧Buf w' B b (zs++M.pad news)∧Below B w w'∧Lib.OthersKept 5 (some b) w w':=by
 have hn:=hr.len
 have hlt:=h.lt
 have hge:=h.ge
 have H1:=hid (bufWrite h hB c hr hA (by omega))
 obtain ⟨k,hk⟩: ∃ k,k=n%512:=⟨_,rfl⟩
 have hk5:k<512:=by omega
 have hpk:M.padK news.length=(512 - k)%512:=by unfold M.padK;rw [hn,hk]
 have hrem:(((zs++news).length:Nat):Int).tmod 512=(k:Int):=by
  rw [Int.tmod_eq_emod_of_nonneg (by omega),List.length_append,hn];omega
 have hlen:(zs++news).length≤100000000000:=by rw [List.length_append,hn];exact hl
 have HR:=hid hrem
 have HPK:=hid hpk
 have HL:=hid hlen
 have HN:=hid hn
 clear h hr hA hrem hpk hk hlen hn hm
 go_enter Tryz.func36,Tryz.ntmps36
 go_wp2_with fail
 refine H1.out.mono ?_
 rintro e w2 ⟨rfl,hb2,hbel2,hok2⟩
 have H2:=hid hb2
 have HO2:=hid hok2
 have HB2:=hid hbel2
 have hsz2:=hbel2.size
 clear hb2 hbel2 H1 hok2
 go_wp2_with fail
 refine (bufLen H2.out).mono ?_
 rintro e w3 ⟨rfl,n3,rfl⟩
 have H3:=hid (show Buf (w2.drewN n3) B b (zs++news) from H2.out)
 have HB3:=hid (show Below B w (w2.drewN n3) from Px.below_drewN' HB2.out n3)
 have hsz3:w.heap.size≤(w2.drewN n3).heap.size:=hsz2
 have HO3:=hid (Lib.OthersKept.drewN HO2.out n3)
 clear H2 HB2 hsz2 HO2
 generalize w2.drewN n3=w3 at*
 have h0:=HR.out
 obtain ⟨L,hL⟩: ∃ L,(zs++news).length=L:=⟨_,rfl⟩
 rw [hL] at h0⊢
 clear hL HR
 by_cases hk0:k=0
 ·subst hk0
  rw [show ((0:Nat):Int)=0 from rfl] at h0
  go_wp2_with fail
  refine bodyPost_end (results_none rfl _ _ _) rfl ?_
  refine ⟨rfl, ?_,HB3.out,HO3.out⟩
  unfold M.pad
  rw [HPK.out,show (512 - 0)%512=0 from rfl,List.replicate_zero,List.append_nil]
  exact H3.out
 ·have hpos:0<k:=by omega
  clear hk0
  go_upto_region 3 with fail
  obtain ⟨m,hm⟩: ∃ m,m=512 - k:=⟨_,rfl⟩
  have hmw:IntKind.i64.wrap (512 - (k:Int))=(m:Int):=by
   rw [hm];unfold IntKind.wrap;simp [IntKind.bits,IntKind.signed];omega
  have hpm:M.pad news=news++List.replicate m 0:=by
   unfold M.pad
   rw [HPK.out,hm,Nat.mod_eq_of_lt (by omega)]
  have HPM:=hid hpm
  have hm6:m≤512:=by omega
  clear hpm HPK hm hpos hk5 h0
  refine wp_region_held_drew (S:=fun V=>Below B w V) (by kernel_rfl) (Px.below_drew' HB3.out) (fun hS=> ?_)
  refine tkH 0 hS ?_
  refine tkH 1 hS ?_
  refine tkH 2 hS ?_
  refine tkH 3 hS ?_
  refine tkH 4 hS ?_
  refine loneH (i:=5) 22 rfl rfl (by kernel_rfl) (by rfl) (fun K hK=> ?_)
  have hmk:=wr_make m (by omega) w3.drew
  go_simp
  have hS5:Below w3.heap.size w3 (w3.alloc (.cells (Sp.bcells (List.replicate m 0)).toArray 5)).drew:=(Px.below_drew' (Below.refl _ w3)).alloc (Nat.le_refl _) _
  have hT5:=HB3.out.trans (hS5.mono (Nat.le_trans hB hsz3))
  have H5:=hid (H3.out.later hS5)
  have R5:=hid (show Sp.Rd (w3.alloc (.cells (Sp.bcells (List.replicate m 0)).toArray 5)).drew (w3.alloc (.cells (Sp.bcells (List.replicate m 0)).toArray 5)).drew.heap.size (some ⟨w3.heap.size,0,none⟩) m (List.replicate m 0) from wr_rd w3 m)
  refine hK.out _ _ hT5 (fun hS=> ?_)
  clear hK K hmk
  try simp only [NM]
  have hg:w3.heap.size≠b:=by have:=H3.out.lt;omega
  have HO5:=hid (show Lib.OthersKept 5 (some b) w (w3.alloc (.cells (Sp.bcells (List.replicate m 0)).toArray 5)).drew from Lib.OthersKept.alloc HO3.out _)
  generalize World.drew (World.alloc w3 _)=w5 at*
  refine loneH (i:=6) 23 rfl rfl (by kernel_rfl) (by rfl) (fun K hK=> ?_)
  go_simp
  refine (bufWrite H5.out (Nat.le_trans hB (Nat.le_trans hsz3 hS5.size)) m R5.out (fun a ha=>by injection ha with ha;subst ha;exact hg) (by have:=HL.out;omega)).mono ?_
  rintro e w6 ⟨rfl,hb6,hbel6,hok6⟩
  have H6:=hid hb6
  have HO6:=hid (HO5.out.trans hok6)
  refine hK.out _ _ (hS.trans hbel6) (fun hS=> ?_)
  clear hK K hb6 hbel6 hok6
  try simp only [NM]
  refine wpAnyH_done (by kernel_rfl) ?_ _
  go_wp2_with fail
  refine bodyPost_end (results_none rfl _ _ _) rfl ⟨rfl, ?_,hS,HO6.out⟩
  rw [HPM.out,←List.append_assoc]
  exact H6.out
end Go.Proofs.YtgbgngdakkiclaaGreatDoor
