/-
  Texts of one chapter, merged.
-/
import Derived.Test.YtgbgngdakkiclaaGreatDoorWrXZ
import Derived.Test.YtgbgngdakkiclaaGreatDoorMtKnownZ
import Derived.Test.YtgbgngdakkiclaaGreatDoorKS
import Derived.Test.YtgbgngdakkiclaaGreatDoorWrYZ
import Derived.Laws.Cover1
import Derived.Test.YtgbgngdakkiclaaGreatDoorMtRefTo
import Derived.Test.YtgbgngdakkiclaaGreatDoorKhF3
import Derived.Lib.SlBytesConst
import Derived.Test.YtgbgngdakkiclaaGreatDoorMtLawM
import Derived.Test.YtgbgngdakkiclaaGreatDoorMtRefZ
import Derived.Test.YtgbgngdakkiclaaGreatDoorStepZ
import Derived.Lib.MinMax
import Derived.Test.YtgbgngdakkiclaaGreatDoorRows
import Derived.WalkKit
import Derived.ProofKit
import Derived.OpenShut
import Derived.ShutString
import Derived.ChangeOld
import Derived.ChangeSame
import Derived.LaidMore
import Derived.Lib.LaidTab
import Derived.MakeChecks
import Derived.Stop.LaidErr
import Derived.Test.YtgbgngdakkiclaaGreatDoorKhF0
set_option linter.unusedVariables false
set_option linter.unusedSimpArgs false
/-! WrEx -/
set_option linter.unusedVariables false
namespace Go.Proofs.YtgbgngdakkiclaaGreatDoor
open Go.RowKit Go.Lib
namespace M
def exW:Met:= { name:=⟨#[97]⟩,kind:=48,size:=1,real:=1 }
set_option maxRecDepth 100000 in
theorem exw_toE:toE exW=0:=by kernel_rfl
theorem exw_E:oneE exW [120]=0:=by
 unfold oneE
 rw [exw_toE]
 rfl
def exL:List Int:=oneL exW [120]++List.replicate 1024 0
set_option maxRecDepth 100000 in
theorem exL_len:exL.length=2048:=by kernel_rfl
set_option maxRecDepth 100000 in
theorem exL_0:exL[0]?=some 97:=by kernel_rfl
set_option maxRecDepth 100000 in
theorem exL_512:exL[512]?=some 120:=by kernel_rfl
end M
theorem exw_fit:Fit1 M.exW where
 kind:=by decide
 name:=by decide
 link:=by decide
 user:=by decide
 group:=by decide
 mode:=isI64_0
 uid:=isI64_0
 gid:=isI64_0
 sec:=isI64_0
 nan:=isI64_0
 major:=isI64_0
 minor:=isI64_0
 sz:=isI64_le (k:=1) (by decide) (by decide)
 real:=isI64_le (k:=1) (by decide) (by decide)
def exMb (A:Option Addr):Mb:=⟨M.exW, .slice none 0 0, .slice none 0 0, .slice A 1 1, [120]⟩
theorem exMb_in {w:World} {g:Nat} {fz:Nat × Nat} (h:w.heap[g]?=some (.cells #[.int .u8 120] 5 fz)):MbIn w w.heap.size (exMb (some ⟨g,0,none⟩)):=by
 have hg:g<w.heap.size:=(Array.getElem?_eq_some_iff.1 h).1
 refine ⟨min_plain exw_fit rfl rfl,⟨some ⟨g,0,none⟩,1,rfl,⟨rfl, ?_,fun _=>⟨g,0,rfl,hg, ?_⟩⟩, ?_⟩,show 1≤1048576 by decide⟩
 ·intro z hz
  rw [List.mem_singleton.1 hz];decide
 ·intro j z hz
  rw [cell_of_row w g _ _ _ _ h]
  have hz':([120]:List Int)[j]?=some z:=hz
  cases j with
  |zero=>simp at hz';subst hz';rfl
  |succ j=>simp at hz'
 ·intro a ha
  injection ha with ha
  subst ha
  exact hg
theorem rdM_one {w:World} {g:Nat} {x:Mb} (h:w.heap[g]?=some (.cells x.cells 37 (0,0))):RdM w w.heap.size (some ⟨g,0,none⟩) [x]:=fun _=>by
 refine ⟨g,0,rfl,(Array.getElem?_eq_some_iff.1 h).1,fun j y hy i v hv=> ?_⟩
 cases j with
 |zero=>
  simp at hy;subst hy
  rw [cell_of_row w g _ _ _ _ h]
  simpa using hv
 |succ j=>simp at hy
theorem exMb_E (A:Option Addr):M.writeE [exMb A]=0:=M.writeE_all (xs:= [exMb A]) (fun x hx=>by rw [List.mem_singleton.1 hx];exact M.exw_E)
theorem exMb_L (A:Option Addr):M.writeL [exMb A]=M.exL:=by
 unfold M.writeL
 rw [M.cat_one];rfl
end Go.Proofs.YtgbgngdakkiclaaGreatDoor

/-! WrSafe -/
namespace Go.Proofs.YtgbgngdakkiclaaGreatDoor
open Go.RowKit Go.Lib
open Px (R2 tl)
structure Safe (x:Mb) (g:Nat):Prop where
 p:0<x.m.parts.length→ ∀ a n c,x.pv= .slice (some a) n c→a.block≠g
 e:0<x.m.extra.length→ ∀ a n c,x.ev= .slice (some a) n c→a.block≠g
 d:0<x.d.length→ ∀ a n c,x.dv= .slice (some a) n c→a.block≠g
theorem Safe.fresh {w:World} {B g:Nat} {x:Mb} (h:MbIn w B x) (hB:B≤w.heap.size) (hg:w.heap.size≤g):Safe x g:=by
 refine ⟨fun hn a n c hv e=> ?_,fun hn a n c hv e=> ?_,fun hn a n c hv e=> ?_⟩
 ·obtain ⟨A,c',e1,hr⟩:=h.met.parts
  obtain ⟨b,off,ea,hb,_⟩:=hr.2 hn
  rw [e1,ea] at hv
  injection hv with hv
  injection hv with hv
  rw [←hv] at e
  have e':b=g:=e
  omega
 ·obtain ⟨A,c',e1,hr⟩:=h.met.extra
  obtain ⟨b,off,ea,hb,_⟩:=hr hn
  rw [e1,ea] at hv
  injection hv with hv
  injection hv with hv
  rw [←hv] at e
  have e':b=g:=e
  omega
 ·obtain ⟨A,c',e1,hr,_⟩:=h.data
  obtain ⟨b,off,ea,hb,_⟩:=hr.2.2 hn
  rw [e1,ea] at hv
  injection hv with hv
  injection hv with hv
  rw [←hv] at e
  have e':b=g:=e
  omega
theorem MbIn.grown {w w':World} {B g:Nat} {x:Mb} (h:MbIn w B x) (hs:Safe x g) (hg:w.grownBy w' (some g)):MbIn w' B x:=by
 obtain ⟨⟨⟨A,c,e1,hr⟩,⟨A2,c2,e2,hr2⟩,h5,h6,h7,h8,h9,h10,h11⟩,⟨A3,c3,e3,hr3,hlo⟩,hf⟩:=h
 have hsz:=hg.size
 refine ⟨⟨⟨A,c,e1,hr.1,fun hn=> ?_⟩,⟨A2,c2,e2,fun hn=> ?_⟩,h5,h6,h7,h8,h9,h10,h11⟩,⟨A3,c3,e3,⟨hr3.1,hr3.2.1,fun hn=> ?_⟩,hlo⟩,hf⟩
 ·obtain ⟨b,off,ea,hb,hc⟩:=hr.2 hn
  have hne:b≠g:=hs.p hn ⟨b,off,none⟩ _ _ (by rw [e1,ea])
  exact ⟨b,off,ea,Nat.lt_of_lt_of_le hb hsz,fun j p hp=>⟨hg.cell (hc j p hp).1 (fun e=>hne (Option.some.inj e)),hg.cell (hc j p hp).2 (fun e=>hne (Option.some.inj e))⟩⟩
 ·obtain ⟨b,off,ea,hb,hc⟩:=hr2 hn
  have hne:b≠g:=hs.e hn ⟨b,off,none⟩ _ _ (by rw [e2,ea])
  exact ⟨b,off,ea,Nat.lt_of_lt_of_le hb hsz,fun j p hp=>⟨hg.cell (hc j p hp).1 (fun e=>hne (Option.some.inj e)),hg.cell (hc j p hp).2 (fun e=>hne (Option.some.inj e))⟩⟩
 ·obtain ⟨b,off,ea,hb,hc⟩:=hr3.2.2 hn
  have hne:b≠g:=hs.d hn ⟨b,off,none⟩ _ _ (by rw [e3,ea])
  exact ⟨b,off,ea,hb,fun j z hz=>hg.cell (hc j z hz) (fun e=>hne (Option.some.inj e))⟩
def OwnM (w:World) (base:Nat) (v:Value) (xs:List Mb):Prop:=w.ownsRow base 37 18 v xs.length (mbCells xs)
theorem OwnM.nil (w:World) (base:Nat):OwnM w base (.slice none 0 0) []:=World.ownsRow_nil _ _ _ _
theorem OwnM.later {w w':World} {b:Nat} {v:Value} {l:List Mb} (h:OwnM w b v l) (hb:Below w.heap.size w w'):OwnM w' b v l:=by
 cases hv:v.ownBlock with
 |none=>exact World.ownsRow.kept h (Sp.grown_of_below hb none) (.inl hv)
 |some g=>exact World.ownsRow.kept h (Sp.grown_of_below hb none) (.inr (by rw [hv];simp))
theorem OwnM.form {w:World} {b:Nat} {v:Value} {l:List Mb} (h:OwnM w b v l): ∃ A c,v= .slice A l.length c∧l.length≤c:=by
 rcases h.2 with ⟨hv,h0⟩|⟨g,cap,cur,hv,_,_,hnc,_⟩
 ·exact ⟨none,0,by rw [hv,h0],by rw [h0];exact Nat.le_refl _⟩
 ·exact ⟨_,cap,hv,hnc⟩
theorem OwnM.rd {w:World} {b n c:Nat} {A:Option Addr} {l:List Mb} (h:OwnM w b (.slice A n c) l):RdM w w.heap.size A l:=fun hn=>by
 rcases h.2 with ⟨_,h0⟩|⟨g,cap,cur,hv,hb,hg,hnc,hcm,hcs,htk⟩
 ·omega
 ·injection hv with hA
  refine ⟨g,0,hA,(Array.getElem?_eq_some_iff.1 hg).1,fun j x hx i v hv=> ?_⟩
  have h1:=mbCells_at hx i v hv
  rw [cell_of_row w g _ _ _ _ hg]
  have h2:(cur.toList.take (l.length*18))[j*18+i]?=some v:=by rw [htk];exact h1
  have hlt:j*18+i<l.length*18:=by have:=(List.getElem?_eq_some_iff.1 h1).1;rwa [mbCells_len] at this
  rw [List.getElem?_take_of_lt hlt] at h2
  simpa using h2
theorem mem_info: ∃ i z,Tryz.prog.info? 37=some i∧i.zero=some z∧i.size=18∧z.cells.size=18∧i.bytes≤1000:=by
 have h:(Tryz.prog.info? 37).map (fun i=>(i.size==18&&(i.zero.map (·.cells.size)==some 18)&&decide (i.bytes≤1000)))=some true:=by kernel_rfl
 cases hq:Tryz.prog.info? 37 with
 |none=>rw [hq] at h;cases h
 |some i=>
  rw [hq] at h
  simp only [Option.map_some,Option.some.injEq,Bool.and_eq_true,beq_iff_eq,decide_eq_true_eq] at h
  cases hz:i.zero with
  |none=>rw [hz] at h;cases h.1.2
  |some z=>
   rw [hz] at h
   simp only [Option.map_some,Option.some.injEq] at h
   exact ⟨i,z,rfl,hz,h.1.1,h.1.2,h.2⟩
theorem mbCells_one (x:Mb):mbCells [x]=x.cells.toList:=by simp [mbCells]
theorem wp_appM {W:World} {o:Oper} {a:Act} {K:Act→World→Prop} {Q:Exit→Act→World→Prop} (s y:Operand)
  (ho:o.op= .call { callee:= .builtin .append,args:= #[s,y],argTypes:= #[23,23] }) (base:Nat) (v:Value) (xs:List Mb) (x:Mb) (g:Nat) (hs:a.eval s=v) (hown:OwnM W base v xs)
  (hy:a.eval y= .slice (some ⟨g,0,none⟩) 1 1) (hg:W.heap[g]?=some (.cells x.cells 37 (0,0))) (h1:x.cells.all (·.oneCell')=true) (hl:xs.length≤1000) (hbase:base≤W.heap.size)
  (h: ∀ v' w',OwnM w' base v' (xs++ [x])→W.grownBy w' v.ownBlock→(v'.ownBlock=v.ownBlock∨v'.ownBlock=some W.heap.size)→K (a.put o.dst v') w'):o.wp Tryz.prog a W K Q:=by
 obtain ⟨i,z,hi,hz,hz1,hz2,hb⟩:=mem_info
 refine Sp.wp_append_any W s y 23 ho base 37 i z 18 i.bytes Tryz.underlying23 hi hz hz1 rfl hz2 (by decide) v xs.length (mbCells xs) hs hown W.heap.size (some ⟨g,0,none⟩) 1 1 (mbCells [x]) hy ⟨by rw [mbCells_len];rfl,fun _=>⟨_,rfl,(Array.getElem?_eq_some_iff.1 hg).1,fun j u hu=> ?_⟩⟩ ?_ (by unfold maxLen;omega) (by have:(xs.length+1)*i.bytes≤1001*1000:=Nat.mul_le_mul (by omega) hb;omega) hbase ?_
 ·rw [Addr.add_mid,Nat.zero_add,cell_of_row W g _ _ _ _ hg]
  rw [mbCells_one] at hu
  simpa using hu
 ·intro u hu
  rw [mbCells_one] at hu
  exact Array.all_eq_true_iff_forall_mem.1 h1 u (by simpa using hu)
 ·intro v' w' h2 h3 h4
  refine h v' w' ?_ h3 h4
  unfold OwnM
  rw [List.length_append,mbCells_app]
  exact h2
end Go.Proofs.YtgbgngdakkiclaaGreatDoor

/-! WrRefPad -/
namespace Go.Proofs.YtgbgngdakkiclaaGreatDoor
open Go.RowKit Go.Lib
def vlen:Value→Nat
 | .slice _ l _=>l
 |_=>0
theorem padK_up {n:Nat} (h:n≤1048576):n+M.padK n≤1048576:=by unfold M.padK;omega
theorem padK_test {n j:Nat} (hj:j≤M.padK n):((n+j)%512=0)↔j=M.padK n:=by
 unfold M.padK at*
 constructor
 ·intro h;omega
 ·intro h;omega
set_option maxRecDepth 100000 in
set_option maxHeartbeats 1000000 in
theorem refPadded {A:Option Addr} {n:Nat} (c:Nat) {zs:List Int} (w:World) (hr:Sp.Rd w w.heap.size A n zs) (hn:n≤1048576):
  Calls Tryz.prog 28 #[.slice A n c] w fun e w'=> ∃ v,e= .returned v∧Sp.OwnY w' w.heap.size v (M.pad zs)∧Below w.heap.size w w':=by
 have hl:=hr.len
 have HR:=hid hr
 obtain ⟨P,hP⟩: ∃ P,M.padK n=P:=⟨_,rfl⟩
 have hup:n+P≤1048576:=by rw [←hP];exact padK_up hn
 have HT:=hid (fun j (hj:j≤P)=>show ((n+j)%512=0)↔j=P by rw [←hP] at hj⊢;exact padK_test hj)
 have HPD:=hid (show M.pad zs=zs++List.replicate P 0 by unfold M.pad;rw [hl,hP])
 have HLN:=hid hl
 clear hr hP hl
 go_enter Tryz.func28,Tryz.ntmps28
 go_wp2_with (refine Sp.wpList_app_bytes rfl (.tmp 4) (.tmp 5) rfl w.heap.size _ [] (by simp [Act.eval]) (Sp.OwnY.nil _ _) w.heap.size A n c zs (by simp [Act.eval]) HR.out (by have:=HLN.out;simp;omega) (Nat.le_refl _) ?_;intro v0 w0 h0 hg0 _)
 rw [List.nil_append] at h0
 have HB0:=hid (Sp.below_grown (Below.refl w.heap.size w) hg0 (Nat.le_refl _) (fun g hg=>by simp [Value.ownBlock] at hg))
 obtain ⟨A0,c0,rfl,_,_⟩:=Sp.own_room h0
 have H0:=hid h0
 clear h0 hg0
 go_wp2_with fail
 go_loopw [3] (fun v wr=> ∃ j c1 A1,j≤P∧v= .slice A1 (n+j) c1∧Hid (Sp.OwnY wr w.heap.size (.slice A1 (n+j) c1) (zs++List.replicate j 0))∧Hid (Below w.heap.size w wr)) (fun v _=>n+P - vlen v)
 case atStart=>exact ⟨0,c0,A0,Nat.zero_le _,by rw [HLN.out];rfl,by rw [List.replicate_zero,List.append_nil,Nat.add_zero,←HLN.out];exact H0,HB0⟩
 case round=>
  obtain ⟨j,c1,A1,hj,rfl,HO,HB⟩:=hrel
  have ht:=HT.out j hj
  have hrem:((n+j:Nat):Int).tmod 512=(((n+j)%512:Nat):Int):=by rw [Int.tmod_eq_emod_of_nonneg (by omega)];rfl
  by_cases hjP:j=P
  ·have h0:=ht.2 hjP
   rw [h0] at hrem
   rw [show ((0:Nat):Int)=0 from rfl] at hrem
   have hb:(((n:Int)+(j:Int))%512 !=0)=false:=by rw [bne_eq_false_iff_eq];omega
   subst hjP
   clear ht h0
   go_wp2_with fail
   go_ret
   refine ⟨_,rfl, ?_,HB.out⟩
   rw [HPD.out]
   exact HO.out
  ·have hne: ¬ (n+j)%512=0:=fun h=>hjP (ht.1 h)
   obtain ⟨r,hr⟩: ∃ r,(n+j)%512=r:=⟨_,rfl⟩
   rw [hr] at hrem hne
   have hb:(((n:Int)+(j:Int))%512 !=0)=true:=by rw [bne_iff_ne];omega
   have hbs:=HB.out.size
   clear ht hr
   go_wp2_with (refine Sp.wpList_appY1 rfl (.tmp 11) (.tmp 12) rfl w.heap.size _ (zs++List.replicate j 0) 0 (by simp [Act.eval]) HO.out hbs (by decide) (by simp [Act.eval]) (by rw [List.length_append,List.length_replicate,HLN.out];omega) ?_;intro v2 w2 ho2 hb2 hg2;refine Hid.out ?_)
   refine Lib.hid ?_
   obtain ⟨A2,c2,hv2,_,_⟩:=Sp.own_room ho2.out
   subst hv2
   have hlen:(zs++List.replicate j (0:Int)).length+1=n+(j+1):=by rw [List.length_append,List.length_replicate,HLN.out];omega
   have ho3:Sp.OwnY w2 w.heap.size (.slice A2 (n+(j+1)) c2) (zs++List.replicate (j+1) 0):=by
    have h:=ho2.out
    rw [List.length_append,List.length_singleton,hlen] at h
    rw [List.replicate_succ',←List.append_assoc]
    exact h
   have HO3:=hid ho3
   have HB3:=hid (HB.out.trans hb2.out)
   rw [List.length_append,List.length_singleton,hlen]
   clear ho2 hb2 hg2 ho3 HO HB
   go_wp2_with fail
   go_roundw
   case rel=>exact ⟨j+1,c2,A2,by omega,rfl,HO3,HB3⟩
   case measure=>simp only [vlen];omega
end Go.Proofs.YtgbgngdakkiclaaGreatDoor

/-! WrRef -/
namespace Go.Proofs.YtgbgngdakkiclaaGreatDoor
open Go.RowKit Go.Lib
open Px (R2 tl)
theorem refHdr (x:M.Hdr) (ha:Hd.M.Asked (hd x)) (hi: ∀ W,Hd.HIn W (hd x) (.slice none 0 0)) (hp:(hd x).parts= []) (hw:0≤(hd x).way∧(hd x).way≤2) (w:World):
  Calls Tryz.prog 27 #[.agg (hcells x (.slice none 0 0))] w fun e w'=> ∃ g,e= .returned (.tuple #[.slice (some ⟨g,0,none⟩) 512 512, .int .i64 0])∧Sp.Rd w' w'.heap.size (some ⟨g,0,none⟩) 512 (M.blk x)∧Below w.heap.size w w':=by
 have hl:(hd x).parts.length=0:=by rw [hp];rfl
 have h:=Hd.refPrintX_any (hd x) none 0 w (by rw [hl];exact hi w) (by rw [hl];decide) hw
 rw [hl] at h
 refine h.mono ?_
 rintro e w' ⟨h1,hb⟩
 rw [Hd.M.dprint_of (blk_of ha)] at h1
 obtain ⟨g,rfl,_,hx⟩:=h1
 exact ⟨g,rfl,rd_arr hx.arr hx.len hx.bd,hb⟩
theorem own_apart {w w':World} {b b':Nat} {v v':Value} {l l':List Int} (h:Sp.OwnY w b v l) (h':Sp.OwnY w' b' v' l') (hs:w'.heap.size≤b):v.ownBlock=none∨v.ownBlock≠v'.ownBlock:=by
 cases e:v.ownBlock with
 |none=>exact .inl rfl
 |some g=>
  right
  intro e2
  have h1:=(h.lt e).1
  have h2:=(h'.lt e2.symm).2
  omega
theorem toH_way (m:M.Met):0≤(hd (M.toH m)).way∧(hd (M.toH m)).way≤2:=by
 unfold M.toH
 split
 ·show (0:Int)≤1∧(1:Int)≤2
  decide
 ·show (0:Int)≤0∧(0:Int)≤2
  decide
theorem hd_parts (m:M.Met):(hd (M.toH m)).parts= []:=toH_parts m
set_option maxRecDepth 100000 in
set_option maxHeartbeats 4000000 in
theorem refOne_any (x:Mb) (w:World) (hx:MbIn w w.heap.size x) (BE:Nat) (hBE:BE≤w.heap.size) (hev:Sp.EV BE w):
  Calls Tryz.prog 15 #[.agg x.cells] w (OneIs .i64 x w):=by
 have hbw:=(Below.refl w.heap.size w).alloc (Nat.le_refl _) (.cells x.cells 37)
 have HX:=hid (MX.new w x)
 have HW:=hid hbw
 have HI:=hid (hx.later (Nat.le_refl _) hbw)
 have HE1:=hid (hev.on (hbw.mono hBE))
 have hsz:w.heap.size<(w.alloc (.cells x.cells 37)).heap.size:=by rw [World.size_alloc];omega
 clear hx hev hbw
 go_enter Tryz.func15,Tryz.ntmps15
 go_upto_region 1 with fail
 generalize World.alloc w _=W at*
 have hmm:(Tryz.prog.info? 35).map (·.size)=some (mcells x.m x.pv x.ev).toList.length:=met_size
 go_wp2_with (refine wpList_load_mid rfl 35 (.tmp 16) rfl w.heap.size 0 (by rfl) (mcells x.m x.pv x.ev).toList _ HX.out.range Tryz.underlying35 rfl hmm ?_;rw [Array.toArray_toList])
 refine (to10_any x.m x.pv x.ev BE W HI.out.met (Nat.le_trans hBE HW.out.size) HE1.out).mono ?_
 rintro e w2 ⟨A,c,rfl,hrd,hb2⟩
 have HF:=hid (fin_to (w:=w2) HI.out.met.fits hrd)
 have HRD:=hid hrd
 have hb3:=(Below.refl w2.heap.size w2).alloc (Nat.le_refl _) (.cells (hcells (M.toH x.m) (.slice none 0 0)) 39)
 have hb13:=hb2.trans (hb3.mono hb2.size)
 have HX3:=hid (HX.out.below hb13 hsz)
 have HH3:=hid (HB.new w2 (M.toH x.m) (.slice none 0 0))
 have HW3:=hid (HW.out.trans (hb13.mono HW.out.size))
 have HI3:=hid (HI.out.later HW.out.size hb13)
 have HE3:=hid (HE1.out.on (hb13.mono (Nat.le_trans hBE HW.out.size)))
 have HR3:=hid ((HRD.out.below hb3).more hb3.size)
 have hsz2:W.heap.size≤w2.heap.size:=hb2.size
 have hsz3:w2.heap.size<(w2.alloc (.cells (hcells (M.toH x.m) (.slice none 0 0)) 39)).heap.size:=by rw [World.size_alloc];omega
 clear hrd hb2 hb3 hb13 HX HW HI HE1 HRD
 go_upto_region 2 with (refine wpList_store_row rfl 39 (.tmp 4) (.tmp 19) rfl w2.heap.size (hcells (M.toH x.m) (.slice none 0 0)) (by rfl) (by rfl) 39 (hcells {} (.slice none 0 0)) (heap_alloc_new w2 _) hdr_size rfl (hcells_one _ rfl) ?_;rw [World.setRow_alloc_new])
 generalize World.alloc w2 _=w3 at*
 obtain ⟨hp,hhp⟩: ∃ k,w2.heap.size=k:=⟨_,rfl⟩
 rw [hhp] at HH3 hsz2 hsz3⊢
 have HS:=hid (show (M.toR x.m).length≤1048576∧Px.Short ((M.toR x.m).map M.mk) from ⟨by have:=HF.out.nrecs;rw [List.length_map] at this;omega,fun r hr=>by have:=HF.out.fits r hr;omega⟩)
 clear hhp HF
 obtain ⟨Ad,cd,hdv,hrd,hlo⟩:=HI3.out.data
 have k17:w3.cell? ⟨w.heap.size,17,none⟩=some (.slice Ad x.d.length cd):=by rw [←hdv];exact HX3.out.cell rfl
 have k12:w3.cell? ⟨w.heap.size,12,none⟩=some (.int .i64 x.m.size):=HX3.out.cell rfl
 obtain ⟨E,hE⟩: ∃ E,M.toE x.m=E:=⟨_,rfl⟩
 by_cases h0:E=0
 ·subst h0
  rw [hE]
  by_cases hd:(x.d.length:Int)=x.m.size
  ·have hne:((x.d.length:Int) !=x.m.size)=false:=by rw [bne_eq_false_iff_eq];exact hd
   have HON:=hid (show M.oneE x.m x.d=0 from by unfold M.oneE;rw [if_neg (by rw [hE];decide),if_neg (by simpa using hd)])
   have HEE:=hid hE
   have HRD:=hid hrd
   have HDV:=hid hdv
   have HFW:=hid HI3.out.few
   have HHI:=hid (fun V=>hin_head HI3.out.met HEE.out V)
   have hsz03:w.heap.size≤w3.heap.size:=HW3.out.size
   clear hE hd hrd hdv hlo HI3
   by_cases hr0:(M.toR x.m).length=0
   ·have HL:=hid (M.oneL_0 hr0 [] x.d)
    go_upto_region 13 with fail
    clear k17 k12
    have HO3:=hid (Sp.OwnY.nil w3 w3.heap.size)
    have HB3:=hid (Below.refl w3.heap.size w3)
    have HH4:=hid (HH3.out.below HB3.out hsz3)
    have HX4:=hid (HX3.out.below HB3.out (by omega))
    go_wp2_with (refine wpList_load_row rfl 39 (.tmp 4) rfl hp (by rfl) 39 (hcells (M.toH x.m) (.slice none 0 0)) (0,0) _ HH4.out Tryz.underlying39 rfl hdr_size ?_)
    refine (refHdr (M.toH x.m) (asked_toH HEE.out) HHI.out (hd_parts _) (toH_way _) w3).mono ?_
    rintro e w5 ⟨g5,rfl,hr5,hb5⟩
    have HO5:=hid (HO3.out.later hb5)
    have HR5:=hid hr5
    have HB5:=hid (HB3.out.trans (hb5.mono HB3.out.size))
    have HX5:=hid (HX3.out.below HB5.out (by omega))
    have k17:w5.cell? ⟨w.heap.size,17,none⟩=some (.slice Ad x.d.length cd):=by rw [←HDV.out];exact HX5.out.cell rfl
    have HD5:=hid ((HRD.out.keep fun p hp=>HB5.out.cell (p:=p) (by omega)).more (show w.heap.size≤w5.heap.size from Nat.le_trans hsz03 HB5.out.size))
    have hs5:w3.heap.size≤w5.heap.size:=hb5.size
    clear hr5 hb5
    go_wp2_with fail
    refine (refPadded cd w5 HD5.out HFW.out).mono ?_
    rintro e w6 ⟨v6,rfl,ho6,hb6⟩
    obtain ⟨A6,c6,rfl,_,_,_⟩:=ho6.rd (M.pad_u8 HRD.out.bd)
    have HO6:=hid (HO5.out.later hb6)
    have HR6:=hid ((HR5.out.below hb6).more hb6.size)
    have HB6:=hid (HB5.out.trans (hb6.mono HB5.out.size))
    have HV6:=hid ho6
    have hs6:w3.heap.size≤w6.heap.size:=HB6.out.size
    have hpd:(M.pad x.d).length≤1050000:=by rw [M.pad_len];have:=HFW.out;have:=M.padK_lt x.d.length;omega
    have hlb2:(M.blk (M.toH x.m)).length=512:=blk_len (asked_toH HEE.out)
    clear ho6 hb6 k17
    go_upto_region 16 with (refine Sp.wpList_app_bytes rfl (.tmp 67) (.tmp 68) rfl w3.heap.size _ [] (by simp [Act.eval]) HO6.out w6.heap.size (some ⟨g5,0,none⟩) 512 512 (M.blk (M.toH x.m)) (by simp [Act.eval]) HR6.out (by simp) hs6 ?_;intro v7 w7 ho7 hg7 _)
    have HO7:=hid ho7
    have HV7:=hid (HV6.out.grown hg7 (own_apart HV6.out HO3.out hs5))
    have HB7:=hid (Sp.below_grown HB6.out hg7 hs6 (fun k hk=>(HO6.out.lt hk).1))
    have hs7:w3.heap.size≤w7.heap.size:=HB7.out.size
    obtain ⟨A7,c7,rfl,_,_⟩:=Sp.own_room ho7
    obtain ⟨A8,c8,e8,hr8,_,_⟩:=HV7.out.rd (M.pad_u8 HRD.out.bd)
    injection e8 with e8a e8b e8c
    subst e8a e8c
    have HR7:=hid hr8
    clear ho7 hg7 hr8 e8b HV6 HR6 HO6
    go_wp2_with (refine Sp.wpList_app_bytes rfl (.tmp 70) (.tmp 71) rfl w3.heap.size _ ([]++M.blk (M.toH x.m)) (by simp [Act.eval]) HO7.out w7.heap.size A6 (M.pad x.d).length c6 (M.pad x.d) (by simp [Act.eval]) HR7.out (by rw [List.length_append,hlb2];simp;omega) hs7 ?_;intro v8 w8 ho8 hg8 _)
    go_ret2
    have hB8:=Sp.below_grown HB7.out hg8 hs7 (fun k hk=>(HO7.out.lt hk).1)
    exact ⟨v8,by rw [HON.out];rfl,fun _=>by
     have h:=ho8.lower hsz03
     rw [show M.oneL x.m x.d=_ from HL.out]
     exact h,fun h=>absurd HON.out h,HW3.out.trans (hB8.mono hsz03)⟩
   ·have HL:=hid (M.oneL_1 hr0 [] x.d)
    have hpos:0<(M.toR x.m).length:=by omega
    have HPR:=hid (show Calls Tryz.prog 25 #[.slice A (M.toR x.m).length c] w3 (Px.PrintIs .i64 ((M.toR x.m).map M.mk) w3) by
     have h1:=Px.refPrint_any A c ((M.toR x.m).map M.mk) (by rw [List.length_map];exact HS.out.1) HS.out.2 BE w3 (Nat.le_trans hBE hsz03) HE3.out.tens HR3.out
     rw [List.length_map] at h1
     exact h1)
    have HRE:=hid (M.recE HEE.out)
    have HRL:=hid (M.recI_le x.m)
    have HPI:=hid (fun V=>hin_pax ((M.recI x.m).length:Nat) (by omega) (by have:=M.recI_le x.m;omega) V)
    clear hr0 HR3 HS
    go_wp2_with fail
    clear k17 k12
    refine HPR.out.mono ?_
    rintro e wp ⟨v,rfl,hown,hbp⟩
    rw [rcs_mk,HRE.out]
    rw [rcs_mk] at hown
    have ho:=recI_own hown
    obtain ⟨A4,c4,rfl,hrd4,_,_⟩:=ho.rd (M.recI_u8 x.m)
    have HP4:=hid hrd4
    have HBp:=hid hbp
    clear hown ho hrd4 hbp HPR
    go_wp2_with fail
    refine (refHdr (M.paxH ((M.recI x.m).length:Nat)) (asked_recs x.m) HPI.out rfl ⟨show (0:Int)≤1 by decide,show (1:Int)≤2 by decide⟩ wp).mono ?_
    rintro e wq ⟨gq,rfl,hrq,hbq⟩
    have HPq:=hid ((HP4.out.below hbq).more hbq.size)
    have HRq:=hid hrq
    have HBq:=hid (HBp.out.trans (hbq.mono HBp.out.size))
    clear hrq hbq HP4 HBp
    go_wp2_with fail
    refine (refPadded c4 wq HPq.out HRL.out).mono ?_
    rintro e wr ⟨vr,rfl,hor,hbr⟩
    obtain ⟨Ar,cr,rfl,hrr,_,_⟩:=hor.rd (M.pad_u8 (M.recI_u8 x.m))
    have HRr:=hid ((HRq.out.below hbr).more hbr.size)
    have HBr:=hid (HBq.out.trans (hbr.mono HBq.out.size))
    have HVr:=hid hor
    have hsr:w3.heap.size≤wr.heap.size:=HBr.out.size
    have hpad:(M.pad (M.recI x.m)).length≤1050000:=by rw [M.pad_len];have:=HRL.out;have:=M.padK_lt (M.recI x.m).length;omega
    clear hor hbr hrr HRq HBq HPq
    go_upto_region 12 with (refine Sp.wpList_app_bytes rfl (.tmp 53) (.tmp 54) rfl w3.heap.size _ [] (by simp [Act.eval]) (Sp.OwnY.nil _ _) wr.heap.size (some ⟨gq,0,none⟩) 512 512 (M.blk (M.paxH ((M.recI x.m).length:Nat))) (by simp [Act.eval]) HRr.out (by simp) hsr ?_;intro vs ws hos hgs _)
    have hbs:Below wr.heap.size wr ws:=Sp.below_grown (Below.refl _ _) hgs (Nat.le_refl _) (fun k hk=>by simp [Value.ownBlock] at hk)
    have HVs:=hid (HVr.out.later hbs)
    have HOs:=hid hos
    have HBs:=hid (HBr.out.trans (hbs.mono hsr))
    have hss:w3.heap.size≤ws.heap.size:=HBs.out.size
    have hlb:(M.blk (M.paxH ((M.recI x.m).length:Nat))).length=512:=blk_len (asked_recs x.m)
    obtain ⟨As,cs,rfl,_,_⟩:=Sp.own_room HOs.out
    obtain ⟨A5,c5,e5,hr5',_,_⟩:=HVs.out.rd (M.pad_u8 (M.recI_u8 x.m))
    injection e5 with e5a e5b e5c
    subst e5a e5c
    have HRs:=hid hr5'
    clear hos hgs hbs hr5' HVr HRr HBr e5b
    go_upto_region 13 with (refine Sp.wpList_app_bytes rfl (.tmp 56) (.tmp 57) rfl w3.heap.size _ ([]++M.blk (M.paxH ((M.recI x.m).length:Nat))) (by simp [Act.eval]) HOs.out ws.heap.size Ar (M.pad (M.recI x.m)).length cr (M.pad (M.recI x.m)) (by simp [Act.eval]) HRs.out (by rw [List.length_append,hlb];simp;omega) hss ?_;intro vt w4 hot hgt _)
    have HO4:=hid hot
    have HB4:=hid (Sp.below_grown HBs.out hgt hss (fun k hk=>(HOs.out.lt hk).1))
    have hlz:(([]++M.blk (M.paxH ((M.recI x.m).length:Nat)))++M.pad (M.recI x.m)).length≤1051000:=by rw [List.length_append,List.length_append,hlb];simp;omega
    obtain ⟨At,ct,rfl,_,_⟩:=Sp.own_room HO4.out
    clear hot hgt HOs HRs HVs HBs hlb
    generalize hZ:(([]++M.blk (M.paxH ((M.recI x.m).length:Nat)))++M.pad (M.recI x.m))=Z at*
    have HZ:=hid hZ
    clear hZ
    have HH4:=hid (HH3.out.below HB4.out hsz3)
    have HX4:=hid (HX3.out.below HB4.out (by omega))
    go_wp2_with (refine wpList_load_row rfl 39 (.tmp 4) rfl hp (by rfl) 39 (hcells (M.toH x.m) (.slice none 0 0)) (0,0) _ HH4.out Tryz.underlying39 rfl hdr_size ?_)
    refine (refHdr (M.toH x.m) (asked_toH HEE.out) HHI.out (hd_parts _) (toH_way _) w4).mono ?_
    rintro e w5 ⟨g5,rfl,hr5,hb5⟩
    have HO5:=hid (HO4.out.later hb5)
    have HR5:=hid hr5
    have HB5:=hid (HB4.out.trans (hb5.mono HB4.out.size))
    have HX5:=hid (HX3.out.below HB5.out (by omega))
    have k17:w5.cell? ⟨w.heap.size,17,none⟩=some (.slice Ad x.d.length cd):=by rw [←HDV.out];exact HX5.out.cell rfl
    have HD5:=hid ((HRD.out.keep fun p hp=>HB5.out.cell (p:=p) (by omega)).more (show w.heap.size≤w5.heap.size from Nat.le_trans hsz03 HB5.out.size))
    have hs5:w4.heap.size≤w5.heap.size:=hb5.size
    clear hr5 hb5
    go_wp2_with fail
    refine (refPadded cd w5 HD5.out HFW.out).mono ?_
    rintro e w6 ⟨v6,rfl,ho6,hb6⟩
    obtain ⟨A6,c6,rfl,_,_,_⟩:=ho6.rd (M.pad_u8 HRD.out.bd)
    have HO6:=hid (HO5.out.later hb6)
    have HR6:=hid ((HR5.out.below hb6).more hb6.size)
    have HB6:=hid (HB5.out.trans (hb6.mono HB5.out.size))
    have HV6:=hid ho6
    have hs6:w3.heap.size≤w6.heap.size:=HB6.out.size
    have hpd:(M.pad x.d).length≤1050000:=by rw [M.pad_len];have:=HFW.out;have:=M.padK_lt x.d.length;omega
    have hlb2:(M.blk (M.toH x.m)).length=512:=blk_len (asked_toH HEE.out)
    clear ho6 hb6 k17
    go_upto_region 16 with (refine Sp.wpList_app_bytes rfl (.tmp 67) (.tmp 68) rfl w3.heap.size _ Z (by simp [Act.eval]) HO6.out w6.heap.size (some ⟨g5,0,none⟩) 512 512 (M.blk (M.toH x.m)) (by simp [Act.eval]) HR6.out (by omega) hs6 ?_;intro v7 w7 ho7 hg7 _)
    have HO7:=hid ho7
    have HV7:=hid (HV6.out.grown hg7 (own_apart HV6.out HO4.out hs5))
    have HB7:=hid (Sp.below_grown HB6.out hg7 hs6 (fun k hk=>(HO6.out.lt hk).1))
    have hs7:w3.heap.size≤w7.heap.size:=HB7.out.size
    obtain ⟨A7,c7,rfl,_,_⟩:=Sp.own_room ho7
    obtain ⟨A8,c8,e8,hr8,_,_⟩:=HV7.out.rd (M.pad_u8 HRD.out.bd)
    injection e8 with e8a e8b e8c
    subst e8a e8c
    have HR7:=hid hr8
    clear ho7 hg7 hr8 e8b HV6 HR6 HO6
    go_wp2_with (refine Sp.wpList_app_bytes rfl (.tmp 70) (.tmp 71) rfl w3.heap.size _ (Z++M.blk (M.toH x.m)) (by simp [Act.eval]) HO7.out w7.heap.size A6 (M.pad x.d).length c6 (M.pad x.d) (by simp [Act.eval]) HR7.out (by rw [List.length_append,hlb2];omega) hs7 ?_;intro v8 w8 ho8 hg8 _)
    go_ret2
    have hB8:=Sp.below_grown HB7.out hg8 hs7 (fun k hk=>(HO7.out.lt hk).1)
    exact ⟨v8,by rw [HON.out];rfl,fun _=>by
     have h:=ho8.lower hsz03
     rw [show M.oneL x.m x.d=_ from HL.out]
     rw [←HZ.out] at h
     simpa only [List.append_assoc,List.nil_append] using h,fun h=>absurd HON.out h,HW3.out.trans (hB8.mono hsz03)⟩
  ·have hne:((x.d.length:Int) !=x.m.size)=true:=by rw [bne_iff_ne];exact hd
   have HON:=hid (show M.oneE x.m x.d=11 from by unfold M.oneE;rw [if_neg (by rw [hE];decide),if_pos hd])
   clear hE hd hrd hdv
   go_wp2_with fail
   go_ret2
   exact ⟨_,by rw [HON.out];rfl,fun h=>absurd (HON.out.symm.trans h) (by decide),fun _=>rfl,HW3.out⟩
 ·have HON:=hid (show M.oneE x.m x.d=E from by unfold M.oneE;rw [hE,if_pos h0])
  have hne:(((E:Nat):Int) !=0)=true:=by rw [bne_iff_ne];omega
  have heq:(((E:Nat):Int)==0)=false:=by rw [beq_eq_false_iff_ne];omega
  have H0:=hid h0
  rw [hE]
  clear hE h0
  go_wp2_with fail
  go_ret2
  exact ⟨_,by rw [HON.out];rfl,fun h=>absurd (HON.out.symm.trans h) H0.out,fun _=>rfl,HW3.out⟩
end Go.Proofs.YtgbgngdakkiclaaGreatDoor

/-! WrWriteP -/
namespace Go.Proofs.YtgbgngdakkiclaaGreatDoor
open Go.RowKit Go.Lib
open Px (R2 tl)
theorem mb_one {w:World} {B:Nat} {x:Mb} (h:MbIn w B x):x.cells.all (·.oneCell')=true:=by
 obtain ⟨A1,c1,e1,_⟩:=h.met.parts
 obtain ⟨A2,c2,e2,_⟩:=h.met.extra
 obtain ⟨A3,c3,e3,_⟩:=h.data
 unfold Mb.cells
 rw [e1,e2,e3]
 simp [Value.oneCell']
set_option maxRecDepth 100000 in
set_option maxHeartbeats 4000000 in
theorem write_any (A:Option Addr) (c:Nat) (xs:List Mb) (w:World) (hr:RdM w w.heap.size A xs) (hxs: ∀ x∈xs,MbIn w w.heap.size x) (hn:xs.length≤100) (hmg:Hd.MG w) (BE:Nat) (hBE:BE≤w.heap.size) (hev:Sp.EV BE w):
  Calls Tryz.prog 12 #[.slice A xs.length c] w (WriteIs .u16 xs w):=by
 have hb1:=(Below.refl w.heap.size w).alloc (Nat.le_refl _) (.cells #[.slice none 0 0, .int .i64 0, .int .i8 0] 60)
 have HBf:=hid (Buf.new w)
 have HW:=hid hb1
 have hgB:=hmg.lt
 have HR:=hid (fun V (hV:Below w.heap.size w V)=>hr.keep fun p hp=>hV.cell (p:=p) hp)
 have HI:=hid (fun V (hV:Below w.heap.size w V) x (hx:x∈xs)=>(hxs x hx).later (Nat.le_refl _) hV)
 have HG:=hid (fun V (hV:Below w.heap.size w V)=>hmg.later hV)
 have HE:=hid (fun V (hV:Below w.heap.size w V)=>hev.on (hV.mono hBE))
 have HFW:=hid (fun x hx=>(hxs x hx).few)
 clear hr hxs hmg hev hb1
 go_enter Tryz.func12,Tryz.ntmps12
 go_upto_region 2 with fail
 generalize World.alloc w _=W at*
 go_wp2_with fail
 go_loopw [10] (fun i wr=> ∃ k:Nat,i= .int .i64 k∧k≤xs.length∧Hid (∀ x∈xs.take k,M.oneE x.m x.d=0)∧Hid (Buf wr w.heap.size w.heap.size (M.cat (xs.take k)))∧Hid (Below w.heap.size w wr)) (fun i _=>xs.length - (intOf i).toNat)
 case atStart=>exact ⟨0,rfl,Nat.zero_le _,hid (fun x hx=>by simp at hx),by simpa [M.cat] using HBf,HW⟩
 case round=>
  obtain ⟨k,rfl,hk,HOK,HBk,HWk⟩:=hrel
  by_cases hlt:k<xs.length
  ·obtain ⟨bb,off,rfl,hbb,hrow⟩:=HR.out wr HWk.out (by omega)
   have hx:=hrow k xs[k] (List.getElem?_eq_getElem hlt)
   have hmem:xs[k]∈xs:=List.getElem_mem hlt
   have HIk:=hid (HI.out wr HWk.out xs[k] hmem)
   have hcat:=M.cat_ok (xs:=xs.take k) (fun x hx=>⟨HOK.out x hx,HFW.out x (List.mem_of_mem_take hx)⟩)
   have hlk:(xs.take k).length=k:=by rw [List.length_take];omega
   have HS:=hid (ok_succ hlt HOK.out)
   have HC:=hid (cat_succ hlt)
   have HNE:=hid (M.writeE_take hlt HOK.out)
   obtain ⟨x,hxk⟩: ∃ x,xs[k]=x:=⟨_,rfl⟩
   rw [hxk] at hx HIk HS HC HNE
   have hms:(Tryz.prog.info? 37).map (·.size)=some x.cells.toList.length:=mem_size
   have hb2:=(Below.refl wr.heap.size wr).alloc (Nat.le_refl _) (.cells x.cells 37)
   have HX2:=hid (MX.new wr x)
   have HW2:=hid (HWk.out.trans (hb2.mono HWk.out.size))
   have HB2:=hid (HBk.out.later hb2)
   have HI2:=hid (HIk.out.later HWk.out.size hb2)
   have hl2:(M.cat (xs.take k)).length≤900000000:=by have:=hcat.2;rw [hlk] at this;omega
   have hm2:=hcat.1
   have HONE:=hid (mb_one HIk.out)
   clear hrow hmem hcat hlk hxk hb2
   go_upto_region 5 with (first
    |(refine wpList_load_mid rfl 37 (.tmp 12) rfl bb (off+k*18) (by simp [Act.eval,Addr.add]) x.cells.toList _ hx Tryz.underlying37 rfl hms ?_;rw [Array.toArray_toList])
    |(refine wpList_store_row rfl 37 (.tmp 6) (.tmp 13) rfl wr.heap.size x.cells (by rfl) (by rfl) 37 _ (heap_alloc_new wr _) mem_size rfl HONE.out ?_;rw [World.setRow_alloc_new]))
   generalize World.alloc wr _=w2 at*
   go_wp2_with (refine wpList_load_row rfl 37 (.tmp 6) rfl wr.heap.size (by rfl) 37 x.cells (0,0) _ HX2.out Tryz.underlying37 rfl mem_size ?_)
   refine (archMember HB2.out HW2.out.size x HI2.out (HG.out w2 HW2.out) hgB BE (Nat.le_trans hBE HW2.out.size) (HE.out w2 HW2.out) hm2 hl2).mono ?_
   rintro e w3 ⟨rfl,hb3,hbf⟩
   have HF3:=hid hbf
   have HW3:=hid (HW2.out.trans hb3)
   obtain ⟨E,hE⟩: ∃ E,M.oneE x.m x.d=E:=⟨_,rfl⟩
   rw [hE] at HF3 HS HNE⊢
   clear hb3 hbf hE HX2 HB2 HI2 hx hl2 hm2 HBk HWk HIk
   by_cases h0:E=0
   ·subst h0
    have H3:=hid (HF3.out rfl)
    have HOK3:=hid (HS.out rfl)
    go_wp2_with fail
    go_roundw
    case rel=>exact ⟨k+1,by go_num,by omega,HOK3,by rw [HC.out];exact H3,HW3⟩
    case measure=>simp [intOf];omega
   ·have hne:(((E:Nat):Int) !=0)=true:=by rw [bne_iff_ne];omega
    have H0:=hid h0
    have HEE:=hid (HNE.out h0)
    clear h0 HNE
    go_wp2_with fail
    go_ret2
    exact ⟨_,by rw [HEE.out];rfl,fun h=>absurd (HEE.out.symm.trans h) H0.out,fun _=>rfl,HW3.out⟩
  ·obtain rfl:k=xs.length:=by omega
   rw [List.take_length] at HOK HBk
   have HEE:=hid (M.writeE_all HOK.out)
   have hlc:=(M.cat_ok (xs:=xs) (fun x hx=>⟨HOK.out x hx,HFW.out x hx⟩)).2
   have hmk:=fun (V:World)=>(show (Instr.makeSlice 22 (.int .i64 1024) (.int .i64 1024)).run Tryz.prog V= .ok (.slice (some ⟨V.heap.size,0,none⟩) 1024 1024) (V.alloc (.cells (Sp.bcells (List.replicate 1024 0)).toArray 5)) from wr_make 1024 (by decide) V)
   obtain ⟨ZR,hZR⟩: ∃ ZR,Sp.bcells (List.replicate 1024 0)=ZR:=⟨_,rfl⟩
   have hb2:=(Below.refl wr.heap.size wr).alloc (Nat.le_refl _) (.cells (Sp.bcells (List.replicate 1024 0)).toArray 5)
   have HB2:=hid (HBk.out.later hb2)
   have HW2:=hid (HWk.out.trans (hb2.mono HWk.out.size))
   have HR2:=hid (wr_rd wr 1024)
   rw [hZR] at HB2 HW2 HR2
   simp only [hZR] at hmk
   clear hZR
   have hfar:wr.heap.size≠w.heap.size:=by have:=HBk.out.lt;omega
   clear hlt hb2 HBk HWk
   go_wp2_with fail
   refine (bufWrite HB2.out HW2.out.size 1024 HR2.out (fun a ha=>by injection ha with ha;subst ha;exact hfar) (by omega)).mono ?_
   rintro e w4 ⟨rfl,hb4,hbel4,_⟩
   have H4:=hid hb4
   have HW4:=hid (HW2.out.trans hbel4)
   clear hb4 hbel4 hmk HB2 HR2
   go_wp2_with fail
   refine (bufBytes H4.out).mono ?_
   rintro e w5 ⟨v,rfl,hown,n,rfl⟩
   have HO:=hid hown
   clear hown
   go_wp2_with fail
   go_ret2
   exact ⟨v,by rw [HEE.out];rfl,fun _=>HO.out,fun h=>absurd HEE.out h,Px.below_drewN' HW4.out n⟩
end Go.Proofs.YtgbgngdakkiclaaGreatDoor

/-! WrGood -/
namespace Go.Proofs.YtgbgngdakkiclaaGreatDoor
open Go.RowKit Go.Lib
open Px (R2 tl)
def goodL (xs:List Mb):List Mb:=xs.filter (fun x=>M.oneE x.m x.d==0)
theorem goodL_mem {xs:List Mb} {x:Mb} (h:x∈goodL xs):x∈xs∧M.oneE x.m x.d=0:=by
 have:=List.mem_filter.1 h
 exact ⟨this.1,by simpa using this.2⟩
theorem goodL_len (xs:List Mb):(goodL xs).length≤xs.length:=List.length_filter_le _ _
theorem goodL_succ {xs:List Mb} {k:Nat} (hk:k<xs.length):goodL (xs.take (k+1))=goodL (xs.take k)++(if M.oneE xs[k].m xs[k].d=0 then [xs[k]] else []):=by
 unfold goodL
 rw [List.take_succ_eq_append_getElem hk,List.filter_append]
 congr 1
 by_cases h:M.oneE xs[k].m xs[k].d=0
 ·simp [h]
 ·simp [h]
theorem wpList_appM {W:World} {ops:Array Oper} {rest:List Oper} {o:Oper} {a:Act} {Q:Exit→Act→World→Prop} (hgd:o.guard=none) (s y:Operand)
  (ho:o.op= .call { callee:= .builtin .append,args:= #[s,y],argTypes:= #[23,23] }) (base:Nat) (v:Value) (xs:List Mb) (x:Mb) (g:Nat) (hs:a.eval s=v) (hown:OwnM W base v xs)
  (hy:a.eval y= .slice (some ⟨g,0,none⟩) 1 1) (hg:W.heap[g]?=some (.cells x.cells 37 (0,0))) (h1:x.cells.all (·.oneCell')=true) (hl:xs.length≤1000) (hbase:base≤W.heap.size)
  (h: ∀ v' w',OwnM w' base v' (xs++ [x])→Hid (Below base W w')→wpList Tryz.prog ops Q rest (a.put o.dst v') w'):wpList Tryz.prog ops Q (o::rest) a W:=
 wpList_plain hgd fun _ hK=>wp_appM s y ho base v xs x g hs hown hy hg h1 hl hbase fun v' w' h2 h3 h4=>hK _ _ (h v' w' h2 (hid (Sp.below_grown (Below.refl base W) h3 hbase (fun g hg=>(World.ownsRow.lt hown g hg).1))))
set_option maxRecDepth 100000 in
set_option maxHeartbeats 4000000 in
theorem good_any (A:Option Addr) (c:Nat) (xs:List Mb) (w:World) (hr:RdM w w.heap.size A xs) (hxs: ∀ x∈xs,MbIn w w.heap.size x) (hn:xs.length≤100) (BE:Nat) (hBE:BE≤w.heap.size) (hev:Sp.EV BE w):
  Calls Tryz.prog 7 #[.slice A xs.length c] w fun e w'=> ∃ A' c',e= .returned (.slice A' (goodL xs).length c')∧RdM w' w'.heap.size A' (goodL xs)∧(∀ x∈goodL xs,MbIn w' w'.heap.size x)∧Below w.heap.size w w':=by
 have HR:=hid (fun V (hV:Below w.heap.size w V)=>hr.keep fun p hp=>hV.cell (p:=p) hp)
 have HI:=hid (fun V (hV:Below w.heap.size w V) x (hx:x∈xs)=>(hxs x hx).later (Nat.le_refl _) hV)
 have HE:=hid (fun V (hV:Below w.heap.size w V)=>hev.on (hV.mono hBE))
 clear hr hxs hev
 go_enter Tryz.func7,Tryz.ntmps7
 go_wp2_with fail
 go_loopw [3,4] (fun v i wr=> ∃ k:Nat,∃ A1 c1,i= .int .i64 k∧k≤xs.length∧v= .slice A1 (goodL (xs.take k)).length c1∧Hid (OwnM wr w.heap.size (.slice A1 (goodL (xs.take k)).length c1) (goodL (xs.take k)))∧Hid (Below w.heap.size w wr)) (fun _ i _=>xs.length - (intOf i).toNat)
 case atStart=>exact ⟨0,none,0,rfl,Nat.zero_le _,rfl,hid (OwnM.nil _ _),hid (Below.refl _ _)⟩
 case round=>
  obtain ⟨k,A1,c1,rfl,hk,rfl,HO,HB⟩:=hrel
  by_cases hlt:k<xs.length
  ·obtain ⟨bb,off,rfl,hbb,hrow⟩:=HR.out wr HB.out (by omega)
   have HROW:=hid (show ∀ V,Below w.heap.size w V→ ∀ i v,xs[k].cells.toList[i]?=some v→V.cell? ⟨bb,off+k*18+i,none⟩=some v from fun V hV=>by
    obtain ⟨b2,o2,e2,_,h2⟩:=HR.out V hV (by omega)
    injection e2 with e2
    injection e2 with e2 e3
    subst e2
    subst e3
    exact h2 k xs[k] (List.getElem?_eq_getElem hlt))
   have hx:=HROW.out wr HB.out
   have HIk:=hid (show ∀ V,Below w.heap.size w V→MbIn V w.heap.size xs[k] from fun V hV=>HI.out V hV xs[k] (List.getElem_mem hlt))
   have HS:=hid (goodL_succ hlt)
   have hgl:(goodL (xs.take k)).length≤100:=Nat.le_trans (goodL_len _) (by rw [List.length_take];omega)
   obtain ⟨x,hxk⟩: ∃ x,xs[k]=x:=⟨_,rfl⟩
   rw [hxk] at hx HIk HS HROW
   clear hxk hrow
   have hms:(Tryz.prog.info? 37).map (·.size)=some x.cells.toList.length:=mem_size
   have HONE:=hid (mb_one (HIk.out wr HB.out))
   obtain ⟨ys,hys⟩: ∃ ys,goodL (xs.take k)=ys:=⟨_,rfl⟩
   rw [hys] at HO HS hgl⊢
   clear hys
   go_wp2_with (refine wpList_load_mid rfl 37 (.tmp 16) rfl bb (off+k*18) (by simp [Act.eval,Addr.add]) x.cells.toList _ hx Tryz.underlying37 rfl hms ?_;rw [Array.toArray_toList])
   refine (refOne_any x wr ((HIk.out wr HB.out).more HB.out.size) BE (Nat.le_trans hBE HB.out.size) (HE.out wr HB.out)).mono ?_
   rintro e w2 ⟨v2,rfl,_,_,hb2⟩
   have HB2:=hid (HB.out.trans (hb2.mono HB.out.size))
   have HO2:=hid (HO.out.later hb2)
   have hx2:=HROW.out w2 HB2.out
   clear hb2 hx HB HO HROW HE
   by_cases h0:M.oneE x.m x.d=0
   ·rw [h0]
    rw [if_pos h0] at HS
    have hb3:Below w2.heap.size w2 (w2.alloc (.cells x.cells 37)):=(Below.refl _ w2).alloc (Nat.le_refl _) _
    have HO3:=hid (HO2.out.later hb3)
    have HB3:=hid (HB2.out.trans (hb3.mono HB2.out.size))
    have HG3:=hid (heap_alloc_new w2 (.cells x.cells 37))
    clear hb3
    go_wp2_with (first
     |(refine wpList_load_mid rfl 37 (.tmp 26) rfl bb (off+k*18) (by simp [Act.eval,Addr.add]) x.cells.toList _ hx2 Tryz.underlying37 rfl hms ?_;rw [Array.toArray_toList,show x.cells=_ from rfl];unfold Mb.cells)
     |(refine wpList_appM rfl (.tmp 23) (.tmp 28) rfl w.heap.size (.slice A1 ys.length c1) ys x w2.heap.size (by rfl) HO3.out (by rfl) HG3.out HONE.out (by omega) HB3.out.size ?_))
    intro v4 w4 hO4 hb4
    obtain ⟨A4,c4,rfl,_⟩:=hO4.form
    have HO4:=hid hO4
    have HB4:=hid (HB3.out.trans hb4.out)
    have HL4:=hid (show (ys++ [x]).length=ys.length+1 by rw [List.length_append,List.length_singleton])
    clear hO4 hb4 HO3 HB3 HG3 HO2 HB2 hx2
    rw [HL4.out]
    go_wp2_with fail
    go_roundw
    case rel=>exact ⟨k+1,A4,c4,by go_num,by omega,by rw [HS.out,HL4.out],by rw [HS.out];exact HO4,HB4⟩
    case measure=>simp [intOf];omega
   ·have hne:(((M.oneE x.m x.d:Nat):Int)==0)=false:=by simpa using h0
    rw [if_neg h0,List.append_nil] at HS
    generalize M.oneE x.m x.d=E at*
    go_wp2_with fail
    go_roundw
    case rel=>exact ⟨k+1,A1,c1,by go_num,by omega,by rw [HS.out],by rw [HS.out];exact HO2,HB2⟩
    case measure=>simp [intOf];omega
  ·obtain rfl:k=xs.length:=by omega
   rw [List.take_length] at*
   go_wp2_with fail
   go_ret
   have HF:=hid (fun x hx=>((HI.out wr HB.out x (goodL_mem hx).1).more HB.out.size))
   first
    |exact ⟨A1,c1,rfl,HO.out.rd,HF.out,HB.out⟩
    |exact ⟨A1,⟨c1,rfl⟩,HO.out.rd,HF.out,HB.out⟩
end Go.Proofs.YtgbgngdakkiclaaGreatDoor

/-! WrKnown -/
namespace Go.Proofs.YtgbgngdakkiclaaGreatDoor
open Go.RowKit Go.Lib
open Px (R2 tl)
theorem exL_u8:Sp.u8s M.exL:=by
 intro z hz
 rcases List.mem_append.1 hz with h|h
 ·exact M.oneL_u8 M.exw_toE (fun z hz=>by rw [List.mem_singleton.1 hz];decide) z h
 ·rw [(List.mem_replicate.1 h).2];decide
theorem exX (A:Option Addr) {base:Nat} {w:World} {v:Value} (h:M.writeE [exMb A]=0→Sp.OwnY w base v (M.writeL [exMb A])): ∃ b off c,v= .slice (some ⟨b,off,none⟩) 2048 c∧b<w.heap.size∧w.cell? ⟨b,off,none⟩=some (.int .u8 97)∧w.cell? ⟨b,off+512,none⟩=some (.int .u8 120):=by
 have h5:=h (exMb_E A)
 rw [exMb_L] at h5
 obtain ⟨A4,c4,rfl,hr4,_,_⟩:=h5.rd exL_u8
 have hl:=M.exL_len
 have h0:=M.exL_0
 have h512:=M.exL_512
 generalize M.exL=L at*
 obtain ⟨b,off,e,hb,hc⟩:=hr4.2.2 (by omega)
 refine ⟨b,off,c4,by rw [e,hl],hb, ?_, ?_⟩
 ·have:=hc 0 97 h0;rwa [Nat.add_zero] at this
 ·exact hc 512 120 h512
set_option maxRecDepth 100000 in
set_option maxHeartbeats 1000000 in
theorem wr_known (BE:Nat) (w:World) (hmg:Hd.MG w) (hBE:BE≤w.heap.size) (hev:Sp.EV BE w):Calls Tryz.prog 11 #[] w fun e w'=>e= .returned (.bool true)∧Below w.heap.size w w':=by
 have HG:=hid (fun V (hV:Below w.heap.size w V)=>hmg.later hV)
 have HE:=hid (fun V (hV:Below w.heap.size w V)=>hev.on (hV.mono hBE))
 have H1:=hid (show Calls Tryz.prog 12 #[.slice none 0 0] w (WriteIs .u16 [] w) from write_any none 0 [] w (fun h=>absurd h (Nat.lt_irrefl 0)) (fun x hx=>nomatch hx) (by decide) hmg BE hBE hev)
 clear hmg hev
 go_enter Tryz.func11,Tryz.ntmps11
 go_wp2_with fail
 refine H1.out.mono ?_
 rintro e w1 ⟨v1,rfl,ho1,_,hb1⟩
 obtain ⟨A1,c1,rfl,_,_,_⟩:=(ho1 rfl).rd (fun z hz=>by
  rw [show M.writeL []=List.replicate 1024 0 from rfl] at hz
  rw [(List.mem_replicate.1 hz).2];decide)
 rw [show (M.writeL []).length=1024 from by simp [M.writeL,M.cat],show M.writeE []=0 from rfl]
 have HB1:=hid hb1
 clear ho1 hb1 H1
 have hcv:=run_convert_bytes_const (P:=Tryz.prog) w1 22 5 #[.int .u8 120] 1 1 Tryz.underlying22 Tryz.underlying5
 go_wp2_with fail
 have hb2:=((Below.refl w1.heap.size w1).alloc (Nat.le_refl _) (.cells #[.int .u8 120] 5 (1,2)))
 have hb3:=hb2.alloc hb2.size (.cells (exMb (some ⟨w1.heap.size,0,none⟩)).cells 37)
 have HB3:=hid (HB1.out.trans (hb3.mono HB1.out.size))
 have hX:MbIn _ _ (exMb (some ⟨w1.heap.size,0,none⟩)):=exMb_in (w:=w1.alloc (.cells #[.int .u8 120] 5 (1,2))) (heap_alloc_new w1 _)
 have hb23:=((Below.refl _ (w1.alloc (.cells #[.int .u8 120] 5 (1,2)))).alloc (Nat.le_refl _) (.cells (exMb (some ⟨w1.heap.size,0,none⟩)).cells 37))
 have hX3:=(hX.later (Nat.le_refl _) hb23).more hb23.size
 have hG3:=heap_alloc_new (w1.alloc (.cells #[.int .u8 120] 5 (1,2))) (.cells (exMb (some ⟨w1.heap.size,0,none⟩)).cells 37)
 rw [World.size_alloc w1] at hG3
 have HW:=hid (write_any (some ⟨w1.heap.size+1,0,none⟩) 1 [exMb (some ⟨w1.heap.size,0,none⟩)] ((w1.alloc (.cells #[.int .u8 120] 5 (1,2))).alloc (.cells (exMb (some ⟨w1.heap.size,0,none⟩)).cells 37)) (rdM_one hG3) (fun x hx=>by rw [List.mem_singleton.1 hx];exact hX3) (show 1≤100 by decide) (HG.out _ HB3.out) BE (Nat.le_trans hBE HB3.out.size) (HE.out _ HB3.out))
 clear hX hX3 hb23 hb2 hG3 hcv HE HG
 refine Calls.mono (show Calls Tryz.prog 12 #[.slice (some ⟨w1.heap.size+1,0,none⟩) 1 1] _ _ from HW.out) ?_
 rintro e w4 ⟨v4,rfl,ho4,_,hb4⟩
 obtain ⟨b,off,c4,rfl,hbb,hc0,hc5⟩:=exX _ ho4
 rw [exMb_E]
 have HB4:=hid (HB3.out.trans (hb4.mono HB3.out.size))
 clear ho4 hb3 hb4 HB3 HW
 go_wp2_with fail
 go_ret
 first
  |exact ⟨rfl,HB4.out⟩
  |exact HB4.out
end Go.Proofs.YtgbgngdakkiclaaGreatDoor

/-! WrMembers -/
namespace Go.Proofs.YtgbgngdakkiclaaGreatDoor
open Go.RowKit Go.Lib
open Px (R2 tl)
theorem rd_sub {w:World} {B n:Nat} {A:Option Addr} {zs:List Int} (h:Sp.Rd w B A n zs) {i m:Nat} (him:i+m≤n):Sp.Rd w B (A.map (·.add i)) m ((zs.drop i).take m):=by
 refine ⟨by rw [List.length_take,List.length_drop,h.1];omega,fun z hz=>h.2.1 z (List.mem_of_mem_drop (List.mem_of_mem_take hz)),fun hm=> ?_⟩
 obtain ⟨b,off,e,hb,hc⟩:=h.2.2 (by omega)
 refine ⟨b,off+i,by rw [e];simp [Addr.add],hb,fun q z hz=> ?_⟩
 have hq:q<m:=by have:=(List.getElem?_eq_some_iff.1 hz).1;rw [List.length_take] at this;omega
 rw [List.getElem?_take_of_lt hq,List.getElem?_drop] at hz
 have:=hc (i+q) z hz
 rwa [←Nat.add_assoc] at this
theorem MbIn.grownO {w w':World} {B:Nat} {x:Mb} {o:Option Nat} (h:MbIn w B x) (hB:B≤w.heap.size) (hs: ∀ g,o=some g→Safe x g) (hg:w.grownBy w' o):MbIn w' B x:=by
 cases o with
 |none=>exact h.grown (Safe.fresh h hB (Nat.le_refl _)) ⟨hg.os,hg.tape,hg.output,hg.size,fun k hk _=>hg.block k hk (by simp)⟩
 |some g=>exact h.grown (hs g rfl) hg
theorem row_next {w3 W w9:World} {o o2:Option Nat} {xs:List Mb} {x:Mb} (hI: ∀ y∈xs,MbIn w3 w3.heap.size y∧ ∀ g,o=some g→Safe y g) (hx:MbIn W W.heap.size x∧ ∀ g,o=some g→Safe x g) (hb:Below w3.heap.size w3 W) (hg:W.grownBy w9 o) (ho:o2=o∨o2=some W.heap.size): ∀ y∈xs++ [x],MbIn w9 w9.heap.size y∧ ∀ g,o2=some g→Safe y g:=by
 have key: ∀ y,MbIn W W.heap.size y∧(∀ g,o=some g→Safe y g)→MbIn w9 w9.heap.size y∧ ∀ g,o2=some g→Safe y g:=fun y h=>by
  refine ⟨(h.1.grownO (Nat.le_refl _) h.2 hg).more hg.size,fun g e=> ?_⟩
  rcases ho with ho|ho
  ·exact h.2 g (ho.symm.trans e)
  ·rw [ho] at e
   injection e with e
   exact Safe.fresh h.1 (Nat.le_refl _) (by omega)
 intro y hy
 rcases List.mem_append.1 hy with h1|h1
 ·exact key y ⟨((hI y h1).1.later (Nat.le_refl _) hb).more hb.size,(hI y h1).2⟩
 ·rw [List.mem_singleton.1 h1];exact key x hx
theorem wrap64_bd (x:Int): -9223372036854775808≤wrap64 x∧wrap64 x≤9223372036854775807:=by
 unfold wrap64
 omega
set_option maxRecDepth 100000 in
set_option maxHeartbeats 4000000 in
theorem members_few (A:Option Addr) (n c:Nat) (cs:List Int) (w:World) (hr:Sp.Rd w w.heap.size A n cs) (hc:n≤c) (hcm:c≤maxLen):
  Calls Tryz.prog 8 #[.slice A n c] w fun e w'=> ∃ xs A' c',e= .returned (.slice A' xs.length c')∧RdM w' w'.heap.size A' xs∧(∀ x∈xs,MbIn w' w'.heap.size x)∧xs.length≤4∧(∀ x∈xs,x.d.length≤4000)∧Below w.heap.size w w':=by
 have HR:=hid (fun V (hV:Below w.heap.size w V)=>hr.below hV)
 unfold maxLen at hcm
 clear hr
 go_enter Tryz.func8,Tryz.ntmps8
 go_wp2_with fail
 go_loopw [3,4] (fun v i wr=> ∃ j:Nat,∃ xs A1 c1,i= .int .i64 j∧j=12*xs.length∧xs.length≤4∧Hid (∀ x∈xs,x.d.length≤4000)∧v= .slice A1 xs.length c1∧Hid (OwnM wr w.heap.size (.slice A1 xs.length c1) xs)∧Hid (∀ x∈xs,MbIn wr wr.heap.size x∧ ∀ g,(Value.slice A1 xs.length c1).ownBlock=some g→Safe x g)∧Hid (Below w.heap.size w wr)) (fun _ i _=>60 - (intOf i).toNat)
 case atStart=>exact ⟨0, [],none,0,rfl,rfl,Nat.zero_le _,hid (fun x hx=>nomatch hx),rfl,hid (OwnM.nil _ _),hid (fun x hx=>nomatch hx),hid (Below.refl _ _)⟩
 case round=>
  obtain ⟨j,xs,A1,c1,rfl,hj,hl4,HD,rfl,HO,HI,HB⟩:=hrel
  have HJ:=hid hj
  by_cases hlt:j<n
  ·by_cases h48:j<48
   ·have hl3:xs.length<4:=by omega
    obtain ⟨m,hm⟩: ∃ m,m=if n<j+12 then n - j else 12:=⟨_,rfl⟩
    have hm0:0<m∧j+m≤n:=by rw [hm];split<;>omega
    have hmin:(if (n:Int)<(j:Int)+12 then (n:Int) else (j:Int)+12)=((j+m:Nat):Int):=by rw [hm];split<;>split<;>omega
    have hcj: ¬ c=j:=by omega
    clear hm hj
    go_upto_region 6 with fail
    rw [show (min ((j:Int)+12) (n:Int)).toNat - j=m by omega]
    have HS:=hid (fun V (hV:Below w.heap.size w V)=>rd_sub (HR.out V hV) hm0.2)
    have hcs:m≤c - j:=by omega
    go_wp2_with fail
    refine (lawMeta_new (A.map (·.add j)) m (c - j) _ wr ((HS.out wr HB.out).more HB.out.size) hcs (by unfold maxLen;omega)).mono ?_
    rintro e w2 ⟨mt,pv,ev,rfl,hmi,hb2,hnp,hne⟩
    have HNV:=hid (And.intro hnp hne)
    clear hnp hne
    have HSZ:=hid (show ∀ g,(Value.slice A1 xs.length c1).ownBlock=some g→w.heap.size≤g∧g<wr.heap.size from fun g hg=>World.ownsRow.lt HO.out g hg)
    have hwr2:wr.heap.size≤w2.heap.size:=hb2.size
    obtain ⟨Ap,cp,hpv,_⟩:=hmi.parts
    obtain ⟨Ae,ce,hev,_⟩:=hmi.extra
    have hb3:=(Below.refl w2.heap.size w2).alloc (Nat.le_refl _) (.cells (mcells mt pv ev) 35)
    have HMB:=hid (MB.new w2 mt pv ev)
    have HMI:=hid (hmi.later hb3)
    have hbr3:=hb2.trans (hb3.mono hb2.size)
    have HB3:=hid (HB.out.trans (hbr3.mono HB.out.size))
    have HO3:=hid (HO.out.later hbr3)
    have HI3:=hid (fun x hx=>show MbIn _ _ x∧ ∀ g,(Value.slice A1 xs.length c1).ownBlock=some g→Safe x g from ⟨((HI.out x hx).1.later (Nat.le_refl _) hbr3).more hbr3.size,(HI.out x hx).2⟩)
    have HONE:=hid (mcells_one mt (pv:=pv) (ev:=ev) (by rw [hpv];rfl) (by rw [hev];rfl))
    have hgs:w2.heap.size<(w2.alloc (.cells (mcells mt pv ev) 35)).heap.size:=by rw [World.size_alloc];omega
    clear hmi hb2 hb3 hbr3 HO HI HB hpv hev
    go_upto_region 7 with (refine wpList_store_row rfl 35 (.tmp 6) (.tmp 27) rfl w2.heap.size (mcells mt pv ev) (by rfl) (by rfl) 35 (mcells {} (.slice none 0 0) (.slice none 0 0)) (heap_alloc_new w2 _) met_size rfl HONE.out ?_;rw [World.setRow_alloc_new])
    generalize World.alloc w2 _=w3 at*
    obtain ⟨gm,hgm⟩: ∃ g,w2.heap.size=g:=⟨_,rfl⟩
    rw [hgm] at HMB hgs hwr2⊢
    clear hgm
    obtain ⟨xb,xo,z0,hAe,hbl,hz0,hz1,_,hcell⟩:=(HS.out w3 HB3.out).at_ hm0.1
    have k12:w3.cell? ⟨gm,12,none⟩=some (.int .i64 mt.size):=HMB.out.cell rfl
    rw [hAe]
    rw [Nat.add_zero] at hcell
    have HZ:=hid (show 0≤z0∧z0≤255 from ⟨hz0,hz1⟩)
    have hint:=HMI.out.ints.2.2.2.2.2.2.2.1
    clear HS hAe
    have hint2:=hint
    obtain ⟨ob,hob⟩: ∃ o,(Value.slice A1 xs.length c1).ownBlock=o:=⟨_,rfl⟩
    have HI3':=hid (show ∀ y∈xs,MbIn w3 w3.heap.size y∧ ∀ g,ob=some g→Safe y g from fun y hy=>⟨(HI3.out y hy).1,fun g hg=>(HI3.out y hy).2 g (hob.trans hg)⟩)
    have HFm:=hid (fun (V:World) (hV:w3.grownBy V ob)=>show MB V gm mt pv ev from (hV.block gm hgs (fun e=>by have:=HSZ.out gm (hob.trans e.symm);omega)).trans HMB.out)
    have HFb:=hid (fun (V:World) (hV:w3.grownBy V ob)=>show V.cell? ⟨xb,xo,none⟩=some (.int .u8 z0) from hV.cell hcell (fun e=>by have:=HSZ.out xb (hob.trans e.symm);omega))
    by_cases hz:250<z0
    ·go_upto_region 10 with fail
     obtain ⟨NN,hNN⟩: ∃ N,wrap64 (mt.size+1)=N:=⟨_,rfl⟩
     have hNb: -9223372036854775808≤NN∧NN≤9223372036854775807:=by rw [←hNN];exact wrap64_bd _
     rw [hNN]
     clear hNN k12 hcell
     refine wp_region_held_drew (S:=fun V=>w3.grownBy V ob) (by kernel_rfl) ⟨rfl,rfl,rfl,Nat.le_refl _,fun _ _ _=>rfl⟩ (fun hS=> ?_)
     refine tkH 0 hS ?_
     refine tkH 1 hS ?_ (v:= .agg (mcells mt pv ev)) (hy:=fun W hW=>by exact run_row 35 (.tmp 6) rfl gm (by rfl) 35 _ (0,0) _ (HFm.out W hW) Tryz.underlying35 rfl met_size)
     refine tkH 2 hS ?_
     refine tkH 3 hS ?_
     refine tkH 4 hS ?_
     refine tfH 5 hS HFb.out ?_
     refine loneH (i:=6) 42 rfl rfl (by kernel_rfl) (by rfl) (fun K hK=> ?_)
     go_simp
     refine (data_any NN z0 w3.drew hNb HZ.out).mono ?_
     rintro e w6 ⟨vd,zs,rfl,hod,hzu,hzl,hb6⟩
     obtain ⟨Ad,cd,rfl,hrd,_,_⟩:=hod.rd hzu
     have hb36:Below w3.heap.size w3 w6:=(Px.below_drew' (Below.refl _ w3)).trans hb6
     have hdlo: ∀ a,Ad=some a→w3.heap.size≤a.block∧a.block<w6.heap.size:=fun a ha=>by
      subst ha
      exact hod.lt (g:=a.block) rfl
     obtain ⟨x,hx⟩: ∃ x:Mb,x=⟨mt,pv,ev, .slice Ad zs.length cd,zs⟩:=⟨_,rfl⟩
     have HXI:=hid (show MbIn w6 w6.heap.size x by
      subst hx
      exact ⟨HMI.out.later hb36,⟨Ad,cd,rfl,hrd,fun a ha=>(hdlo a ha).2⟩,Nat.le_trans hzl (by decide)⟩)
     have HXD:=hid (show x.d.length≤4000 by subst hx;exact hzl)
     have HXS:=hid (show ∀ g,ob=some g→Safe x g from fun g hg=>by
      have h1:=HSZ.out g (hob.trans hg)
      subst hx
      exact ⟨fun _ a n c hv e=>by have:=HNV.out.1 a n c hv;omega,fun _ a n c hv e=>by have:=HNV.out.2 a n c hv;omega,fun _ a n c hv e=>by
       injection hv with h2 _ _
       have:=(hdlo a h2).1
       omega⟩)
     have hS6:w3.grownBy w6 ob:=Sp.grown_of_below hb36 ob
     refine hK.out _ _ hS6 (fun hS=> ?_)
     clear hK K hod hrd
     try simp only [NM]
     have HXC:=hid (show x.cells= #[.string mt.name, .string mt.link, .int .u8 mt.kind, .int .i64 mt.mode, .int .i64 mt.uid, .int .i64 mt.gid, .string mt.user, .string mt.group, .int .i64 mt.sec, .int .i64 mt.nan, .int .i64 mt.major, .int .i64 mt.minor, .int .i64 mt.size, .int .i64 mt.real, .bool mt.holes,pv,ev, .slice Ad zs.length cd] by rw [hx];rfl)
     have HXQ:=hid hx
     clear hx
     refine tkH 7 hS ?_ (v:= .agg x.cells) (hy:=fun W hW=>by clear hW;rw [HXC.out];unfold mcells;go_simp;first|done|with_reducible rfl|rfl)
     refine loneH (i:=8) 44 rfl rfl (by kernel_rfl) (by rfl) (fun K hK=> ?_)
     rw [HXC.out]
     go_simp
     rw [←HXC.out]
     have HON:=hid (show x.cells.all (·.oneCell')=true by rw [HXC.out];have h:=HONE.out;unfold mcells at h;simpa [Value.oneCell'] using h)
     have hb37:Below w3.heap.size w3 (w6.alloc (.cells x.cells 37)):=hb36.alloc hb36.size _
     have h67:Below w6.heap.size w6 (w6.alloc (.cells x.cells 37)):=(Below.refl _ w6).alloc (Nat.le_refl _) _
     have HXI7:=hid ((HXI.out.later (Nat.le_refl _) h67).more h67.size)
     have hG9:=heap_alloc_new w6 (.cells x.cells 37)
     have hS7:w3.grownBy (w6.alloc (.cells x.cells 37)) ob:=Sp.grown_of_below hb37 ob
     refine hK.out _ _ hS7 (fun hS=> ?_)
     clear hK K hb36 h67 HXI
     try simp only [NM]
     generalize w6.alloc _=w7 at*
     generalize w6.heap.size=g9 at*
     have HO7:=hid (HO3.out.later hb37)
     have HB7:=hid (HB3.out.trans (hb37.mono HB3.out.size))
     refine loneH (i:=9) 45 rfl rfl (by kernel_rfl) (by rfl) (fun K hK=> ?_)
     refine wp_appM (.tmp 36) (.tmp 44) rfl w.heap.size (.slice A1 xs.length c1) xs x g9 rfl HO7.out rfl hG9 HON.out (by omega) HB7.out.size ?_
     intro v9 w9 hO9 hg9 hfr
     obtain ⟨A9,c9,rfl,_⟩:=hO9.form
     rw [hob] at hg9 hfr
     have hS9:=Lib.grownBy_trans hS7 hg9
     refine hK.out _ _ hS9 (fun hS=> ?_)
     clear hK K
     try simp only [NM]
     refine tkH 10 hS ?_
     refine wpAnyH_done (by kernel_rfl) ?_ _
     try simp only [NM]
     have HI9:=hid (row_next HI3'.out ⟨HXI7.out,HXS.out⟩ hb37 hg9 hfr)
     have HB9:=hid (Sp.below_grown HB7.out hg9 HB7.out.size (fun g hg=>(HSZ.out g (hob.trans hg)).1))
     have HO9:=hid hO9
     have HJ9:=hid (show j+12=12*(xs++ [x]).length∧(xs++ [x]).length≤4 by have:=HJ.out;rw [List.length_append,List.length_singleton];omega)
     have HD9:=hid (show ∀ y∈xs++ [x],y.d.length≤4000 from fun y hy=>by rcases List.mem_append.1 hy with h|h;exact HD.out y h;rw [List.mem_singleton.1 h];exact HXD.out)
     have HYL:=hid (show (xs++ [x]).length=xs.length+1 from by rw [List.length_append,List.length_singleton])
     generalize xs++ [x]=ys at*
     clear hS hS9 hg9 hfr hO9 HXI7 HXS HXC HXQ HO7 HB7 HON HFm HFb
     rw [show xs.length+1=ys.length from HYL.out.symm]
     go_wp2_with fail
     go_roundw
     case rel=>exact ⟨j+12,ys,A9,c9,by go_num,HJ9.out.1,HJ9.out.2,HD9,rfl,HO9,HI9,HB9⟩
     case measure=>simp [intOf];omega
    ·go_upto_region 10 with fail
     obtain ⟨NN,hNN⟩: ∃ N,mt.size=N:=⟨_,rfl⟩
     have hNb: -9223372036854775808≤NN∧NN≤9223372036854775807:=by rw [←hNN];exact hint
     rw [hNN]
     clear hNN k12 hcell
     refine wp_region_held_drew (S:=fun V=>w3.grownBy V ob) (by kernel_rfl) ⟨rfl,rfl,rfl,Nat.le_refl _,fun _ _ _=>rfl⟩ (fun hS=> ?_)
     refine tkH 0 hS ?_
     refine tkH 1 hS ?_ (v:= .agg (mcells mt pv ev)) (hy:=fun W hW=>by exact run_row 35 (.tmp 6) rfl gm (by rfl) 35 _ (0,0) _ (HFm.out W hW) Tryz.underlying35 rfl met_size)
     refine tkH 2 hS ?_
     refine tkH 3 hS ?_
     refine tkH 4 hS ?_
     refine tfH 5 hS HFb.out ?_
     refine loneH (i:=6) 42 rfl rfl (by kernel_rfl) (by rfl) (fun K hK=> ?_)
     go_simp
     refine (data_any NN z0 w3.drew hNb HZ.out).mono ?_
     rintro e w6 ⟨vd,zs,rfl,hod,hzu,hzl,hb6⟩
     obtain ⟨Ad,cd,rfl,hrd,_,_⟩:=hod.rd hzu
     have hb36:Below w3.heap.size w3 w6:=(Px.below_drew' (Below.refl _ w3)).trans hb6
     have hdlo: ∀ a,Ad=some a→w3.heap.size≤a.block∧a.block<w6.heap.size:=fun a ha=>by
      subst ha
      exact hod.lt (g:=a.block) rfl
     obtain ⟨x,hx⟩: ∃ x:Mb,x=⟨mt,pv,ev, .slice Ad zs.length cd,zs⟩:=⟨_,rfl⟩
     have HXI:=hid (show MbIn w6 w6.heap.size x by
      subst hx
      exact ⟨HMI.out.later hb36,⟨Ad,cd,rfl,hrd,fun a ha=>(hdlo a ha).2⟩,Nat.le_trans hzl (by decide)⟩)
     have HXD:=hid (show x.d.length≤4000 by subst hx;exact hzl)
     have HXS:=hid (show ∀ g,ob=some g→Safe x g from fun g hg=>by
      have h1:=HSZ.out g (hob.trans hg)
      subst hx
      exact ⟨fun _ a n c hv e=>by have:=HNV.out.1 a n c hv;omega,fun _ a n c hv e=>by have:=HNV.out.2 a n c hv;omega,fun _ a n c hv e=>by
       injection hv with h2 _ _
       have:=(hdlo a h2).1
       omega⟩)
     have hS6:w3.grownBy w6 ob:=Sp.grown_of_below hb36 ob
     refine hK.out _ _ hS6 (fun hS=> ?_)
     clear hK K hod hrd
     try simp only [NM]
     have HXC:=hid (show x.cells= #[.string mt.name, .string mt.link, .int .u8 mt.kind, .int .i64 mt.mode, .int .i64 mt.uid, .int .i64 mt.gid, .string mt.user, .string mt.group, .int .i64 mt.sec, .int .i64 mt.nan, .int .i64 mt.major, .int .i64 mt.minor, .int .i64 mt.size, .int .i64 mt.real, .bool mt.holes,pv,ev, .slice Ad zs.length cd] by rw [hx];rfl)
     have HXQ:=hid hx
     clear hx
     refine tkH 7 hS ?_ (v:= .agg x.cells) (hy:=fun W hW=>by clear hW;rw [HXC.out];unfold mcells;go_simp;first|done|with_reducible rfl|rfl)
     refine loneH (i:=8) 44 rfl rfl (by kernel_rfl) (by rfl) (fun K hK=> ?_)
     rw [HXC.out]
     go_simp
     rw [←HXC.out]
     have HON:=hid (show x.cells.all (·.oneCell')=true by rw [HXC.out];have h:=HONE.out;unfold mcells at h;simpa [Value.oneCell'] using h)
     have hb37:Below w3.heap.size w3 (w6.alloc (.cells x.cells 37)):=hb36.alloc hb36.size _
     have h67:Below w6.heap.size w6 (w6.alloc (.cells x.cells 37)):=(Below.refl _ w6).alloc (Nat.le_refl _) _
     have HXI7:=hid ((HXI.out.later (Nat.le_refl _) h67).more h67.size)
     have hG9:=heap_alloc_new w6 (.cells x.cells 37)
     have hS7:w3.grownBy (w6.alloc (.cells x.cells 37)) ob:=Sp.grown_of_below hb37 ob
     refine hK.out _ _ hS7 (fun hS=> ?_)
     clear hK K hb36 h67 HXI
     try simp only [NM]
     generalize w6.alloc _=w7 at*
     generalize w6.heap.size=g9 at*
     have HO7:=hid (HO3.out.later hb37)
     have HB7:=hid (HB3.out.trans (hb37.mono HB3.out.size))
     refine loneH (i:=9) 45 rfl rfl (by kernel_rfl) (by rfl) (fun K hK=> ?_)
     refine wp_appM (.tmp 36) (.tmp 44) rfl w.heap.size (.slice A1 xs.length c1) xs x g9 rfl HO7.out rfl hG9 HON.out (by omega) HB7.out.size ?_
     intro v9 w9 hO9 hg9 hfr
     obtain ⟨A9,c9,rfl,_⟩:=hO9.form
     rw [hob] at hg9 hfr
     have hS9:=Lib.grownBy_trans hS7 hg9
     refine hK.out _ _ hS9 (fun hS=> ?_)
     clear hK K
     try simp only [NM]
     refine tkH 10 hS ?_
     refine wpAnyH_done (by kernel_rfl) ?_ _
     try simp only [NM]
     have HI9:=hid (row_next HI3'.out ⟨HXI7.out,HXS.out⟩ hb37 hg9 hfr)
     have HB9:=hid (Sp.below_grown HB7.out hg9 HB7.out.size (fun g hg=>(HSZ.out g (hob.trans hg)).1))
     have HO9:=hid hO9
     have HJ9:=hid (show j+12=12*(xs++ [x]).length∧(xs++ [x]).length≤4 by have:=HJ.out;rw [List.length_append,List.length_singleton];omega)
     have HD9:=hid (show ∀ y∈xs++ [x],y.d.length≤4000 from fun y hy=>by rcases List.mem_append.1 hy with h|h;exact HD.out y h;rw [List.mem_singleton.1 h];exact HXD.out)
     have HYL:=hid (show (xs++ [x]).length=xs.length+1 from by rw [List.length_append,List.length_singleton])
     generalize xs++ [x]=ys at*
     clear hS hS9 hg9 hfr hO9 HXI7 HXS HXC HXQ HO7 HB7 HON HFm HFb
     rw [show xs.length+1=ys.length from HYL.out.symm]
     go_wp2_with fail
     go_roundw
     case rel=>exact ⟨j+12,ys,A9,c9,by go_num,HJ9.out.1,HJ9.out.2,HD9,rfl,HO9,HI9,HB9⟩
     case measure=>simp [intOf];omega
   ·go_wp2_with fail
    go_ret
    first
    |exact ⟨xs,A1,c1,rfl,HO.out.rd,fun x hx=>(HI.out x hx).1,hl4,HD.out,HB.out⟩
    |exact ⟨xs,A1,⟨c1,rfl⟩,HO.out.rd,fun x hx=>(HI.out x hx).1,hl4,HD.out,HB.out⟩
  ·go_wp2_with fail
   go_ret
   first
    |exact ⟨xs,A1,c1,rfl,HO.out.rd,fun x hx=>(HI.out x hx).1,hl4,HD.out,HB.out⟩
    |exact ⟨xs,A1,⟨c1,rfl⟩,HO.out.rd,fun x hx=>(HI.out x hx).1,hl4,HD.out,HB.out⟩
theorem members_any (A:Option Addr) (n c:Nat) (cs:List Int) (w:World) (hr:Sp.Rd w w.heap.size A n cs) (hc:n≤c) (hcm:c≤maxLen):
  Calls Tryz.prog 8 #[.slice A n c] w fun e w'=> ∃ xs A' c',e= .returned (.slice A' xs.length c')∧RdM w' w'.heap.size A' xs∧(∀ x∈xs,MbIn w' w'.heap.size x)∧xs.length≤4∧Below w.heap.size w w':=by
 refine (members_few A n c cs w hr hc hcm).mono ?_
 rintro e w' ⟨xs,A',c',h1,h2,h3,h4,_,h5⟩
 exact ⟨xs,A',c',h1,h2,h3,h4,h5⟩
end Go.Proofs.YtgbgngdakkiclaaGreatDoor

/-! WrLawO -/
namespace Go.Proofs.YtgbgngdakkiclaaGreatDoor
open Go.RowKit Go.Lib
open Px (R2 tl)
theorem RdM.more {w:World} {B B':Nat} {A:Option Addr} {xs:List Mb} (h:RdM w B A xs) (hB:B≤B'):RdM w B' A xs:=fun hn=>by
 obtain ⟨b,off,e,hb,hc⟩:=h hn
 exact ⟨b,off,e,Nat.lt_of_lt_of_le hb hB,hc⟩
theorem writeL_u8 {xs:List Mb} (h: ∀ x∈xs,M.oneE x.m x.d=0∧ ∀ z∈x.d,0≤z∧z≤255):Sp.u8s (M.writeL xs):=by
 intro z hz
 rcases List.mem_append.1 hz with h1|h1
 ·obtain ⟨x,hx,hz⟩:=List.mem_flatMap.1 h1
  exact M.oneL_u8 (M.oneE_toE (h x hx).1) (h x hx).2 z hz
 ·rw [(List.mem_replicate.1 h1).2];decide
set_option maxRecDepth 100000 in
set_option maxHeartbeats 2000000 in
theorem lawOne (A:Option Addr) (n c:Nat) (cs:List Int) (w:World) (hr:Sp.Rd w w.heap.size A n cs) (hc:n≤c) (hcm:c≤maxLen) (hmg:Hd.MG w) (BE:Nat) (hBE:BE≤w.heap.size) (hev:Sp.EV BE w):
  Calls Tryz.prog 6 #[.slice A n c] w fun e w'=>e= .returned (.bool true)∧Below w.heap.size w w':=by
 have HM:=hid (members_any A n c cs w hr hc hcm)
 have HG:=hid (fun V (hV:Below w.heap.size w V)=>hmg.later hV)
 have HE:=hid (fun V (hV:Below w.heap.size w V)=>hev.on (hV.mono hBE))
 clear hr hmg hev hcm
 go_enter Tryz.func6,Tryz.ntmps6
 go_wp2_with fail
 refine HM.out.mono ?_
 rintro e w1 ⟨zs,A1,c1,rfl,hr1,hi1,hl1,hb1⟩
 have HB1:=hid hb1
 go_wp2_with fail
 refine (good_any A1 c1 zs w1 hr1 hi1 (by omega) BE (Nat.le_trans hBE hb1.size) (HE.out w1 hb1)).mono ?_
 rintro e w2 ⟨A2,c2,rfl,hr2,hi2,hb2⟩
 have hgl:=Nat.le_trans (goodL_len zs) hl1
 have HOK:=hid (fun x (hx:x∈goodL zs)=>(goodL_mem hx).2)
 generalize goodL zs=ys at*
 have HB2:=hid (HB1.out.trans (hb2.mono HB1.out.size))
 have HR:=hid (fun V (hV:Below w2.heap.size w2 V)=>hr2.keep fun p hp=>hV.cell (p:=p) hp)
 have HI:=hid (fun V (hV:Below w2.heap.size w2 V) x (hx:x∈ys)=>(hi2 x hx).later (Nat.le_refl _) hV)
 have HF:=hid (fun x (hx:x∈ys)=>(hi2 x hx).few)
 clear hr1 hi1 hr2 hi2 hb1 hb2 HM HB1
 go_wp2_with fail
 go_loopw [4,5] (fun v i wr=> ∃ k:Nat,∃ A3 c3,i= .int .i64 k∧k≤ys.length∧v= .slice A3 (M.cat (ys.take k)).length c3∧Hid (Sp.OwnY wr w2.heap.size (.slice A3 (M.cat (ys.take k)).length c3) (M.cat (ys.take k)))∧Hid (Below w2.heap.size w2 wr)) (fun _ i _=>ys.length - (intOf i).toNat)
 case atStart=>exact ⟨0,none,0,rfl,Nat.zero_le _,rfl,hid (Sp.OwnY.nil _ _),hid (Below.refl _ _)⟩
 case round=>
  obtain ⟨k,A3,c3,rfl,hk,rfl,HO,HB⟩:=hrel
  by_cases hlt:k<ys.length
  ·obtain ⟨bb,off,rfl,hbb,hrow⟩:=HR.out wr HB.out (by omega)
   have hx:=hrow k ys[k] (List.getElem?_eq_getElem hlt)
   have hmem:ys[k]∈ys:=List.getElem_mem hlt
   have HIk:=hid (HI.out wr HB.out ys[k] hmem)
   have HEk:=hid (HOK.out _ hmem)
   have HS:=hid (cat_succ hlt)
   have hcat:=(M.cat_ok (xs:=ys.take k) (fun x hx=>⟨HOK.out x (List.mem_of_mem_take hx),HF.out x (List.mem_of_mem_take hx)⟩)).2
   rw [List.length_take] at hcat
   have HLE:=hid (M.oneL_le (HOK.out _ hmem) (HF.out _ hmem))
   obtain ⟨x,hxk⟩: ∃ x,ys[k]=x:=⟨_,rfl⟩
   rw [hxk] at hx HIk HEk HS HLE
   clear hxk hrow hmem
   obtain ⟨L,hL⟩: ∃ L,M.cat (ys.take k)=L:=⟨_,rfl⟩
   rw [hL] at HO HS hcat⊢
   clear hL
   have hms:(Tryz.prog.info? 37).map (·.size)=some x.cells.toList.length:=mem_size
   go_wp2_with (refine wpList_load_mid rfl 37 (.tmp 23) rfl bb (off+k*18) (by simp [Act.eval,Addr.add]) x.cells.toList _ hx Tryz.underlying37 rfl hms ?_;rw [Array.toArray_toList])
   have HBw:=hid (HB2.out.trans (HB.out.mono HB2.out.size))
   refine (one_any x wr (HIk.out.more HB.out.size) (HG.out wr HBw.out) BE (Nat.le_trans hBE HBw.out.size) (HE.out wr HBw.out)).mono ?_
   rintro e w4 ⟨v4,rfl,ho4,_,hb4⟩
   have hE:=M.oneE_toE HEk.out
   obtain ⟨Ad,cd,hdv,hrd,_⟩:=HIk.out.data
   obtain ⟨A5,c5,rfl,hr5,_,_⟩:=(ho4 HEk.out).rd (M.oneL_u8 hE hrd.2.1)
   have HR5:=hid hr5
   have hmod:=M.oneL_mod hE x.d
   have hge:512+x.d.length≤(M.oneL x.m x.d).length:=by rw [M.oneL_len hE];omega
   have HO4:=hid (HO.out.later hb4)
   have HB4:=hid (HB.out.trans (hb4.mono HB.out.size))
   have HX4:=hid ((HR.out _ HB4.out (by omega)))
   have k17:w4.cell? ⟨bb,off+k*18+17,none⟩=some (.slice Ad x.d.length cd):=by
    have h1:=hx 17 x.dv rfl
    rw [hdv] at h1
    exact (hb4.cell (p:=⟨bb,off+k*18+17,none⟩) (Nat.lt_of_lt_of_le hbb HB.out.size)).trans h1
   rw [HEk.out]
   have hd20:x.d.length≤1048576:=HIk.out.few
   have HL:=hid (show (M.oneL x.m x.d).length≤3200000 from HLE.out)
   clear hr5 ho4 hb4 HB HO hrd hdv hE HIk HLE hms hx HX4 HBw
   generalize M.oneL x.m x.d=N at*
   generalize x.d.length=D at*
   have HLN:=hid HL.out
   obtain ⟨l,hl⟩: ∃ l,N.length=l:=⟨_,rfl⟩
   rw [hl] at hmod hge HL HR5⊢
   have h1:((l:Int)%512 !=0)=false:=by simp;omega
   have h2:((l:Int).tmod 512 !=0)=false:=by rw [Int.tmod_eq_emod_of_nonneg (by omega)];exact h1
   have h3:decide ((l:Int)<512+(D:Int))=false:=decide_eq_false (by omega)
   have hLb:L.length≤12800000:=by omega
   go_wp2_with (refine Sp.wpList_app_bytes rfl (.tmp 48) (.tmp 49) rfl w2.heap.size (.slice A3 L.length c3) L (by rfl) HO4.out w4.heap.size A5 l c5 N (by rfl) HR5.out (by have:=HL.out;omega) HB4.out.size ?_)
   intro v6 w6 hO6 hg6 _
   have HB6:=hid (Sp.below_grown HB4.out hg6 HB4.out.size (fun g hg=>(HO4.out.lt hg).1))
   obtain ⟨A6,c6,rfl,_,_⟩:=Sp.own_room hO6
   rw [←HS.out] at hO6⊢
   have HO6:=hid hO6
   clear hO6 hg6 HO4 HB4 HR5 k17 h1 h2 h3 hmod hge
   go_wp2_with fail
   go_roundw
   case rel=>exact ⟨k+1,A6,c6,by go_num,by omega,rfl,HO6,HB6⟩
   case measure=>simp [intOf];omega
  ·obtain rfl:k=ys.length:=by omega
   rw [List.take_length] at*
   have hcat:=(M.cat_ok (xs:=ys) (fun x hx=>⟨HOK.out x hx,HF.out x hx⟩)).2
   have hLb:(M.cat ys).length≤12800000:=by omega
   have hmk:=fun (V:World)=>(show (Instr.makeSlice 22 (.int .i64 1024) (.int .i64 1024)).run Tryz.prog V= .ok (.slice (some ⟨V.heap.size,0,none⟩) 1024 1024) (V.alloc (.cells (Sp.bcells (List.replicate 1024 0)).toArray 5)) from wr_make 1024 (by decide) V)
   obtain ⟨ZR,hZR⟩: ∃ ZR,Sp.bcells (List.replicate 1024 0)=ZR:=⟨_,rfl⟩
   have hb4:=(Below.refl wr.heap.size wr).alloc (Nat.le_refl _) (.cells (Sp.bcells (List.replicate 1024 0)).toArray 5)
   have HO4:=hid (HO.out.later hb4)
   have HB4:=hid (HB.out.trans (hb4.mono HB.out.size))
   have HR4:=hid (wr_rd wr 1024)
   have HE0:=hid (M.writeE_all HOK.out)
   have HU:=hid (writeL_u8 (xs:=ys) (fun x hx=>⟨HOK.out x hx,by obtain ⟨_,_,_,h,_⟩:=(HI.out w2 (Below.refl _ _) x hx).data;exact h.2.1⟩))
   have HWL:=hid (show M.writeL ys=M.cat ys++List.replicate 1024 0 from rfl)
   rw [hZR] at HB4 HO4 HR4 hb4
   simp only [hZR] at hmk
   generalize M.cat ys=L at*
   generalize List.replicate 1024 (0:Int)=Z at*
   clear hZR hb4 HO HB hcat
   go_wp2_with (refine Sp.wpList_app_bytes rfl (.tmp 52) (.tmp 53) rfl w2.heap.size (.slice A3 L.length c3) L (by rfl) HO4.out _ (some ⟨wr.heap.size,0,none⟩) 1024 1024 Z (by rfl) HR4.out (by omega) HB4.out.size ?_)
   intro v6 w6 hO6 hg6 _
   have HB6:=hid (Sp.below_grown HB4.out hg6 HB4.out.size (fun g hg=>(HO4.out.lt hg).1))
   obtain ⟨A6,c6,rfl,_,_⟩:=Sp.own_room hO6
   have HO6:=hid hO6
   have HBw:=hid (HB2.out.trans (HB6.out.mono HB2.out.size))
   clear hO6 hg6 HO4 HB4 HR4 hmk
   go_wp2_with fail
   refine (write_any A2 c2 ys w6 (RdM.more (HR.out w6 HB6.out) HB6.out.size) (fun x hx=>(HI.out w6 HB6.out x hx).more HB6.out.size) (by omega) (HG.out w6 HBw.out) BE (Nat.le_trans hBE HBw.out.size) (HE.out w6 HBw.out)).mono ?_
   rintro e w7 ⟨v7,rfl,ho7,_,hb7⟩
   obtain ⟨A7,c7,rfl,hr7,_,_⟩:=(ho7 HE0.out).rd HU.out
   rw [HE0.out]
   rw [HWL.out] at hr7 HU⊢
   have HR7:=hid hr7
   obtain ⟨A6',c6',e6,hr6,_,_⟩:=HO6.out.rd HU.out
   injection e6 with e6 e7 e8
   subst e6
   subst e8
   have HB7:=hid (HBw.out.trans (hb7.mono HBw.out.size))
   have HR67:=hid (fun V (hV:Below w7.heap.size w7 V)=>(show Sp.Rd V w6.heap.size A6 (L++Z).length (L++Z) from hr6.below (hb7.trans (hV.mono hb7.size))))
   clear hr7 ho7 hr6 hb7 HO6 HBw
   go_wp2_with fail
   refine (wr_known BE w7 (HG.out w7 HB7.out) (Nat.le_trans hBE HB7.out.size) (HE.out w7 HB7.out)).mono ?_
   rintro e w8 ⟨rfl,hb8⟩
   have HB8:=hid (HB7.out.trans (hb8.mono HB7.out.size))
   have hs1:=Sp.run_str (HR7.out.below hb8) c7
   have hs2:=Sp.run_str (HR67.out w8 hb8) c6
   generalize Sp.strOf (L++Z)=S at*
   rw [List.length_append] at hs1 hs2
   clear HR7 HR67 hb8 HG HE HU HWL
   go_wp2_with fail
   go_ret
   first
    |exact ⟨rfl,HB8.out⟩
    |exact HB8.out
    |exact ⟨by simp,HB8.out⟩
end Go.Proofs.YtgbgngdakkiclaaGreatDoor

/-! MtRow -/
namespace Go.Proofs.YtgbgngdakkiclaaGreatDoor
open Go.RowKit Go.WideShapes Go.ChangeShapes
section
variable {H:Type} {enc:TypeId × Value→H} {P:Program}
theorem post_of_below {f:Func} {s:ChangeSpec} {apart fresh handsOn again:Bool} {W W':World} {args:Array Value} {v:Value} {ds gs:List (DataW H)} {before pa pv:List MemPlace}
  (hW:DataW.Whole enc P f.params.toList s.vars apart W args.toList ds gs before)
  (hres: ∀ (b:Nat) (sp:Nat→Bool) (hd:Bool),DataW.TrodAll enc P W' b sp hd f.resultTypes.toList (v.resultList f.resultTypes.size) (s.fn H (ds++gs)).results [])
  (hargs: ∀ sp:Nat→Bool,(∀ p∈before,sp p.block=true)→DataW.TrodAll enc P W' 0 sp true f.params.toList args.toList (s.fn H (ds++gs)).args pa)
  (hvars: ∀ sp:Nat→Bool,(∀ p∈before,sp p.block=true)→DataW.TrodVars enc P W' sp s.vars (s.fn H (ds++gs)).vars pv)
  (hps:before=pa++pv) (hb:Below W.heap.size W W')
  (hok: ∀ (j:Nat) (t:TypeId) (r:Value),f.resultTypes[j]?=some t→(v.resultList f.resultTypes.size)[j]?=some r→Value.okWide P W' .any 0 t r):
  s.post enc P f apart fresh handsOn again W args v W':=by
 have hlt: ∀ p∈before,p.block<W.heap.size:=fun p hp=>hW.lt p hp
 have hold: ∀ p∈before,(fun b=>decide (b<W.heap.size)) p.block=true:=fun p hp=>by simpa using hlt p hp
 refine ⟨ds,gs,before, [],pa,pv,hW,hres _ _ _,hargs _ hold,hvars _ hold,World.keptBut_mono (fun p hp=>⟨hp, ?_⟩) (hb.frame (·∈before)),fun _=> ?_⟩
 ·rw [hps,List.mem_append] at hp
  exact Or.inr hp
 ·obtain ⟨_,_,_,_,_,hz,hn⟩:=hW
  refine ⟨hok,_,_,([]++pa)++pv,⟨[]++pa,pv,trodAll_append (hargs _ (fun _ _=>rfl)) (hres _ _ _),hvars _ (fun _ _=>rfl),rfl, ?_, ?_⟩, ?_⟩
  ·intro b off hp
   have hin:MemPlace.cell b off∈before:=by rw [hps];simpa using hp
   rw [hb.frozen (hlt _ hin)]
   exact hz b off hin
  ·intro ha
   have:=hn ha
   rw [hps] at this
   simpa using this
  ·intro p hp _
   rw [hps]
   simpa using hp
end
theorem rd_of_row {w:World} {a:Option Addr} {len cap:Nat} {zs:List Int}
  (h:(a=none∧len=0∧cap=0∧zs= [])∨
   ∃ x,a=some x∧len≤cap∧cap≤maxLen∧zs.length=cap∧(∀ i,i<zs.length→w.cell? (x.add i)=some (.int .u8 (zs.getD i 0)))∧ ∀ n∈zs,(Lit.int .u8 n).wf=true):
  Sp.Rd w w.heap.size a len (zs.take len)∧len≤cap∧cap≤maxLen:=by
 rcases h with ⟨rfl,rfl,rfl,rfl⟩|⟨x,rfl,hl,hm,hz,hcell,hwz⟩
 ·exact ⟨Sp.Rd.none_,Nat.le_refl _,Nat.zero_le _⟩
 ·refine ⟨⟨by rw [List.length_take];omega,fun z hz'=>bounds_u8 (hwz z (List.mem_of_mem_take hz')),fun hn=> ?_⟩,hl,hm⟩
  obtain ⟨b,off,spot⟩:=x
  have hc:=hcell 0 (by omega)
  have hspot:spot=none:=by simpa [Addr.add] using World.cell?_spot hc
  subst hspot
  have hb:b<w.heap.size:=by
   have hc':=hc
   rw [show (⟨b,off,none⟩:Addr).add 0=⟨b,off,none⟩ from by simp [Addr.add]] at hc'
   exact World.block_lt_of_cell? _ _ hc'
  refine ⟨b,off,rfl,hb,fun j z hj=> ?_⟩
  rw [List.getElem?_take] at hj
  split at hj
  ·rename_i hjl
   have hjz:j<zs.length:=by omega
   have hcj:=hcell j hjz
   have e:(⟨b,off,none⟩:Addr).add j=⟨b,off+j,none⟩:=by
    unfold Addr.add
    split
    ·rename_i h0
     subst h0
     rfl
    ·rfl
   rw [e,List.getD_eq_getElem?_getD,hj] at hcj
   exact hcj
  ·cases hj
abbrev EV (B:Nat) (w:World):Prop:=Sp.EV B w
theorem star_: "*" ++ "errors.errorString" = "*errors.errorString" :=by decide
theorem ev_of (w:World) (laid:List (String × DataW Unit)) (a b c:String × DataW Unit) (t1 t2:List UInt8) (rest:List (String × DataW Unit))
  (hl:laid=a::b::("internal/strconv.uint64pow10",Lib.tabData .u64 Lib.pow10Tab)::c::("strconv.ErrRange", .iface "*errors.errorString" (.ptr (.agg [.lit (.string t1)])))::("strconv.ErrSyntax", .iface "*errors.errorString" (.ptr (.agg [.lit (.string t2)])))::rest)
  (hn:(laid.all fun x=>x.2.handleName?.isNone)=true) (h:laidMetH Tryz.prog laid w):EV w.heap.size w:=by
 rw [MakeChecks.laidMetH_plain _ _ _ hn,hl] at h
 have h2:=laidMet.tail (laidMet.tail h)
 have h4:=laidMet.tail (laidMet.tail h2)
 have h5:=laidMet.tail h4
 have hrow: ∀ u,Tryz.prog.typeName? 3 u=some "*errors.errorString" →u=253:=fun u h=>
  typeName_ptr_named (nm:= "errors.errorString") (by rw [star_];kernel_rfl) (by kernel_rfl) (by decide) u (by rw [star_];exact h)
 obtain ⟨a1,s1,hv1,_⟩:=laid_sentinel h4 (g:=7) (ti:=70) (tp:=253) (te:=255) (ts:=9) (by kernel_rfl) (by kernel_rfl) Tryz.underlying70 hrow Tryz.underlying253 Tryz.underlying255 rfl rfl Tryz.underlying9 (by kernel_rfl) (by kernel_rfl)
 obtain ⟨a2,s2,hv2,_⟩:=laid_sentinel h5 (g:=6) (ti:=70) (tp:=253) (te:=255) (ts:=9) (by kernel_rfl) (by kernel_rfl) Tryz.underlying70 hrow Tryz.underlying253 Tryz.underlying255 rfl rfl Tryz.underlying9 (by kernel_rfl) (by kernel_rfl)
 have c1:=World.var?_cell (g:=7) (by kernel_rfl) hv1 0
 have c2:=World.var?_cell (g:=6) (by kernel_rfl) hv2 0
 exact ⟨Lib.tabBelow_of_tabIs (Lib.tabIs_of_head (g:=2) (by kernel_rfl) (by kernel_rfl) Tryz.underlying205 Tryz.underlying185 (by kernel_rfl) (by kernel_rfl) h2),
  ⟨World.block_lt_of_cell? _ _ c2,_,_,c2⟩,⟨World.block_lt_of_cell? _ _ c1,_,_,c1⟩⟩
end Go.Proofs.YtgbgngdakkiclaaGreatDoor

/-! WrRow -/
namespace Go.Proofs.YtgbgngdakkiclaaGreatDoor
open Go.RowKit Go.WideShapes Go.ChangeShapes
theorem mapM_len {α β:Type} {f:α→Option β} : ∀ {l:List α} {r:List β},l.mapM f=some r→r.length=l.length
 | [],r,h=>by cases h;rfl
 |x::l,r,h=>by
  rw [List.mapM_cons] at h
  obtain ⟨y,-,h⟩:=Option.mem_bind_iff.1 h
  obtain ⟨ys,hys,h⟩:=Option.mem_bind_iff.1 h
  cases h
  exact congrArg Nat.succ (mapM_len hys)
abbrev MG (w:World):Prop:=Hd.MG w
theorem cells_of_texts {H:Type} {enc:TypeId × Value→H} {P:Program} {w:World} {base:Nat} {sp:Nat→Bool} {held:Bool} {fuel:Nat} {t e:TypeId} {n:Nat} {cs:List Value} {ss:List (List UInt8)} {p:List MemPlace}
  (ht:P.underlying t=some (.array n e)) (he:P.underlying e=some .string) (hce:P.cellsOf e=1) (hct:P.cellsOf t=n)
  (h:DataW.trod enc P w base sp held fuel t cs=some (.agg (ss.map fun s=> .lit (.string s)),p)):cs=ss.map fun s=>Value.string ⟨s.toArray⟩:=by
 cases fuel with
 |zero=>simp [DataW.trod] at h
 |succ fuel=>
  simp only [DataW.trod,ht,hce,hct,Nat.mul_one] at h
  split at h
  ·rename_i hl
   obtain ⟨xs,hm,hx⟩:=Option.map_eq_some_iff.1 h
   have hxs:xs.map (·.1)=ss.map fun s=>(DataW.lit (.string s):DataW H):=by
    have:=congrArg Prod.fst hx
    simpa using this
   have hxl:xs.length=n:=by simpa using mapM_len hm
   have hzl:ss.length=n:=by
    have:=congrArg List.length hxs
    simp at this
    omega
   apply List.ext_getElem?
   intro i
   by_cases hi:i<n
   ·obtain ⟨b,hb,hf⟩:=Lib.mapM_at hm i i (by simp [hi])
    obtain ⟨s,hc,rfl,_⟩:=DataW.trod_string he hf
    have h1:cs[i]?=some (.string s):=by
     have:=congrArg (·[0]?) hc
     simpa [List.getElem?_take,List.getElem?_drop] using this
    have h2:(xs.map (·.1))[i]?=some (DataW.lit (.string s.data.toList):DataW H):=by simp [hb]
    rw [hxs] at h2
    simp only [List.getElem?_map,Option.map_eq_some_iff,DataW.lit.injEq,Lit.string.injEq] at h2
    obtain ⟨s',hs',e'⟩:=h2
    rw [h1,List.getElem?_map,hs',e']
    rfl
   ·rw [List.getElem?_eq_none (by omega),List.getElem?_eq_none (by simp;omega)]
  ·cases h
theorem mg_of7 (w:World) (laid rest:List (String × DataW Unit)) (a b c d e f g:String × DataW Unit)
  (hl:laid=a::b::c::d::e::f::g::("mudlark/head.magics", .agg (([[0,0,0,0,0,0,0,0], [117,115,116,97,114,0,48,48], [117,115,116,97,114,32,32,0]]:List (List UInt8)).map fun s=> .lit (.string s)))::rest)
  (hn:(laid.all fun x=>x.2.handleName?.isNone)=true) (h:laidMetH Tryz.prog laid w):Hd.MG w:=by
 rw [MakeChecks.laidMetH_plain _ _ _ hn,hl] at h
 replace h:=laidMet.tail (laidMet.tail (laidMet.tail (laidMet.tail (laidMet.tail (laidMet.tail (laidMet.tail h))))))
 obtain ⟨ps,⟨g',t',cs,fuel,p,q,hg',ht',hvar,hd,_,_⟩,_⟩:=h
 have hg:Tryz.prog.globalNamed "mudlark/head.magics" =some 1:=by kernel_rfl
 have hty:(Tryz.prog.globals[1]?).map (·.type)=some 160:=by kernel_rfl
 obtain rfl:=Option.some.inj (hg.symm.trans hg')
 obtain rfl:=Option.some.inj (hty.symm.trans ht')
 have hcs:=cells_of_texts Tryz.underlying160 Tryz.underlying9 (by kernel_rfl) (by kernel_rfl) hd
 have hc:=fun off=>World.var?_cell hg hvar off
 have hx:=fun off=>(hc off).trans (show cs[off]?=_ by rw [←Array.getElem?_toList,hcs])
 exact ⟨(hx 0).trans rfl,(hx 1).trans rfl,(hx 2).trans rfl⟩
end Go.Proofs.YtgbgngdakkiclaaGreatDoor
