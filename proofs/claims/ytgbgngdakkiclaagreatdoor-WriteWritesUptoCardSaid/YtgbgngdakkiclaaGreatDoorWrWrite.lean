import Derived.Test.YtgbgngdakkiclaaGreatDoorWrGrow
import Derived.Laws.CopyRow
set_option linter.unusedVariables false
set_option linter.unusedSimpArgs false
namespace Go.Proofs.YtgbgngdakkiclaaGreatDoor
open Go.RowKit Go.Lib
def Far (w:World) (b p:Nat):Prop:= ∀ a n c,w.cell? ⟨b,0,none⟩=some (.slice (some a) n c)→a.block≠p
def Kp (b:Nat) (w w':World):Prop:= ∀ p,p<w.heap.size→p≠b→Far w b p→w'.heap[p]?=w.heap[p]?∧Far w' b p
theorem Kp.trans {b:Nat} {w w' w'':World} (h:Kp b w w') (k:Kp b w' w'') (hs:w.heap.size≤w'.heap.size):Kp b w w'':=fun p hp hb hf=>by
 obtain ⟨e1,f1⟩:=h p hp hb hf
 obtain ⟨e2,f2⟩:=k p (Nat.lt_of_lt_of_le hp hs) hb f1
 exact ⟨e2.trans e1,f2⟩
theorem Kp.below {b:Nat} {w w':World} (h:Below w.heap.size w w') (hb:b<w.heap.size):Kp b w w':=fun p hp _ hf=>⟨h.block p hp,fun a n c hc=>hf a n c (by rw [←hc];exact (h.cell (p:=⟨b,0,none⟩) hb).symm)⟩
theorem far_of {w:World} {B b p:Nat} {zs:List Int} (h:Buf w B b zs) (hp:w.heap.size≤p):Far w b p:=by
 intro a n c hc e
 obtain ⟨A,cap,lr,h3,h1,h2,hown,hne⟩:=h.open
 have c0:=h3.c0
 rw [hc] at c0
 injection c0 with c0
 injection c0 with e1 e2 e3
 subst e1
 have:=hown.lt (g:=a.block) rfl
 omega
theorem ok_of_kp {w w':World} {B b:Nat} {zs:List Int} (h:Buf w B b zs) (hk:Kp b w w'):Lib.OthersKept 5 (some b) w w':=by
 intro k o ho hkb hno
 have hlt:k<w.heap.size:=(Array.getElem?_eq_some_iff.1 ho).1
 refine (hk k hlt (fun e=>hkb (by rw [e])) ?_).1.trans ho
 intro a n c hc e
 obtain ⟨A,cap,lr,h3,h1,h2,hown,hne⟩:=h.open
 have c0:=h3.c0
 rw [hc] at c0
 injection c0 with c0
 injection c0 with e1 e2 e3
 subst e1
 rcases hown.2 with ⟨hv,_⟩|⟨g,cp,cur,hv,_,hg,_⟩
 ·cases hv
 ·injection hv with hv
  injection hv with hv
  subst hv
  rw [←e,hg] at ho
  injection ho with ho
  exact hno cur (0,0) ho.symm
theorem u8_info1:(Tryz.prog.info? 5).map (·.size)=some 1:=by
 obtain ⟨i0,hi,_,hz1,_⟩:=info_parts Sp.u8_parts
 rw [hi]
 simp [hz1]
theorem kp_row {b G L cap2:Nat} {lr:Int} {w W:World} (TW:LibA.Three W b 0 60 (fun _=>none) (.slice (some ⟨G,0,none⟩) L cap2) (.int .i64 0) (.int .i8 lr)) (hGb:G≠b) (hg: ∀ p,p<w.heap.size→p≠b→Far w b p→W.heap[p]?=w.heap[p]?∧p≠G) (X:Array Value):Kp b w (W.setRow G X):=by
 intro p hp hb hf
 obtain ⟨e,hpG⟩:=hg p hp hb hf
 refine ⟨(setRow_other W G p X hpG).trans e, ?_⟩
 intro a n c hc
 rw [cell_setRow_other _ _ _ _ (Ne.symm hGb),TW.c0] at hc
 injection hc with hc
 injection hc with e1
 injection e1 with e1
 rw [←e1]
 exact Ne.symm hpG
set_option maxRecDepth 100000 in
set_option maxHeartbeats 4000000 in
theorem bufWriteF {w:World} {B b s:Nat} {zs news:List Int} (h:Buf w B b zs) (hB:B≤w.heap.size) (hr:Sp.Rd w w.heap.size (some ⟨s,0,none⟩) 512 news) (hsb:s≠b) (hsf:Far w b s) (hlim:zs.length≤10000000000):
  Calls Tryz.prog 26 #[.pointer (some ⟨b,0,none⟩), .slice (some ⟨s,0,none⟩) 512 512] w fun e w'=>e= .returned (.tuple #[.int .i64 512, .nilIface])∧Buf w' B b (zs++news)∧Below B w w'∧Kp b w w':=by
 have hlt:=h.lt
 have HN:=hid hr.len
 have hssz:s<w.heap.size:=by
  obtain ⟨b',off,e,hb,_⟩:=hr.2.2 (by decide)
  injection e with e
  injection e with e1 e2
  omega
 have hsrc: ∀ j v,(Sp.bcells news)[j]?=some v→w.cell? ((⟨s,0,none⟩:Addr).add j)=some v:=fun j v hv=>by
  obtain ⟨b',off,e,_,hc⟩:=hr.2.2 (by decide)
  injection e with e
  injection e with e1 e2
  subst e1 e2
  have hj:j<news.length:=by have:=(List.getElem?_eq_some_iff.1 hv).1;rwa [Sp.bcells_len] at this
  have hv2:(Sp.bcells news)[j]?=some (.int .u8 news[j]):=by simp [Sp.bcells,List.getElem?_eq_getElem hj]
  rw [hv2] at hv
  injection hv with hv
  rw [←hv,Addr.add_mid]
  exact hc j _ (List.getElem?_eq_getElem hj)
 obtain ⟨hBb,lr,hc⟩:=LibA.IsBuffer.cases h
 rcases hc with ⟨hnil,h3⟩|⟨g,cap,cur,h3,hBg,hg,hnc,hcm,hcs,htk,hgb⟩
 ·have hz:zs= []:=by
   cases zs with
   |nil=>rfl
   |cons a l=>cases hnil
  subst hz
  have c2:w.cell? ⟨b,2,none⟩=_:=h3.c2
  have f2:=h3.f 2
  have h31:LibA.Three (w.setCell ⟨b,2,none⟩ (.int .i8 0)) b 0 60 (fun _=>none) (.slice none 0 0) (.int .i64 0) (.int .i8 0):=h3.set2 (.int .i8 0)
  have hG1:=Lib.grownBy_setCell w b 2 (.int .i8 0)
  have hsz1:(w.setCell ⟨b,2,none⟩ (.int .i8 0)).heap.size=w.heap.size:=by simp
  have c0':=h31.c0
  have f0':=h31.f 0
  have HT:=hid (Tryz.Buffer_tryGrow_none_at b 0 none 0 0 512 (w.setCell ⟨b,2,none⟩ (.int .i8 0)) c0' (by omega) (by unfold maxLen at*;omega) (by omega))
  have HGr:=hid (growNil (n:=512) (lr:=0) (by decide) (by decide) h31)
  clear h3 h31 c0' f0'
  clear h
  go_enter Tryz.func26,Tryz.ntmps26
  go_wp2_with fail
  refine HT.out.mono ?_
  rintro e w2 ⟨rfl,rfl⟩
  go_wp2_with fail
  refine HGr.out.mono ?_
  rintro e W ⟨rfl,G,cap2,C,hGlo,TW,hGW,hCs,hroomX,hcm2,hgW⟩
  unfold maxLen at hcm2
  have hgW':=Lib.grownBy_trans hG1 hgW
  have hGb:G≠b:=by omega
  have hBG:B≤G:=by omega
  have hroom2:0+512≤cap2:=by omega
  have htake:C.toList.take 0=Sp.bcells []:=rfl
  have hsrcW: ∀ j v,(Sp.bcells news)[j]?=some v→W.cell? ((⟨s,0,none⟩:Addr).add j)=some v:=fun j v hj=>hgW'.cell (hsrc j v hj) (by rw [Lib.block_add];exact fun e=>hsb (Option.some.inj e))
  have HBW:=hid (Sp.below_grown (Below.refl B w) hgW' hB (fun k hk=>by injection hk with hk;omega))
  have hKf:=fun (X:Array Value)=>kp_row (w:=w) TW hGb (fun p hp hb hf=>⟨hgW'.block p hp (fun e=>hb (Option.some.inj e)),by omega⟩) X
  clear HT HGr
  have d0:=TW.c0
  have hcp:=run_copy_row (P:=Tryz.prog) W 22 22 3 5 G 0 512 (cap2 - 0) ⟨s,0,none⟩ 512 512 C 5 (Sp.bcells news) Tryz.underlying22 u8_info1 hGW (by rw [Sp.bcells_len,HN.out];rfl) hsrcW (by rw [Sp.bcells_len,HN.out,hCs];omega) (Sp.bcells_one _)
  rw [Sp.bcells_len,HN.out] at hcp
  have hne2: ¬ cap2=0:=by omega
  obtain ⟨r1,r2⟩:=LibA.written_end (e:=5) (R:=fun _=>none) (news:=Sp.bcells news) (l:=0) hBb (by rw [Sp.bcells_len,HN.out];exact TW) hBG hGW (by unfold maxLen;omega) hCs hGb (by rw [Sp.bcells_len,HN.out];exact hroom2)
  rw [htake,Sp.bcells_len,HN.out] at r1 r2
  rw [htake] at hcp
  obtain ⟨X,hX⟩: ∃ X,X=(Sp.bcells []++Sp.bcells news++List.drop (0+512) C.toList).toArray:=⟨_,rfl⟩
  rw [←hX] at hcp r1 r2
  rw [Nat.sub_zero] at hcp
  clear hX
  have HR1:=hid r1
  have HR2:=hid r2
  have HKW:=hid hKf
  clear r1 r2
  go_wp2_with fail
  go_ret2
  refine ⟨rfl, ?_, ?_,HKW.out _⟩
  ·unfold Buf
   first
   |exact HR1.out
   |(rw [Sp.bcells_app];exact HR1.out)
  ·exact HBW.out.trans HR2.out
 ·rw [Sp.bcells_len] at h3 hnc htk
  have hsg:s≠g:=fun e=>hsf ⟨g,0,none⟩ _ _ h3.c0 e.symm
  by_cases hroom:512≤cap - zs.length
  ·skip
   have c2:w.cell? ⟨b,2,none⟩=_:=h3.c2
   have f2:=h3.f 2
   have h31:LibA.Three (w.setCell ⟨b,2,none⟩ (.int .i8 0)) b 0 60 (fun _=>none) (.slice (some ⟨g,0,none⟩) zs.length cap) (.int .i64 0) (.int .i8 0):=h3.set2 (.int .i8 0)
   have hG1:=Lib.grownBy_setCell w b 2 (.int .i8 0)
   have hsz1:(w.setCell ⟨b,2,none⟩ (.int .i8 0)).heap.size=w.heap.size:=by simp
   have c0':=h31.c0
   have f0':=h31.f 0
   have HT:=hid (Tryz.Buffer_tryGrow_room_at b 0 (some ⟨g,0,none⟩) zs.length cap 512 (w.setCell ⟨b,2,none⟩ (.int .i8 0)) c0' f0' hnc hcm (by omega))
   have hTW:=h31.set0 (.slice (some ⟨g,0,none⟩) (zs.length+512) cap)
   have hc00:=h3.c0
   clear h3 h31 c0' f0'
   clear h
   go_enter Tryz.func26,Tryz.ntmps26
   go_wp2_with fail
   refine HT.out.mono ?_
   rintro e W ⟨rfl,hW⟩
   rw [←hW] at hTW
   have TW:=hTW
   have hGW:W.heap[g]?=some (.cells cur 5 (0,0)):=by rw [hW];exact (Below.heap_setCell _ _ _ _ hgb).trans ((Below.heap_setCell _ _ _ _ hgb).trans hg)
   have hgW':w.grownBy W (some b):=by rw [hW];exact Lib.grownBy_setB hG1 0 _
   have hroom2:zs.length+512≤cap:=by omega
   have hCs:=hcs
   have hBG:=hBg
   have hGb:=hgb
   have htake:=htk
   unfold maxLen at hcm
   have hcm2:=hcm
   have hsrcW: ∀ j v,(Sp.bcells news)[j]?=some v→W.cell? ((⟨s,0,none⟩:Addr).add j)=some v:=fun j v hj=>hgW'.cell (hsrc j v hj) (by rw [Lib.block_add];exact fun e=>hsb (Option.some.inj e))
   have HBW:=hid (Sp.below_grown (Below.refl B w) hgW' hB (fun k hk=>by injection hk with hk;omega))
   have hKf:=fun (X:Array Value)=>kp_row (w:=w) TW hGb (fun p hp hb hf=>⟨hgW'.block p hp (fun e=>hb (Option.some.inj e)),fun e=>hf ⟨g,0,none⟩ _ _ hc00 e.symm⟩) X
   clear HT hW hTW hc00
   have d0:=TW.c0
   have hcp:=run_copy_row (P:=Tryz.prog) W 22 22 3 5 g zs.length 512 (cap - zs.length) ⟨s,0,none⟩ 512 512 cur 5 (Sp.bcells news) Tryz.underlying22 u8_info1 hGW (by rw [Sp.bcells_len,HN.out];rfl) hsrcW (by rw [Sp.bcells_len,HN.out,hCs];omega) (Sp.bcells_one _)
   rw [Sp.bcells_len,HN.out] at hcp
   have hne2: ¬ cap=zs.length:=by omega
   obtain ⟨r1,r2⟩:=LibA.written_end (e:=5) (R:=fun _=>none) (news:=Sp.bcells news) (l:=zs.length) hBb (by rw [Sp.bcells_len,HN.out];exact TW) hBG hGW (by unfold maxLen;omega) hCs hGb (by rw [Sp.bcells_len,HN.out];exact hroom2)
   rw [htake,Sp.bcells_len,HN.out] at r1 r2
   rw [htake] at hcp
   obtain ⟨X,hX⟩: ∃ X,X=(Sp.bcells zs++Sp.bcells news++List.drop (zs.length+512) cur.toList).toArray:=⟨_,rfl⟩
   rw [←hX] at hcp r1 r2
   clear hX
   have HR1:=hid r1
   have HR2:=hid r2
   have HKW:=hid hKf
   clear r1 r2
   go_wp2_with fail
   go_ret2
   refine ⟨rfl, ?_, ?_,HKW.out _⟩
   ·unfold Buf
    first
    |exact HR1.out
    |(rw [Sp.bcells_app];exact HR1.out)
   ·exact HBW.out.trans HR2.out
  ·have hcap:cap≤100000000000:=by omega
   have c2:w.cell? ⟨b,2,none⟩=_:=h3.c2
   have f2:=h3.f 2
   have h31:LibA.Three (w.setCell ⟨b,2,none⟩ (.int .i8 0)) b 0 60 (fun _=>none) (.slice (some ⟨g,0,none⟩) zs.length cap) (.int .i64 0) (.int .i8 0):=h3.set2 (.int .i8 0)
   have hG1:=Lib.grownBy_setCell w b 2 (.int .i8 0)
   have hsz1:(w.setCell ⟨b,2,none⟩ (.int .i8 0)).heap.size=w.heap.size:=by simp
   have c0':=h31.c0
   have f0':=h31.f 0
   have HT:=hid (Tryz.Buffer_tryGrow_none_at b 0 (some ⟨g,0,none⟩) zs.length cap 512 (w.setCell ⟨b,2,none⟩ (.int .i8 0)) c0' (by omega) (by unfold maxLen at*;omega) (by omega))
   have HGr:=hid (growRow (n:=512) (lr:=0) (by decide) (by decide) g zs.length cap cur ((Below.heap_setCell w ⟨b,2,none⟩ _ g hgb).trans hg) hcs hnc hcap hgb (by rw [htk];exact Sp.bcells_one _) (by omega) h31)
   clear h3 h31 c0' f0'
   clear h
   go_enter Tryz.func26,Tryz.ntmps26
   go_wp2_with fail
   refine HT.out.mono ?_
   rintro e w2 ⟨rfl,rfl⟩
   go_wp2_with fail
   refine HGr.out.mono ?_
   rintro e W ⟨rfl,G,cap2,C,hGlo,TW,hGW,hCs,⟨htk2,hroom2⟩,hcm2,hgW⟩
   unfold maxLen at hcm2
   have hgW':=Lib.grownBy_trans hG1 hgW
   have hGb:G≠b:=by omega
   have hBG:B≤G:=by omega
   have htake:C.toList.take zs.length=Sp.bcells zs:=htk2.trans htk
   have hsrcW: ∀ j v,(Sp.bcells news)[j]?=some v→W.cell? ((⟨s,0,none⟩:Addr).add j)=some v:=fun j v hj=>hgW'.cell (hsrc j v hj) (by rw [Lib.block_add];exact fun e=>hsb (Option.some.inj e))
   have HBW:=hid (Sp.below_grown (Below.refl B w) hgW' hB (fun k hk=>by injection hk with hk;omega))
   have hKf:=fun (X:Array Value)=>kp_row (w:=w) TW hGb (fun p hp hb hf=>⟨hgW'.block p hp (fun e=>hb (Option.some.inj e)),by omega⟩) X
   clear HT HGr
   have d0:=TW.c0
   have hcp:=run_copy_row (P:=Tryz.prog) W 22 22 3 5 G zs.length 512 (cap2 - zs.length) ⟨s,0,none⟩ 512 512 C 5 (Sp.bcells news) Tryz.underlying22 u8_info1 hGW (by rw [Sp.bcells_len,HN.out];rfl) hsrcW (by rw [Sp.bcells_len,HN.out,hCs];omega) (Sp.bcells_one _)
   rw [Sp.bcells_len,HN.out] at hcp
   have hne2: ¬ cap2=zs.length:=by omega
   obtain ⟨r1,r2⟩:=LibA.written_end (e:=5) (R:=fun _=>none) (news:=Sp.bcells news) (l:=zs.length) hBb (by rw [Sp.bcells_len,HN.out];exact TW) hBG hGW (by unfold maxLen;omega) hCs hGb (by rw [Sp.bcells_len,HN.out];exact hroom2)
   rw [htake,Sp.bcells_len,HN.out] at r1 r2
   rw [htake] at hcp
   obtain ⟨X,hX⟩: ∃ X,X=(Sp.bcells zs++Sp.bcells news++List.drop (zs.length+512) C.toList).toArray:=⟨_,rfl⟩
   rw [←hX] at hcp r1 r2
   clear hX
   have HR1:=hid r1
   have HR2:=hid r2
   have HKW:=hid hKf
   clear r1 r2
   go_wp2_with fail
   go_ret2
   refine ⟨rfl, ?_, ?_,HKW.out _⟩
   ·unfold Buf
    first
    |exact HR1.out
    |(rw [Sp.bcells_app];exact HR1.out)
   ·exact HBW.out.trans HR2.out
end Go.Proofs.YtgbgngdakkiclaaGreatDoor
