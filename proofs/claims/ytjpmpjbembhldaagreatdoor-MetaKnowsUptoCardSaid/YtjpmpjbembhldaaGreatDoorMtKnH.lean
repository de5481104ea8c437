import Derived.Test.YtjpmpjbembhldaaGreatDoorStepZ
import Derived.Test.YtjpmpjbembhldaaGreatDoorMtKnZ
import Derived.Test.YtjpmpjbembhldaaGreatDoorKRq
import Derived.Test.YtjpmpjbembhldaaGreatDoorMtDig
import Derived.Test.YtjpmpjbembhldaaGreatDoorMtRefE
import Derived.Test.YtjpmpjbembhldaaGreatDoorMtFromZ
import Derived.Test.YtjpmpjbembhldaaGreatDoorMtRefZ
set_option linter.unusedVariables false
set_option linter.unusedSimpArgs false
namespace Go.Proofs.YtjpmpjbembhldaaGreatDoor
open Go.RowKit Go.Lib
open Px (R2 tl rcs RdR OwnR)
attribute [local go_sem ↓] add_plain
theorem results_holes {tmps:Array Value} {g:Nat} {m:M.Met} {pv ev:Value} {b:Bool} {w:World} (hb:MB w g m pv ev) (h2:tmps.getD 8 undef= .pointer (some ⟨g,0,none⟩)) (h3:tmps.getD 9 undef= .bool b):
  (results Tryz.f43 tmps).run Tryz.prog w= .ok (.tuple #[.agg (mcells m pv ev), .bool b]) w:=by
 rw [Array.getD_eq_getD_getElem?] at h2 h3
 have hl:=run_loadVar_row (P:=Tryz.prog) w g 45 45 (mcells m pv ev) (0,0) _ hb Tryz.underlying45 rfl met_size
 simp [results,Tryz.results43,h2,h3,asAddr,hl]
def HolesTo (o:Option M.Met) (w:World) (e:Ending) (w':World):Prop:=
 ∃ m' P n c,e= .returned (.tuple #[.agg (mcells m' (.slice P n c) (.slice none 0 0)), .bool o.isSome])∧Below w.heap.size w w'∧ ∀ d,o=some d→m'=d∧Sp.OwnP w' w.heap.size (.slice P n c) d.parts
theorem find_small5: ∀ {l:List R2} (k:List UInt8) (h: ∀ r∈l,r.2.size≤100000),((Px.M.find (Px.rcs l) k).getD []).length≤100000
 | [],k,h=>by simp [Px.rcs,Px.M.find_nil]
 |r::l,k,h=>by
  have ih:=find_small5 (l:=l) k (fun x hx=>h x (List.mem_cons_of_mem _ hx))
  have h0:=h r List.mem_cons_self
  have e:Px.rcs (r::l)=Px.rc r::Px.rcs l:=rfl
  rw [e,Px.M.find_cons]
  cases hf:Px.M.find (Px.rcs l) k with
  |none=>
   by_cases hk:(Px.rc r).1=k
   ·rw [if_pos hk]
    have:(tl r.2).length≤100000:=by simpa [tl,Px.tl] using h0
    exact this
   ·rw [if_neg hk]
    simp
  |some v=>rw [hf] at ih;exact ih
theorem met_zero:mcells {} (.slice none 0 0) (.slice none 0 0)= #[.string ⟨#[]⟩, .string ⟨#[]⟩, .int .u8 0, .int .i64 0, .int .i64 0, .int .i64 0, .string ⟨#[]⟩, .string ⟨#[]⟩, .int .i64 0, .int .i64 0, .int .i64 0, .int .i64 0, .int .i64 0, .int .i64 0, .bool false, .slice none 0 0, .slice none 0 0]:=rfl
def digN (m:M.Met):M.Met:= { m with real:=m.size }
def digS (m:M.Met) (L:List (Int × Int)) (r:Int):M.Met:= { m with holes:=true,parts:=M.some_ L,real:=r }
theorem MB.store {w:World} {g:Nat} {m0:M.Met} {p0 e0:Value} (hb:MB w g m0 p0 e0) (m:M.Met) (A B:Option Addr) (n c n2 c2:Nat):
  Sem.run Tryz.prog (storeCells ⟨g,0,none⟩ (mcells m (.slice A n c) (.slice B n2 c2)).toList) w= .ok () (w.setRow g (mcells m (.slice A n c) (.slice B n2 c2))):=by
 have e:=store_row w g _ _ (mcells m (.slice A n c) (.slice B n2 c2)).toList hb rfl (by
  intro v hv
  have:=mcells_one m (pv:= .slice A n c) (ev:= .slice B n2 c2) rfl rfl
  rw [Array.all_eq_true'] at this
  exact this v (by simpa using hv))
 rw [show (mcells m (.slice A n c) (.slice B n2 c2)).toList.toArray=mcells m (.slice A n c) (.slice B n2 c2) from rfl] at e
 exact e
structure KH (w W:World) (m:M.Met) (pv:Value) (h:M.Hdr) (hv:Value):Prop where
 below:Below w.heap.size w W
 met:MB W w.heap.size m pv (.slice none 0 0)
 hdr:HB W (w.heap.size+1) h hv
 res:MB W (w.heap.size+2) {} (.slice none 0 0) (.slice none 0 0)
 size:w.heap.size+3≤W.heap.size
section
variable {w W W':World} {m m':M.Met} {pv pv' hv:Value} {h:M.Hdr}
theorem KH.later (p:KH w W m pv h hv) (hb:Below W.heap.size W W'):KH w W' m pv h hv:=
 have hs:=p.size
 ⟨p.below.trans (hb.mono p.below.size),p.met.below hb (by omega),p.hdr.below hb (by omega),p.res.below hb (by omega),Nat.le_trans hs hb.size⟩
theorem KH.set (p:KH w W m pv h hv) (i:Nat) (v:Value) (e:(mcells m pv (.slice none 0 0)).set! i v=mcells m' pv' (.slice none 0 0)):KH w (W.setCell ⟨w.heap.size,i,none⟩ v) m' pv' h hv:=
 ⟨p.below.setCell (Nat.le_refl _) v,p.met.set i v e,p.hdr.other (by show w.heap.size+1≠w.heap.size;omega) v,p.res.other (by show w.heap.size+2≠w.heap.size;omega) v,by rw [World.size_setCell];exact p.size⟩
theorem KH.fin (p:KH w W m pv h hv):MB (W.setRow (w.heap.size+2) (mcells m pv (.slice none 0 0))) (w.heap.size+2) m pv (.slice none 0 0)∧Below w.heap.size w (W.setRow (w.heap.size+2) (mcells m pv (.slice none 0 0))):=
 ⟨setRow_heap _ _ _ _ _ _ p.res,below_setRow p.below (by omega) _⟩
end
set_option maxRecDepth 100000 in
set_option maxHeartbeats 4000000 in
theorem refHoles_any (m:M.Met) (h:M.Hdr) (l:List R2) (more:List (Int × Int)) (A Ah Am:Option Addr) (c ch cm:Nat) (w:World) (B:Nat) (hB:B≤w.heap.size) (ht:Sp.EV B w) (hk:m.kind=48) (hmp:m.parts= [])
  (hr:RdR w w.heap.size A l) (hl:l.length≤1048576) (hfit: ∀ r∈l,r.2.size≤100000) (hrh:Sp.RdP w w.heap.size Ah h.parts.length h.parts) (hmo:Sp.RdP w w.heap.size Am more.length more) (hn:h.parts.length≤400000∧more.length≤400000):
  Calls Tryz.prog 43 #[.agg (mcells m (.slice none 0 0) (.slice none 0 0)), .agg (hcells h (.slice Ah h.parts.length ch)), .slice A l.length c, .slice Am more.length cm] w (HolesTo (M.dig { m with real:=m.size } h (rcs l) more) w):=by
 have M1:=hid ((MB.new w m (.slice none 0 0) (.slice none 0 0)).alloc (.cells (hcells h (.slice Ah h.parts.length ch)) 24))
 have hw0:Below w.heap.size w ((w.alloc (.cells (mcells m (.slice none 0 0) (.slice none 0 0)) 45)).alloc (.cells (hcells h (.slice Ah h.parts.length ch)) 24)):=((Below.refl _ w).alloc (Nat.le_refl _) _).alloc (by simp) _
 have H1:=hid (show HB ((w.alloc (.cells (mcells m (.slice none 0 0) (.slice none 0 0)) 45)).alloc (.cells (hcells h (.slice Ah h.parts.length ch)) 24)) (w.heap.size+1) h (.slice Ah h.parts.length ch) by have:=HB.new (w.alloc (.cells (mcells m (.slice none 0 0) (.slice none 0 0)) 45)) h (.slice Ah h.parts.length ch);rwa [World.size_alloc] at this)
 have hsz:((w.alloc (.cells (mcells m (.slice none 0 0) (.slice none 0 0)) 45)).alloc (.cells (hcells h (.slice Ah h.parts.length ch)) 24)).heap.size=w.heap.size+2:=by rw [World.size_alloc,World.size_alloc]
 have HW:=hid hw0
 have HS:=hid hsz
 have HR:=hid (fun V (hV:Below w.heap.size w V)=>(hr.below hV).more hV.size)
 have HRH:=hid (fun V (hV:Below w.heap.size w V)=>(hrh.below hV).more hV.size)
 have HRM:=hid (fun V (hV:Below w.heap.size w V)=>(hmo.below hV).more hV.size)
 have HT:=hid (fun V (hV:Below w.heap.size w V)=>(ht.up hB).on hV)
 have HMP:=hid hmp
 clear hw0 hsz hr hrh hmo ht hmp
 obtain ⟨o,hdo⟩: ∃ o,M.dig { m with real:=m.size } h (rcs l) more=o:=⟨_,rfl⟩
 have HDO:=hid hdo
 rw [hdo]
 clear hdo
 go_enter Tryz.func43,Tryz.ntmps43
 go_upto_region 1 with fail
 generalize World.alloc (World.alloc w _) _=W2 at*
 have KB:=hid (show KH w (W2.alloc (.cells (mcells {} (.slice none 0 0) (.slice none 0 0)) 45)) m (.slice none 0 0) h (.slice Ah h.parts.length ch) from
  ⟨HW.out.alloc HW.out.size _,M1.out.alloc _,H1.out.alloc _,by have:=MB.new W2 {} (.slice none 0 0) (.slice none 0 0);rwa [HS.out] at this,by rw [World.size_alloc,HS.out];omega⟩)
 rw [met_zero] at KB
 clear HW M1 H1 HS
 generalize World.alloc W2 _=W at*
 have HFD:=hid (fun (V:World) (hV:Below w.heap.size w V) (k:ByteArray)=>Px.refFind_any A c l k hl V (HR.out V hV))
 clear HR
 go_wp2_with fail
 refine (HFD.out W KB.out.below ⟨#[71,78,85,46,115,112,97,114,115,101,46,109,97,112]⟩).mono ?_
 rintro e w1 ⟨t,b1,rfl,ht1,hb1,hw1⟩
 have K1:=hid (KB.out.later hw1)
 have T1:=hid ht1
 have E1:=hid hb1
 clear hw1 KB ht1 hb1
 go_wp2_with fail
 refine (HFD.out w1 K1.out.below ⟨#[71,78,85,46,115,112,97,114,115,101,46,115,105,122,101]⟩).mono ?_
 rintro e w2 ⟨s,b2,rfl,ht1,hb1,hw1⟩
 have K2:=hid (K1.out.later hw1)
 have T2:=hid ht1
 have E2:=hid hb1
 clear hw1 K1 ht1 hb1 HFD
 have k12:=K2.out.met.cell (i:=12) (v:= .int .i64 m.size) rfl
 have k13:=K2.out.met.cell (i:=13) (v:= .int .i64 m.real) rfl
 have f13:=K2.out.met.frozen 13
 have K3:=hid (K2.out.set 13 (.int .i64 m.size) (m':=digN m) (pv':= .slice none 0 0) rfl)
 go_upto_region 4 with fail
 clear k12 k13 f13 K2
 generalize World.setCell w2 _ _=W3 at*
 have hdig:o=(match Px.M.find (rcs l) (tl M.kMap),Px.M.find (rcs l) (tl M.kReal) with
   |none,none=>if h.kind=83 then some { { m with real:=m.size } with holes:=true,parts:=M.some_ (h.parts++more),real:=h.real } else some { m with real:=m.size }
   |some t,some s=>
    match Sp.M.parse t,M.dec s 1099511627776 with
    |some l,some n=>some { { m with real:=m.size } with holes:=true,parts:=M.some_ l,real:=n }
    |_,_=>none
   |_,_=>none):=by rw [←HDO.out];unfold M.dig;rw [if_pos hk];rfl
 have HDG:=hid hdig
 clear hk HDO
 have T1':=T1.out
 have T2':=T2.out
 have E1':=E1.out
 have E2':=E2.out
 clear T1 T2 E1 E2 hdig
 change tl t=(Px.M.find (rcs l) (tl M.kMap)).getD [] at T1'
 change b1=(Px.M.find (rcs l) (tl M.kMap)).isSome at E1'
 change tl s=(Px.M.find (rcs l) (tl M.kReal)).getD [] at T2'
 change b2=(Px.M.find (rcs l) (tl M.kReal)).isSome at E2'
 have ht1:t.size≤100000:=by
  have:=find_small5 (tl M.kMap) hfit
  rw [←T1'] at this
  simpa [tl,Px.tl] using this
 have ht2:s.size≤100000:=by
  have:=find_small5 (tl M.kReal) hfit
  rw [←T2'] at this
  simpa [tl,Px.tl] using this
 have HDG':=HDG
 clear HDG
 generalize Px.M.find (rcs l) (tl M.kMap)=o1 at*
 generalize Px.M.find (rcs l) (tl M.kReal)=o2 at*
 cases o1 with
 |none=>
  obtain rfl:b1=false:=E1'
  cases o2 with
  |none=>
   obtain rfl:b2=false:=E2'
   have k6:=K3.out.hdr.cell (i:=6) (v:= .int .u8 h.kind) rfl
   by_cases h83:h.kind=83
   ·have HD:=hid (show o=some (digS m (h.parts++more) h.real) from HDG'.out.trans (if_pos h83))
    have k14:=K3.out.hdr.cell (i:=14) (v:= .slice Ah h.parts.length ch) rfl
    go_upto_region 15 with (at_builtin;refine wpList_appPs rfl (.tmp 57) (.tmp 59) rfl W3.heap.size (.slice none 0 0) [] h.parts W3.heap.size Ah h.parts.length ch rfl (Sp.OwnP.nil _ _) (Nat.le_refl _) rfl (HRH.out W3 K3.out.below) (by simp) (by omega) ?_;intro v5 w5 o5 hb5)
    have K5:=hid (K3.out.later hb5.out)
    have B5:=hb5
    have O5:=o5
    rw [List.nil_append] at O5
    clear k6 k14 hb5 o5
    go_upto_region 16 with (at_builtin;refine wpList_appPs rfl (.tmp 61) (.tmp 62) rfl W3.heap.size v5 h.parts more w5.heap.size Am more.length cm rfl O5.out B5.out.size rfl (HRM.out w5 K5.out.below) (by omega) (by omega) ?_;intro v6 w6 o6 hb6)
    have K6:=hid (K3.out.later (B5.out.trans hb6.out))
    obtain ⟨L,hL⟩: ∃ L,h.parts++more=L:=⟨_,rfl⟩
    have hl6:L.length≤1048576:=by rw [←hL,List.length_append];omega
    rw [hL] at o6 HD
    clear hL
    obtain ⟨A6,c6,rfl,hr6,hc6⟩:=o6.out.rd
    have R6:=hid hr6
    clear hr6 hc6 hb6 o6 O5 B5 K5 K3
    go_wp2_with fail
    refine (some10_any A6 c6 L hl6 w6 R6.out).mono ?_
    rintro e w7 ⟨v7,rfl,o7,hb7⟩
    have K7:=hid (K6.out.later hb7)
    have O7:=hid (o7.lower (b':=w.heap.size+3) K6.out.size)
    clear o7 hb7 K6 R6 hl6
    have k15:=K7.out.met.cell (i:=15) (v:= .slice none 0 0) rfl
    have f15:=K7.out.met.frozen 15
    have K8:=hid (K7.out.set 15 v7 (m':= { digN m with parts:=M.some_ L }) (pv':=v7) rfl)
    have O8:=hid (O7.out.set (p:=⟨w.heap.size,15,none⟩) (by show w.heap.size<w.heap.size+3;omega) v7)
    obtain ⟨A7,c7,rfl,_,_⟩:=O7.out.rd
    obtain ⟨n7,hn7⟩: ∃ n,(M.some_ L).length=n:=⟨_,rfl⟩
    rw [hn7] at K8 O8⊢
    go_upto_region 17 with fail
    clear k15 f15 O7 K7
    generalize World.setCell w7 _ _=w8 at*
    have k16:=K8.out.hdr.cell (i:=16) (v:= .int .i64 h.real) rfl
    have k13:=K8.out.met.cell (i:=13) (v:= .int .i64 m.size) rfl
    have f13:=K8.out.met.frozen 13
    have K9:=hid (K8.out.set 13 (.int .i64 h.real) (m':= { m with parts:=M.some_ L,real:=h.real }) (pv':= .slice A7 n7 c7) rfl)
    have O9:=hid (O8.out.set (p:=⟨w.heap.size,13,none⟩) (by show w.heap.size<w.heap.size+3;omega) (.int .i64 h.real))
    go_upto_region 18 with fail
    clear k16 k13 f13 K8 O8
    generalize World.setCell w8 _ _=w9 at*
    have k14:=K9.out.met.cell (i:=14) (v:= .bool m.holes) rfl
    have f14:=K9.out.met.frozen 14
    have K10:=hid (K9.out.set 14 (.bool true) (m':=digS m L h.real) (pv':= .slice A7 n7 c7) rfl)
    have O10:=hid (O9.out.set (p:=⟨w.heap.size,14,none⟩) (by show w.heap.size<w.heap.size+3;omega) (.bool true))
    go_upto_region 19 with fail
    clear k14 f14 K9 O9
    generalize World.setCell w9 _ _=w10 at*
    go_wp2_with (first
     |(refine wpList_load_row rfl 45 (.tmp 4) rfl w.heap.size (by rfl) 45 (mcells (digS m L h.real) (.slice A7 n7 c7) (.slice none 0 0)) (0,0) _ K10.out.met Tryz.underlying45 rfl met_size ?_)
     |(refine wpList_store_row rfl 45 (.tmp 8) (.tmp 71) rfl (w.heap.size+2) (mcells (digS m L h.real) (.slice A7 n7 c7) (.slice none 0 0)) (by rfl) (by rfl) 45 _ K10.out.res met_size rfl (mcells_one _ rfl rfl) ?_))
    refine bodyPost_ret (results_holes K10.out.fin.1 rfl rfl) rfl ?_
    exact ⟨_,_,_,_,by rw [HD.out];rfl,K10.out.fin.2,fun d hd=>by rw [HD.out] at hd;cases hd;exact ⟨rfl,(ownP_setRow O10.out (by omega) _).lower (by omega)⟩⟩
   ·have HD:=hid (show o=some (digN m) from HDG'.out.trans (if_neg h83))
    go_wp2_with (first
     |(refine wpList_load_row rfl 45 (.tmp 4) rfl w.heap.size (by rfl) 45 (mcells (digN m) (.slice none 0 0) (.slice none 0 0)) (0,0) _ K3.out.met Tryz.underlying45 rfl met_size ?_)
     |(refine wpList_store_row rfl 45 (.tmp 8) (.tmp 71) rfl (w.heap.size+2) (mcells (digN m) (.slice none 0 0) (.slice none 0 0)) (by rfl) (by rfl) 45 _ K3.out.res met_size rfl (mcells_one _ rfl rfl) ?_))
    refine bodyPost_ret (results_holes K3.out.fin.1 rfl rfl) rfl ?_
    exact ⟨_,_,_,_,by rw [HD.out];rfl,K3.out.fin.2,fun d hd=>by rw [HD.out] at hd;cases hd;exact ⟨rfl,by rw [show (digN m).parts= [] from HMP.out];exact Sp.OwnP.nil _ _⟩⟩
  |some v2=>
   obtain rfl:b2=true:=E2'
   have HD:=hid (show o=none from HDG'.out)
   go_wp2_with (first
    |(refine wpList_load_row rfl 45 (.tmp 4) rfl w.heap.size (by rfl) 45 (mcells (digN m) (.slice none 0 0) (.slice none 0 0)) (0,0) _ K3.out.met Tryz.underlying45 rfl met_size ?_)
    |(refine wpList_store_row rfl 45 (.tmp 8) (.tmp 33) rfl (w.heap.size+2) (mcells (digN m) (.slice none 0 0) (.slice none 0 0)) (by rfl) (by rfl) 45 _ K3.out.res met_size rfl (mcells_one _ rfl rfl) ?_))
   refine bodyPost_ret (results_holes K3.out.fin.1 rfl rfl) rfl ?_
   exact ⟨_,_,_,_,by rw [HD.out];rfl,K3.out.fin.2,fun d hd=>by rw [HD.out] at hd;cases hd⟩
 |some v1=>
  obtain rfl:b1=true:=E1'
  cases o2 with
  |none=>
   obtain rfl:b2=false:=E2'
   have HD:=hid (show o=none from HDG'.out)
   go_wp2_with (first
    |(refine wpList_load_row rfl 45 (.tmp 4) rfl w.heap.size (by rfl) 45 (mcells (digN m) (.slice none 0 0) (.slice none 0 0)) (0,0) _ K3.out.met Tryz.underlying45 rfl met_size ?_)
    |(refine wpList_store_row rfl 45 (.tmp 8) (.tmp 33) rfl (w.heap.size+2) (mcells (digN m) (.slice none 0 0) (.slice none 0 0)) (by rfl) (by rfl) 45 _ K3.out.res met_size rfl (mcells_one _ rfl rfl) ?_))
   refine bodyPost_ret (results_holes K3.out.fin.1 rfl rfl) rfl ?_
   exact ⟨_,_,_,_,by rw [HD.out];rfl,K3.out.fin.2,fun d hd=>by rw [HD.out] at hd;cases hd⟩
  |some v2=>
   obtain rfl:b2=true:=E2'
   obtain rfl:tl t=v1:=T1'
   obtain rfl:tl s=v2:=T2'
   go_wp2_with fail
   refine (Sp.refParse_any t ht1 W3 ((HT.out W3 K3.out.below).up K3.out.below.size)).mono ?_
   rintro e w5 ⟨v5,rfl,o5,hb5⟩
   have K5:=hid (K3.out.later hb5)
   obtain ⟨q1,hq1⟩: ∃ q,Sp.M.parse (Sp.tl t)=q:=⟨_,rfl⟩
   have HLQ:=hid (show ∀ l,q1=some l→l.length≤1048576 from fun l hl=>parse_len (hq1.trans hl))
   rw [hq1] at o5⊢
   rw [show Sp.M.parse (tl t)=q1 from hq1] at HDG'
   have hl5:(q1.getD []).length≤1048576:=by
    cases q1 with
    |none=>exact Nat.zero_le _
    |some l=>exact HLQ.out l rfl
   obtain ⟨bq,hbq⟩: ∃ b,q1.isSome=b:=⟨_,rfl⟩
   obtain ⟨L,hL⟩: ∃ L,q1.getD []=L:=⟨_,rfl⟩
   rw [hL] at o5 hl5
   rw [hbq]
   obtain ⟨A5,c5,rfl,hr5,_⟩:=o5.rd
   have R5:=hid hr5
   have HBQ:=hid hbq
   have HLL:=hid hL
   clear hb5 hr5 o5 K3 hq1 hbq hL HLQ
   go_wp2_with fail
   refine (some10_any A5 c5 L hl5 w5 R5.out).mono ?_
   rintro e w7 ⟨v7,rfl,o7,hb7⟩
   have K7:=hid (K5.out.later hb7)
   have O7:=hid (o7.lower (b':=w.heap.size+3) K5.out.size)
   clear o7 hb7 K5 R5 hl5
   have k15:=K7.out.met.cell (i:=15) (v:= .slice none 0 0) rfl
   have f15:=K7.out.met.frozen 15
   have K8:=hid (K7.out.set 15 v7 (m':= { digN m with parts:=M.some_ L }) (pv':=v7) rfl)
   have O8:=hid (O7.out.set (p:=⟨w.heap.size,15,none⟩) (by show w.heap.size<w.heap.size+3;omega) v7)
   obtain ⟨A7,c7,rfl,_,_⟩:=O7.out.rd
   obtain ⟨n7,hn7⟩: ∃ n,(M.some_ L).length=n:=⟨_,rfl⟩
   rw [hn7] at K8 O8⊢
   go_upto_region 9 with fail
   clear k15 f15 O7 K7
   generalize World.setCell w7 _ _=w8 at*
   go_wp2_with fail
   refine (refDecimal_any s (Nat.le_trans ht2 (by decide)) 1099511627776 (by decide) w.heap.size w8 K8.out.below.size (HT.out w8 K8.out.below)).mono ?_
   rintro e w9 ⟨rfl,hb9⟩
   have K9:=hid (K8.out.later hb9)
   have O9:=hid (O8.out.later hb9)
   clear hb9 K8 O8
   obtain ⟨q2,hq2⟩: ∃ q,M.dec (tl s) 1099511627776=q:=⟨_,rfl⟩
   rw [hq2] at HDG'⊢
   have hdl: ∀ n,q2=some n→0≤n:=fun n hn=>M.dec_low (hq2.trans hn)
   obtain ⟨r,hrr⟩: ∃ r,q2.getD (-1)=r:=⟨_,rfl⟩
   rw [hrr]
   have HRR:=hid hrr
   have HDL:=hid hdl
   clear hq2 hrr hdl
   have k13:=K9.out.met.cell (i:=13) (v:= .int .i64 m.size) rfl
   have f13:=K9.out.met.frozen 13
   have K10:=hid (K9.out.set 13 (.int .i64 r) (m':= { m with parts:=M.some_ L,real:=r }) (pv':= .slice A7 n7 c7) rfl)
   have O10:=hid (O9.out.set (p:=⟨w.heap.size,13,none⟩) (by show w.heap.size<w.heap.size+3;omega) (.int .i64 r))
   go_upto_region 10 with fail
   clear k13 f13 K9 O9
   generalize World.setCell w9 _ _=w10 at*
   have k14:=K10.out.met.cell (i:=14) (v:= .bool m.holes) rfl
   have f14:=K10.out.met.frozen 14
   have K11:=hid (K10.out.set 14 (.bool true) (m':=digS m L r) (pv':= .slice A7 n7 c7) rfl)
   have O11:=hid (O10.out.set (p:=⟨w.heap.size,14,none⟩) (by show w.heap.size<w.heap.size+3;omega) (.bool true))
   go_upto_region 11 with fail
   clear k14 f14 K10 O10
   generalize World.setCell w10 _ _=W at*
   have HM:=hid (fun (V:World) (hV:Below W.heap.size W V)=>K11.out.later hV)
   have HD:=hid (show o=if (bq&&decide (0≤r))=true then some (digS m L r) else none by
    rw [HDG'.out,←HBQ.out,←HLL.out,←HRR.out]
    cases q1 with
    |none=>cases q2<;>rfl
    |some l=>
     cases q2 with
     |none=>rfl
     |some n=>
      have:=HDL.out n rfl
      show some _=if (true&&decide (0≤n))=true then _ else _
      rw [if_pos (by simpa using this)]
      rfl)
   clear HBQ HLL HRR HDL HDG'
   cases bq with
   |true=>
    refine wp_region_held_drew (S:=fun V=>MB V w.heap.size (digS m L r) (.slice A7 n7 c7) (.slice none 0 0)) (by kernel_rfl) K11.out.met (fun hS=> ?_)
    refine tkH 0 hS ?_ (v:= .agg (mcells (digS m L r) (.slice A7 n7 c7) (.slice none 0 0))) (hy:=fun W hW=>by exact run_row 45 (.tmp 4) rfl w.heap.size (by rfl) 45 _ (0,0) _ hW Tryz.underlying45 rfl met_size)
    refine tkH 1 hS ?_
    refine tkH 2 hS ?_
    refine tkH 3 hS ?_
    refine tkH 4 hS ?_ (hy:=fun W hW=>by have f0:=MB.cell hW (i:=13) (v:= .int .i64 r) rfl;clear hW;go_simp;first|done|with_reducible rfl)
    refine tkH 5 hS ?_
    refine tkH 6 hS ?_
    have KD:KH w W.drew (digS m L r) (.slice A7 n7 c7) h (.slice Ah h.parts.length ch):=⟨below_drew' K11.out.below,K11.out.met,K11.out.hdr,K11.out.res,K11.out.size⟩
    have ST:=KD.res.store (digS m L r) A7 none n7 c7 0 0
    have KF:=hid KD.fin
    have OF:=hid (ownP_setRow (g:=w.heap.size+2) (show Sp.OwnP W.drew (w.heap.size+3) (.slice A7 n7 c7) (M.some_ L) from O11.out) (by omega) (mcells (digS m L r) (.slice A7 n7 c7) (.slice none 0 0)))
    have hme:=setRow_other W.drew (w.heap.size+2) w.heap.size (mcells (digS m L r) (.slice A7 n7 c7) (.slice none 0 0)) (by omega)
    clear KD K11 O11
    generalize W.drew=V at*
    refine loneN (i:=7) rfl rfl (by kernel_rfl) (by rfl) (fun K hK=> ?_)
    go_simp
    refine hK.out _ _ (hS.of_block hme) (fun hS=> ?_)
    clear hK K
    try simp only [NM]
    clear ST hme
    refine tkH 8 hS ?_
    refine wpAnyH_done (by kernel_rfl) ?_ _
    try simp only [NM]
    by_cases h0:0≤r
    ·have HE:=hid (show o=some (digS m L r) by rw [HD.out];simp [h0])
     go_wp2_with fail
     refine bodyPost_ret (results_holes KF.out.1 rfl rfl) rfl ?_
     exact ⟨digS m L r,A7,n7,c7,by rw [HE.out];simp [h0],KF.out.2,fun d hd=>by rw [HE.out] at hd;cases hd;exact ⟨rfl,OF.out.lower (by omega)⟩⟩
    ·have HE:=hid (show o=none by rw [HD.out];simp [h0])
     go_wp2_with fail
     refine bodyPost_ret (results_holes KF.out.1 rfl rfl) rfl ?_
     exact ⟨digS m L r,A7,n7,c7,by rw [HE.out];simp [h0],KF.out.2,fun d hd=>by rw [HE.out] at hd;cases hd⟩
   |false=>
    refine wp_region_held_drew (S:=fun V=>MB V w.heap.size (digS m L r) (.slice A7 n7 c7) (.slice none 0 0)) (by kernel_rfl) K11.out.met (fun hS=> ?_)
    refine tkH 0 hS ?_ (v:= .agg (mcells (digS m L r) (.slice A7 n7 c7) (.slice none 0 0))) (hy:=fun W hW=>by exact run_row 45 (.tmp 4) rfl w.heap.size (by rfl) 45 _ (0,0) _ hW Tryz.underlying45 rfl met_size)
    refine tkH 1 hS ?_
    refine tkH 2 hS ?_
    refine skipH (i:=3) 50 rfl rfl (by kernel_rfl) (by kernel_rfl) (by kernel_rfl) (fun _ _ _ h=>h) (by rfl) hS ?_
    try simp only [NM]
    refine skipH (i:=4) 51 rfl rfl (by kernel_rfl) (by kernel_rfl) (by kernel_rfl) (fun _ _ _ h=>h) (by rfl) hS ?_
    try simp only [NM]
    refine skipH (i:=5) 52 rfl rfl (by kernel_rfl) (by kernel_rfl) (by kernel_rfl) (fun _ _ _ h=>h) (by rfl) hS ?_
    try simp only [NM]
    refine tkH 6 hS ?_
    have KD:KH w W.drew (digS m L r) (.slice A7 n7 c7) h (.slice Ah h.parts.length ch):=⟨below_drew' K11.out.below,K11.out.met,K11.out.hdr,K11.out.res,K11.out.size⟩
    have ST:=KD.res.store (digS m L r) A7 none n7 c7 0 0
    have KF:=hid KD.fin
    have OF:=hid (ownP_setRow (g:=w.heap.size+2) (show Sp.OwnP W.drew (w.heap.size+3) (.slice A7 n7 c7) (M.some_ L) from O11.out) (by omega) (mcells (digS m L r) (.slice A7 n7 c7) (.slice none 0 0)))
    have hme:=setRow_other W.drew (w.heap.size+2) w.heap.size (mcells (digS m L r) (.slice A7 n7 c7) (.slice none 0 0)) (by omega)
    clear KD K11 O11
    generalize W.drew=V at*
    refine loneN (i:=7) rfl rfl (by kernel_rfl) (by rfl) (fun K hK=> ?_)
    go_simp
    refine hK.out _ _ (hS.of_block hme) (fun hS=> ?_)
    clear hK K
    try simp only [NM]
    clear ST hme
    refine tkH 8 hS ?_
    refine wpAnyH_done (by kernel_rfl) ?_ _
    try simp only [NM]
    have HE:=hid (show o=none by rw [HD.out];rfl)
    go_wp2_with fail
    refine bodyPost_ret (results_holes KF.out.1 rfl rfl) rfl ?_
    exact ⟨_,_,_,_,by rw [HE.out];rfl,KF.out.2,fun d hd=>by rw [HE.out] at hd;cases hd⟩
end Go.Proofs.YtjpmpjbembhldaaGreatDoor
