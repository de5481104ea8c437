import Derived.Test.YtgbgngdakkiclaaGreatDoorMtRefL
import Derived.Test.YtgbgngdakkiclaaGreatDoorMtRefZ
import Derived.Test.YtgbgngdakkiclaaGreatDoorMtRefE
import Derived.Test.YtgbgngdakkiclaaGreatDoorMtFromZ
import Derived.Test.YtgbgngdakkiclaaGreatDoorMtTo
set_option linter.unusedVariables false
set_option linter.unusedSimpArgs false
namespace Go.Proofs.YtgbgngdakkiclaaGreatDoor
open Go.RowKit Go.Lib
open Px (R2 tl)
theorem results_to10 {tmps:Array Value} {g:Nat} {h:M.Hdr} {pv v u:Value} {w:World} (hb:HB w g h pv) (h2:tmps.getD 2 undef= .pointer (some ⟨g,0,none⟩)) (h3:tmps.getD 3 undef=v) (h4:tmps.getD 4 undef=u):
  (results Tryz.f10 tmps).run Tryz.prog w= .ok (.tuple #[.agg (hcells h pv),v,u]) w:=by
 rw [Array.getD_eq_getD_getElem?] at h2 h3 h4
 have hl:=hb.load
 simp [results,Tryz.results10,h2,h3,h4,asAddr,hl]
theorem run_loadHdr {w:World} {g:Nat} {h:M.Hdr} {pv rv:Value} (hb:TK w g h pv rv):(loadVar 39 ⟨g,0,none⟩).run Tryz.prog w= .ok (.agg (hcells h pv)) w:=by
 have hl':(loadCells ⟨g,0,none⟩ (hcells h pv).toList.length).run Tryz.prog w= .ok (hcells h pv).toList.toArray w:=
  run_loadCells_list (P:=Tryz.prog) w ⟨g,0,none⟩ (hcells h pv).toList (fun j v hv=>by
   have e:(⟨g,0,none⟩:Addr).add j=⟨g,j,none⟩:=by rw [add_plain,Nat.zero_add]
   rw [e]
   refine TK.cell hb ?_
   have hj:(hcells h pv)[j]?=some v:=by simpa using hv
   have hlt:j<17:=by
    have:=(Array.getElem?_eq_some_iff.1 hj).1
    simpa [hcells] using this
   rw [←hj]
   have:j=0∨j=1∨j=2∨j=3∨j=4∨j=5∨j=6∨j=7∨j=8∨j=9∨j=10∨j=11∨j=12∨j=13∨j=14∨j=15∨j=16:=by omega
   rcases this with rfl|rfl|rfl|rfl|rfl|rfl|rfl|rfl|rfl|rfl|rfl|rfl|rfl|rfl|rfl|rfl|rfl<;>rfl)
 have hagg:(isAgg 39).run Tryz.prog w= .ok true w:=by
  unfold isAgg
  rw [Sem.run_bind,run_underlying Tryz.underlying39 w]
  rfl
 cases hq:Tryz.prog.info? 39 with
 |none=>have:=hdr_size;simp [hq] at this
 |some i=>
  have hs:i.size=17:=by have:=hdr_size;simpa [hq] using this
  have hl2:(hcells h pv).toList.length=17:=rfl
  rw [hl2] at hl'
  simp [loadVar,Sem.run_bind,hagg,sizeOf,typeInfo,hq,hs,hl']
theorem wpList_load_hdrT {ops:Array Oper} {rest:List Oper} {o:Oper} {a:Act} {w:World} {Q:Exit→Act→World→Prop} (hgd:o.guard=none) (x:Operand) (ho:o.op= .load 39 x)
  {g:Nat} (hx:a.eval x= .pointer (some ⟨g,0,none⟩)) {h0:M.Hdr} {pv rv:Value} (hb:TK w g h0 pv rv)
  (h:wpList Tryz.prog ops Q rest (a.put o.dst (.agg (hcells h0 pv))) w):wpList Tryz.prog ops Q (o::rest) a w:=by
 refine wpList_plain hgd fun K hK=> ?_
 unfold Oper.wp execOp
 simp only [ho,hx,Instr.loadAt,Instr.sureAddr,Sem.run_bind,Sem.run_pure,Result.andThen_ok,run_loadHdr hb]
 exact hK _ _ h
def ToIs10 (m:M.Met) (w:World) (e:Ending) (w':World):Prop:=
 ∃ A c,e= .returned (.tuple #[.agg (hcells (M.toH m) (.slice none 0 0)), .slice A (M.toR m).length c, .int .i64 (M.toE m:Nat)])∧Px.RdR w' w'.heap.size A ((M.toR m).map M.mk)∧Below w.heap.size w w'
structure Td (w W:World) (m:M.Met) (pv ev:Value):Prop where
 below:Below w.heap.size w W
 met:MB W w.heap.size m pv ev
 res:HB W (w.heap.size+1) {} (.slice none 0 0)
theorem Td.later {w W W':World} {m:M.Met} {pv ev:Value} (p:Td w W m pv ev) (hb:Below W.heap.size W W'):Td w W' m pv ev:=
 ⟨p.below.trans (hb.mono p.below.size),p.met.below hb p.met.lt,p.res.below hb p.res.lt⟩
theorem Td.low {w W W':World} {m:M.Met} {pv ev:Value} {B:Nat} (p:Td w W m pv ev) (hb:Below B W W') (hB:w.heap.size+2≤B):Td w W' m pv ev:=
 ⟨p.below.trans (hb.mono (by omega)),p.met.below hb (by omega),p.res.below hb (by omega)⟩
theorem td_new (w:World) (m:M.Met) (pv ev:Value):Td w ((w.alloc (.cells (mcells m pv ev) 35)).alloc (.cells #[.string ⟨#[]⟩, .int .i64 0, .int .i64 0, .int .i64 0, .int .i64 0, .int .i64 0, .int .u8 0, .string ⟨#[]⟩, .int .i64 0, .string ⟨#[]⟩, .string ⟨#[]⟩, .int .i64 0, .int .i64 0, .string ⟨#[]⟩, .slice none 0 0, .bool false, .int .i64 0] 39)) m pv ev where
 below:=((Below.refl w.heap.size w).alloc (Nat.le_refl _) _).alloc (by simp) _
 met:=(MB.new w m pv ev).alloc _
 res:=by
  have t:=HB.new (w.alloc (.cells (mcells m pv ev) 35)) {} (.slice none 0 0)
  rw [World.size_alloc] at t
  exact t
theorem wrong10 (m:M.Met):M.wrong m=if M.within m.kind 48 54=false then 31 else if M.hasTexts m=false then 33 else if M.hasNumbers m=false then 32 else if (M.isExtra [] m.extra&&(!m.holes||M.hasHoles m))=false then 34 else 0:=by
 unfold M.wrong
 have e:(M.isExtra [] m.extra=false∨(m.holes=true∧M.hasHoles m=false))↔(M.isExtra [] m.extra&&(!m.holes||M.hasHoles m))=false:=by
  cases M.isExtra [] m.extra<;>cases m.holes<;>cases M.hasHoles m<;>simp
 simp only [e]
set_option maxRecDepth 100000 in
set_option maxHeartbeats 8000000 in
theorem to10_any (m:M.Met) (pv ev:Value) (B:Nat) (w:World) (hm:MIn w m pv ev) (hB:B≤w.heap.size) (ht:Sp.EV B w):
  Calls Tryz.prog 10 #[.agg (mcells m pv ev)] w (ToIs10 m w):=by
 have HT:=hid (fun (V:World) (hV:Below w.heap.size w V)=>And.intro (Nat.le_trans hB hV.size) (ht.on (hV.mono hB)))
 have HI:=hid (fun (V:World) (hV:Below w.heap.size w V)=>MIn.later hm hV)
 have HF:=hid hm.fits
 have HNX:=hid hm.nextra
 obtain ⟨Ae,ce,rfl,hre⟩:=hm.extra
 have HRE:=hid (fun (V:World) (hV:Below w.heap.size w V)=>(hre.below hV).more hV.size)
 have D0:=hid (td_new w m pv (.slice Ae m.extra.length ce))
 have hs0:((w.alloc (.cells (mcells m pv (.slice Ae m.extra.length ce)) 35)).alloc (.cells #[.string ⟨#[]⟩, .int .i64 0, .int .i64 0, .int .i64 0, .int .i64 0, .int .i64 0, .int .u8 0, .string ⟨#[]⟩, .int .i64 0, .string ⟨#[]⟩, .string ⟨#[]⟩, .int .i64 0, .int .i64 0, .string ⟨#[]⟩, .slice none 0 0, .bool false, .int .i64 0] 39)).heap.size=w.heap.size+2:=by simp
 have HWR:=hid (wrong10 m)
 clear hm hre ht hB
 go_enter Tryz.func10,Tryz.ntmps10
 go_upto_region 1 with fail
 generalize World.alloc (World.alloc w _) _=W at*
 clear hs0
 go_upto_region 2 with fail
 go_cut [18] from 11 to 18 (fun v wx=>v= .bool (!M.within m.kind 48 54)∧Hid (Td w wx m pv (.slice Ae m.extra.length ce)))
 case first=>
  have k2:=D0.out.met.cell (i:=2) (v:= .int .u8 m.kind) rfl
  have hwt:M.within m.kind 48 54=(decide (48≤m.kind)&&decide (m.kind≤54)):=rfl
  rcases Int.lt_or_le m.kind 48 with hk|hk
  ·have d0:decide (m.kind<48)=true:=by rw [decide_eq_true_eq];exact hk
   have e0:decide (48≤m.kind)=false:=by rw [decide_eq_false_iff_not];omega
   go_wp2_with fail
   go_meet
   case rel=>exact ⟨by rw [hwt,e0];rfl,D0⟩
  ·have d0:decide (m.kind<48)=false:=by rw [decide_eq_false_iff_not];omega
   have e0:decide (48≤m.kind)=true:=by rw [decide_eq_true_eq];exact hk
   rcases Int.lt_or_le 54 m.kind with hk2|hk2
   ·have d1:decide (m.kind>54)=true:=by rw [decide_eq_true_eq];exact hk2
    have e1:decide (m.kind≤54)=false:=by rw [decide_eq_false_iff_not];omega
    go_wp2_with fail
    go_meet
    case rel=>exact ⟨by rw [hwt,e0,e1];rfl,D0⟩
   ·have d1:decide (m.kind>54)=false:=by rw [decide_eq_false_iff_not];omega
    have e1:decide (m.kind≤54)=true:=by rw [decide_eq_true_eq];exact hk2
    go_wp2_with fail
    go_meet
    case rel=>exact ⟨by rw [hwt,e0,e1];rfl,D0⟩
 obtain ⟨rfl,D1⟩:=hcut
 clear D0
 obtain ⟨b1,hb1⟩: ∃ b,M.within m.kind 48 54=b:=⟨_,rfl⟩
 rw [hb1] at HWR⊢
 clear hb1
 obtain ⟨b2,hb2⟩: ∃ b,M.hasTexts m=b:=⟨_,rfl⟩
 obtain ⟨b3,hb3⟩: ∃ b,M.hasNumbers m=b:=⟨_,rfl⟩
 obtain ⟨b4,hb4⟩: ∃ b,(M.isExtra [] m.extra&&(!m.holes||M.hasHoles m))=b:=⟨_,rfl⟩
 have T2:=hid (fun (V:World) (hV:Below w.heap.size w V)=>texts10_any m pv (.slice Ae m.extra.length ce) V (HI.out V hV))
 have T3:=hid (fun (V:World) (hV:Below w.heap.size w V)=>numbers10_any m pv (.slice Ae m.extra.length ce) V (HI.out V hV))
 have T4:=hid (fun (V:World) (hV:Below w.heap.size w V)=>extra10_any m pv (.slice Ae m.extra.length ce) V (HI.out V hV))
 rw [hb2] at T2 HWR
 rw [hb3] at T3 HWR
 rw [hb4] at T4 HWR
 clear hb2 hb3 hb4
 obtain ⟨n,hn⟩: ∃ n,M.wrong m=n:=⟨_,rfl⟩
 rw [hn] at HWR
 have HN:=hid hn
 clear hn
 obtain ⟨nb,hnb⟩: ∃ b,(!b1)=b:=⟨_,rfl⟩
 rw [hnb]
 have HNB:=hid hnb
 clear hnb
 go_upto_if 18 with fail
 go_cut [5] from 19 to 27 (fun v wx=>v= .int .i64 (n:Nat)∧Hid (Td w wx m pv (.slice Ae m.extra.length ce)))
 case first=>
  have hb:=HNB.out
  cases b1 with
  |false=>
   obtain rfl:nb=true:=hb.symm
   obtain rfl:n=31:=by rw [HWR.out];rfl
   clear hb HNB
   go_wp2_with fail
   go_meet
   case rel=>exact ⟨rfl,D1⟩
  |true=>
   obtain rfl:nb=false:=hb.symm
   clear hb HNB
   go_wp2_with (refine wpList_load_row rfl 35 (.tmp 1) rfl w.heap.size (by rfl) 35 (mcells m pv (.slice Ae m.extra.length ce)) (0,0) _ D1.out.met Tryz.underlying35 rfl met_size ?_)
   (with_reducible refine (T2.out _ D1.out.below).mono ?_)
   rintro e w2 ⟨rfl,q2⟩
   have D2:=hid (D1.out.later q2)
   clear D1 q2 T2
   cases b2 with
   |false=>
    obtain rfl:n=33:=by rw [HWR.out];rfl
    go_wp2_with fail
    go_meet
    case rel=>exact ⟨rfl,D2⟩
   |true=>
    go_wp2_with (refine wpList_load_row rfl 35 (.tmp 1) rfl w.heap.size (by rfl) 35 (mcells m pv (.slice Ae m.extra.length ce)) (0,0) _ D2.out.met Tryz.underlying35 rfl met_size ?_)
    (with_reducible refine (T3.out _ D2.out.below).mono ?_)
    rintro e w3 ⟨rfl,q3⟩
    have D3:=hid (D2.out.later q3)
    clear D2 q3 T3
    cases b3 with
    |false=>
     obtain rfl:n=32:=by rw [HWR.out];rfl
     go_wp2_with fail
     go_meet
     case rel=>exact ⟨rfl,D3⟩
    |true=>
     go_wp2_with (refine wpList_load_row rfl 35 (.tmp 1) rfl w.heap.size (by rfl) 35 (mcells m pv (.slice Ae m.extra.length ce)) (0,0) _ D3.out.met Tryz.underlying35 rfl met_size ?_)
     (with_reducible refine (T4.out _ D3.out.below).mono ?_)
     rintro e w4 ⟨rfl,q4⟩
     have D4:=hid (D3.out.later q4)
     clear D3 q4 T4
     cases b4 with
     |false=>
      obtain rfl:n=34:=by rw [HWR.out];rfl
      go_wp2_with fail
      go_meet
      case rel=>exact ⟨rfl,D4⟩
     |true=>
      obtain rfl:n=0:=by rw [HWR.out];rfl
      go_wp2_with fail
      go_meet
      case rel=>exact ⟨rfl,D4⟩
 obtain ⟨rfl,D5⟩:=hcut
 clear D1 T2 T3 T4 HWR HNB
 by_cases hn0:n=0
 case neg=>
  have dn:((n:Int) !=0)=true:=by rw [bne_iff_ne];omega
  have HE:=hid (show M.toE m=n from by unfold M.toE;rw [HN.out,if_pos hn0])
  have HH:=hid (show M.toH m= {} from by unfold M.toH;rw [HE.out,if_neg hn0])
  have HR:=hid (show M.toR m= [] from by unfold M.toR;rw [HE.out,if_neg hn0])
  clear hn0
  go_wp2_with (refine wpList_store_row rfl 39 (.tmp 2) (.tmp 30) rfl (w.heap.size+1) (hcells {} (.slice none 0 0)) (by rfl) (by rfl) 39 _ D5.out.res hdr_size rfl (hcells_one _ rfl) ?_)
  have HRw:=hid (show HB (wc.setRow (w.heap.size+1) (hcells {} (.slice none 0 0))) (w.heap.size+1) {} (.slice none 0 0) from setRow_heap _ _ _ _ _ _ D5.out.res)
  refine bodyPost_ret (results_to10 HRw.out rfl rfl rfl) rfl ?_
  refine ⟨none,0,by rw [HE.out,HH.out,HR.out];rfl,by rw [HR.out];exact Px.RdR.none_,below_setRow D5.out.below (g:=w.heap.size+1) (by omega) _⟩
 subst hn0
 have R:=M.right_of HN.out
 have HRt:=hid R
 go_wp2_with (refine wpList_load_row rfl 35 (.tmp 1) rfl w.heap.size (by rfl) 35 (mcells m pv (.slice Ae m.extra.length ce)) (0,0) _ D5.out.met Tryz.underlying35 rfl met_size ?_)
 refine (laid10_any m pv (.slice Ae m.extra.length ce) B wc (HI.out _ D5.out.below) R (HT.out _ D5.out.below).1 (HT.out _ D5.out.below).2).mono ?_
 rintro e w6 ⟨v6,rfl,o6,q6⟩
 clear R
 have D6:=hid (D5.out.later q6)
 have HO6:=hid o6
 obtain ⟨A6,n6,c6,rfl⟩: ∃ A n c,v6= .slice A n c:=by obtain ⟨A,c,e,_⟩:=o6.rd;exact ⟨A,_,c,e⟩
 have hn6:n6=((M.gives m).map M.mk).length:=by obtain ⟨A',c',e,_⟩:=o6.rd;injection e
 have HN6:=hid hn6
 clear D5 q6 o6 hn6
 go_upto_region 13 with (refine wpList_store_row rfl 65 (.tmp 6) (.tmp 33) rfl w6.heap.size (tcells (M.head m) (.slice none 0 0) (.slice A6 n6 c6)) (by rfl) (by rfl) 65 _ (heap_alloc_new w6 _) t_size rfl (tcells_one _ rfl rfl) ?_;rw [World.setRow_alloc_new])
 have q7:=(Below.refl w6.heap.size w6).alloc (Nat.le_refl _) (.cells (tcells (M.head m) (.slice none 0 0) (.slice A6 n6 c6)) 65)
 have K7:=hid (TK.new w6 (M.head m) (.slice none 0 0) (.slice A6 n6 c6))
 have D7:=hid (D6.out.later q7)
 have HR7:=hid (ownR_rd (HO6.out.alloc (.cells (tcells (M.head m) (.slice none 0 0) (.slice A6 n6 c6)) 65)))
 clear D6 HO6 q7
 generalize World.alloc w6 _=w7 at*
 generalize w6.heap.size=g6 at*
 have k17:=K7.out.cell (i:=17) (v:= .slice A6 n6 c6) rfl
 have HGL:=hid (M.gives_len m)
 have hgl:((M.gives m).map M.mk).length≤10:=by rw [List.length_map];exact HGL.out
 obtain ⟨gv,hgv⟩: ∃ g,(M.gives m).map M.mk=g:=⟨_,rfl⟩
 rw [hgv] at HR7 HN6 hgl
 have HGV:=hid hgv
 clear hgv HGL
 go_upto_region 15 with (at_builtin;refine Px.wpList_appRs rfl (.tmp 34) (.tmp 36) rfl w7.heap.size (.slice none 0 0) [] gv rfl (Px.OwnR.nil _ _) (Nat.le_refl _) A6 c6 (by show Value.slice A6 n6 c6=_;rw [HN6.out]) w7.heap.size HR7.out (by simp;omega) ?_)
 intro v8 w8 l8 HL8 hn8 o8 b8 _
 obtain rfl:l8=gv:=HL8.out
 have D8:=hid (D7.out.later b8)
 have K8:=hid (K7.out.below b8 K7.out.lt)
 have hs8:w7.heap.size≤w8.heap.size:=b8.size
 have k16:=D8.out.met.cell (i:=16) (v:= .slice Ae m.extra.length ce) rfl
 have HRE8:=hid (HRE.out _ D8.out.below)
 have hnx:=HNX.out
 have hg7:g6<w7.heap.size:=K7.out.lt
 have hw7:w.heap.size+2≤w7.heap.size:=D7.out.res.lt
 clear D7 K7 HR7 b8 k17 hn8
 go_upto_region 16 with (at_builtin;refine Px.wpList_appRs rfl (.tmp 38) (.tmp 40) rfl w7.heap.size v8 l8 m.extra rfl o8 hs8 Ae ce rfl w8.heap.size HRE8.out (by omega) ?_)
 intro v9 w9 l9 HL9 hn9 o9 b9 _
 have D9:=hid (D8.out.low b9 hw7)
 have K9:=hid (K8.out.below b9 hg7)
 have hl9:l9.length≤1048576:=by omega
 have b9s:w7.heap.size≤w9.heap.size:=Nat.le_trans hs8 b9.size
 have hrc:Px.rcs l9=M.gives m++m.extra.map M.rc:=by
  rw [HL9.out,←HGV.out,show Px.rcs ((M.gives m).map M.mk++m.extra)=Px.rcs ((M.gives m).map M.mk)++Px.rcs m.extra from List.map_append,rcs_mk]
  rfl
 have hap:M.Apart (Px.rcs l9):=by rw [hrc];exact M.all_apart HRt.out
 obtain ⟨A9,c9,rfl,hr9,_,_⟩:=o9.rd
 have HRC:=hid hrc
 have HS9:=hid (sorted10_any A9 c9 l9 hl9 hap w9 hr9)
 clear D8 K8 k16 HRE8 hn9 o9 b9 hrc hap hr9 o8 hs8
 go_wp2_with fail
 refine HS9.out.mono ?_
 rintro e w10 ⟨v10,L,rfl,HE10,o10,hL10,b10⟩
 have D10:=hid (D9.out.later b10)
 have K10:=hid (K9.out.below b10 K9.out.lt)
 have hrl:Px.rcs L=M.recsOf m:=by rw [HE10.out,HRC.out];exact M.puts_recs HRt.out
 have hLm:L=(M.recsOf m).map M.mk:=by rw [←hrl];exact (M.map_mk_rc L).symm
 have HRL:=hid hrl
 have HLM:=hid hLm
 have hsh:Px.Short L:=fun r hr=>by
  have h1:M.rc r∈M.recsOf m:=by rw [←hrl];exact List.mem_map_of_mem hr
  rcases M.merge_mem h1 with h2|h2
  ·have h3:=M.gives_short HRt.out _ h2
   have h4:(tl r.1).length≤100∧(tl r.2).length≤1048576:=h3
   show (tl r.1).length+(tl r.2).length≤_
   omega
  ·obtain ⟨q,hq,he⟩:=List.mem_map.1 h2
   have h5:=HF.out q hq
   have e1:tl q.1=tl r.1:=congrArg Prod.fst he
   have e2:tl q.2=tl r.2:=congrArg Prod.snd he
   have h6:(tl q.1).length=q.1.size:=rfl
   have h7:(tl q.2).length=q.2.size:=rfl
   show (tl r.1).length+(tl r.2).length≤_
   rw [←e1,←e2]
   omega
 obtain ⟨A10,c10,rfl,hr10,_,_⟩:=o10.rd
 have hLn:L.length≤1048576:=by omega
 have HPR:=hid (Px.refPrint_any A10 c10 L hLn hsh B w10 (HT.out _ D10.out.below).1 (HT.out _ D10.out.below).2.tens hr10)
 have HO10:=hid o10
 clear D9 K9 HS9 HE10 hrl hLm hsh hr10 o10 b10 HRC hL10
 go_wp2_with fail
 refine HPR.out.mono ?_
 rintro e w11 ⟨v11,rfl,_,b11⟩
 have D11:=hid (D10.out.later b11)
 have K11:=hid (K10.out.below b11 K10.out.lt)
 have HO11:=hid (HO10.out.below b11)
 have HEE:=hid (show Px.M.printE (Px.rcs L)=M.toE m from by rw [HRL.out];unfold M.toE;rw [HN.out,if_neg (by simp)])
 clear D10 K10 HPR HO10 b11
 obtain ⟨f,hf⟩: ∃ f,Px.M.printE (Px.rcs L)=f:=⟨_,rfl⟩
 rw [hf] at HEE⊢
 clear hf
 by_cases hf0:f=0
 case neg=>
  have dn:((f:Int) !=0)=true:=by rw [bne_iff_ne];omega
  have HH:=hid (show M.toH m= {} from by unfold M.toH;rw [←HEE.out,if_neg hf0])
  have HR:=hid (show M.toR m= [] from by unfold M.toR;rw [←HEE.out,if_neg hf0])
  clear hf0
  go_wp2_with (refine wpList_store_row rfl 39 (.tmp 2) (.tmp 51) rfl (w.heap.size+1) (hcells {} (.slice none 0 0)) (by rfl) (by rfl) 39 _ D11.out.res hdr_size rfl (hcells_one _ rfl) ?_)
  have HRw:=hid (show HB (w11.setRow (w.heap.size+1) (hcells {} (.slice none 0 0))) (w.heap.size+1) {} (.slice none 0 0) from setRow_heap _ _ _ _ _ _ D11.out.res)
  refine bodyPost_ret (results_to10 HRw.out rfl rfl rfl) rfl ?_
  refine ⟨none,0,by rw [←HEE.out,HH.out,HR.out];rfl,by rw [HR.out];exact Px.RdR.none_,below_setRow D11.out.below (g:=w.heap.size+1) (by omega) _⟩
 subst hf0
 have HE1:=hid (show M.toE m=0 from HEE.out.symm)
 have HH:=hid (show M.toH m=M.head m from by unfold M.toH;rw [HE1.out,if_pos rfl])
 have HR:=hid (show (M.toR m).map M.mk=L from by unfold M.toR;rw [HE1.out,if_pos rfl];exact HLM.out.symm)
 go_wp2_with (first|(refine wpList_load_hdrT rfl (.tmp 53) rfl (by rfl) K11.out ?_)|refine wpList_store_row rfl 39 (.tmp 2) (.tmp 54) rfl (w.heap.size+1) (hcells (M.head m) (.slice none 0 0)) (by rfl) (by rfl) 39 _ D11.out.res hdr_size rfl (hcells_one _ rfl) ?_)
 have HRw:=hid (show HB (w11.setRow (w.heap.size+1) (hcells (M.head m) (.slice none 0 0))) (w.heap.size+1) (M.head m) (.slice none 0 0) from setRow_heap _ _ _ _ _ _ D11.out.res)
 refine bodyPost_ret (results_to10 HRw.out rfl rfl rfl) rfl ?_
 have hlr:L.length=(M.toR m).length:=by rw [←HR.out,List.length_map]
 have hw11:w.heap.size+1<w9.heap.size:=Nat.lt_of_lt_of_le hw7 b9s
 refine ⟨A10,c10,by rw [HE1.out,HH.out,←hlr];rfl, ?_,below_setRow D11.out.below (g:=w.heap.size+1) (by omega) _⟩
 rw [HR.out]
 exact ownR_rd (ownR_row HO11.out (g:=w.heap.size+1) hw11 _)
end Go.Proofs.YtgbgngdakkiclaaGreatDoor
