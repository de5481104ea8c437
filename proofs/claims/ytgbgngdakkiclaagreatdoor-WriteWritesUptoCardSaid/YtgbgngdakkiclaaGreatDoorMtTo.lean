import Derived.Test.YtgbgngdakkiclaaGreatDoorStepZ
import Derived.Test.YtgbgngdakkiclaaGreatDoorMtLoop
import Derived.Test.YtgbgngdakkiclaaGreatDoorMtMathZ
import Derived.Deep.CutRange
set_option linter.unusedVariables false
set_option linter.unusedSimpArgs false
namespace Go.Proofs.YtgbgngdakkiclaaGreatDoor
open Go.RowKit Go.Lib
open Px (R2 tl)
theorem own_setRow {w:World} {b g:Nat} {v:Value} {l:List R2} (h:Px.OwnR w b v l) (hg:g<b) (cs:Array Value):Px.OwnR (w.setRow g cs) b v l:=by
 refine World.ownsRow.kept h (row:=some g) ⟨rfl,rfl,rfl,by simp,fun k _ hn=>setRow_other w g k cs (fun e=>hn (by rw [e]))⟩ (.inr ?_)
 intro e
 have:=Px.ownsRow_block h g e
 omega
theorem own_rd {w:World} {b c:Nat} {A:Option Addr} {l:List R2} (h:Px.OwnR w b (.slice A l.length c) l):Px.RdR w w.heap.size A l:=by
 obtain ⟨A',c',e,hr,_⟩:=h.rd
 injection e with e1 _ _
 subst e1
 exact hr
theorem field_size:(Tryz.prog.info? 118).map (·.size)=some 3:=by kernel_rfl
def ToIs (m:M.Met) (w:World) (e:Ending) (w':World):Prop:=
 ∃ A c,e= .returned (.tuple #[.agg (hcells (M.toH m) (.slice none 0 0)), .slice A (M.toR m).length c, .int .u16 (M.toE m:Nat)])∧Px.RdR w' w'.heap.size A ((M.toR m).map M.mk)∧(M.toR m).length≤c∧Below w.heap.size w w'
theorem results_to {tmps:Array Value} {g:Nat} {h:M.Hdr} {pv v:Value} {n:Int} {w:World} (hb:HB w g h pv) (h2:tmps.getD 2 undef= .pointer (some ⟨g,0,none⟩)) (h3:tmps.getD 3 undef=v) (h4:tmps.getD 4 undef= .int .u16 n):
  (results Tryz.f33 tmps).run Tryz.prog w= .ok (.tuple #[.agg (hcells h pv),v, .int .u16 n]) w:=by
 rw [Array.getD_eq_getD_getElem?] at h2 h3 h4
 have hl:=run_loadVar_row (P:=Tryz.prog) w g 39 39 (hcells h pv) (0,0) _ hb Tryz.underlying39 rfl hdr_size
 simp [results,Tryz.results33,h2,h3,h4,asAddr,hl]
set_option maxRecDepth 100000 in
set_option maxHeartbeats 8000000 in
theorem to_any (m:M.Met) (pv ev:Value) (B:Nat) (w:World) (hm:MIn w m pv ev) (hB:B≤w.heap.size) (ht:Sp.EV B w):
  Calls Tryz.prog 33 #[.agg (mcells m pv ev)] w (ToIs m w):=by
 obtain ⟨Ap,cp,rfl,hrp⟩:=hm.parts
 obtain ⟨Ae,ce,rfl,hre⟩:=hm.extra
 have HM:=hid hm
 have HT:=hid ht
 have HRP:=hid hrp
 have HRE:=hid hre
 clear hrp hre
 obtain ⟨pv,hpv⟩: ∃ pv:Value,pv= .slice Ap m.parts.length cp:=⟨_,rfl⟩
 obtain ⟨ev,hev⟩: ∃ ev:Value,ev= .slice Ae m.extra.length ce:=⟨_,rfl⟩
 rw [←hpv,←hev] at HM⊢
 have HPV:=hid hpv
 have HEV:=hid hev
 rw [←hpv,←hev] at hm
 clear hpv hev
 have B1:=MB.alloc (MB.new w m pv ev) (.cells (hcells {} (.slice none 0 0)) 39)
 have hb1:=below2 w (.cells (mcells m pv ev) 35) (.cells (hcells {} (.slice none 0 0)) 39)
 have H1:=HB.new (w.alloc (.cells (mcells m pv ev) 35)) {} (.slice none 0 0)
 rw [World.size_alloc] at H1
 have hsz:((w.alloc (.cells (mcells m pv ev) 35)).alloc (.cells (hcells {} (.slice none 0 0)) 39)).heap.size=w.heap.size+2:=by simp
 go_enter Tryz.func33,Tryz.ntmps33
 go_upto_region 1 with fail
 change Code.wp _ _ _ _ ((w.alloc (.cells (mcells m pv ev) 35)).alloc (.cells (hcells {} (.slice none 0 0)) 39))
 generalize World.alloc (World.alloc w _) _=W at*
 have MB1:=hid B1
 have HB1:=hid H1
 have HW:=hid hb1
 clear B1 H1 hb1 hm ht
 go_wp2_with (refine wpList_load_row rfl 35 (.tmp 1) rfl w.heap.size (by rfl) 35 (mcells m pv ev) (0,0) _ MB1.out Tryz.underlying35 rfl met_size ?_)
 refine (wrong_any m pv ev W (HM.out.later HW.out)).mono ?_
 rintro e w2 ⟨rfl,hb2⟩
 have MB2:=hid (MB1.out.below hb2 (by rw [hsz];omega))
 have HB2:=hid (HB1.out.below hb2 (by rw [hsz];omega))
 have HW2:=hid (HW.out.trans (hb2.mono HW.out.size))
 have hs2:w.heap.size+2≤w2.heap.size:=by have:=hb2.size;omega
 clear hb2 MB1 HB1 HW hsz
 by_cases hwr:M.wrong m=0
 case neg=>
  have hE:M.toE m=M.wrong m:=by unfold M.toE;rw [if_pos hwr]
  have hHn:M.toH m= {} :=by unfold M.toH;rw [hE,if_neg hwr]
  have hRn:M.toR m= []:=by unfold M.toR;rw [hE,if_neg hwr]
  have hz:((M.wrong m:Int)==0)=false:=by rw [beq_eq_false_iff_ne];omega
  have HE:=hid (And.intro hE (And.intro hHn hRn))
  clear hwr hE hHn hRn
  generalize M.wrong m=n at*
  go_wp2_with (refine wpList_store_row rfl 39 (.tmp 2) (.tmp 18) rfl (w.heap.size+1) (hcells {} (.slice none 0 0)) (by simp [Act.eval]) (by simp [Act.eval,hcells]) 39 (hcells {} (.slice none 0 0)) HB2.out hdr_size rfl (hcells_one _ rfl) ?_)
  have HR:=hid (show HB (w2.setRow (w.heap.size+1) (hcells {} (.slice none 0 0))) (w.heap.size+1) {} (.slice none 0 0) from setRow_heap w2 _ _ _ _ _ HB2.out)
  have HS:=hid (below_setRow (g:=w.heap.size+1) HW2.out (Nat.le_succ _) (hcells {} (.slice none 0 0)))
  refine bodyPost_ret (results_to HR.out rfl rfl rfl) rfl ?_
  refine ⟨none,0, ?_, ?_, ?_,HS.out⟩
  ·rw [HE.out.1,HE.out.2.1,HE.out.2.2];rfl
  ·rw [HE.out.2.2];exact Px.RdR.none_
  ·rw [HE.out.2.2];exact Nat.le_refl _
 case pos=>
  rw [hwr]
  have HR:=hid (M.right_of hwr)
  go_upto_region 4 with fail
  go_wp2_with (refine wpList_load_row rfl 35 (.tmp 1) rfl w.heap.size (by rfl) 35 (mcells m pv ev) (0,0) _ MB2.out Tryz.underlying35 rfl met_size ?_)
  refine (roomy_any m pv ev w2).mono ?_
  rintro e w3 ⟨rfl,hb3⟩
  have hst:=store_new w3 (hdrAt m 0) none 0 0
  go_upto_region 6 with fail
  clear hst
  have hn4:=HB.new w3 (hdrAt m 0) (.slice none 0 0)
  have hb4:=hb3.alloc hb3.size (.cells (hcells (hdrAt m 0) (.slice none 0 0)) 39)
  have hs4:=World.size_alloc w3 (.cells (hcells (hdrAt m 0) (.slice none 0 0)) 39)
  have hs3:=hb3.size
  generalize World.alloc w3 _=w4 at*
  have hgw:w.heap.size<w2.heap.size:=by omega
  have hgw1:w.heap.size+1<w2.heap.size:=by omega
  have MB4:=hid (MB2.out.below hb4 hgw)
  have HB4:=hid (HB2.out.below hb4 hgw1)
  have HH4:=hid hn4
  have HW4:=hid (HW2.out.trans (hb4.mono HW2.out.size))
  clear hn4 hb4 hb3 MB2 HB2
  obtain ⟨ht1,ht2,ht3,ht4⟩:=HM.out.texts
  obtain ⟨_,hi1,hi2,_,_,_,_,hi3,_⟩:=HM.out.ints
  go_wp2_with fail
  refine (fields_any w.heap.size w3.heap.size B m pv ev w4 MB4.out (by rw [hs4];omega) hB (by omega) ⟨ht1,ht2,ht3,ht4⟩ ⟨hi1,hi2,hi3⟩).mono ?_
  rintro e wf ⟨x0,y0,x1,y1,x2,y2,x3,y3,x4,y4,x5,y5,x6,y6,x7,y7,rfl,hbf,hTk,hG⟩
  rw [hs4] at hG
  have HG:=hid hG
  have HTk:=hid hTk
  clear hTk
  have hsf:=hbf.size
  have HI0:=hid (show ToInv w wf wf m pv ev w.heap.size w3.heap.size wf.heap.size 0 (.slice none 0 0) [] from
   ⟨MB4.out.below hbf MB4.out.lt,HB4.out.below hbf HB4.out.lt,HH4.out.below hbf HH4.out.lt,⟨Nat.le_refl _,fun _ _ _=>rfl⟩,Px.OwnR.nil _ _,HW4.out.trans (hbf.mono HW4.out.size),Nat.le_refl _,Nat.le_refl _,by omega,by omega⟩)
  have hBw:B≤w4.heap.size:=by omega
  clear hG hbf MB4 HB4 HH4 HW4 HW2 ht1 ht2 ht3 ht4 hi1 hi2 hi3
  go_wp2_with fail
  go_loopw [7,23] (fun rv iv wr=> ∃ (i:Nat) (l:List Px.M.Rc),iv= .int .i64 i∧i≤8∧Hid (l=pieces m i)∧Hid (ToInv w wf wr m pv ev w.heap.size w3.heap.size wf.heap.size i rv l)) (fun _ iv _=>8 - (intOf iv).toNat)
  case atStart=>exact ⟨0, [],rfl,by omega,hid rfl,HI0⟩
  case round=>
   obtain ⟨i,l,rfl,hi,HL,HI⟩:=hrel
   clear HI0
   have hi9:i=0∨i=1∨i=2∨i=3∨i=4∨i=5∨i=6∨i=7∨i=8:=by omega
   clear hi
   rcases hi9 with rfl|rfl|rfl|rfl|rfl|rfl|rfl|rfl|rfl
   ·obtain ⟨G,cb,e,eg,hC⟩:=HG.out.1
    obtain ⟨G2,cb2,e2,_,_⟩:=HTk.out.1
    subst e e2
    unfold EntersF at eg
    have hix: ∀ V,Sem.run Tryz.prog (Instr.index 119 (.agg (fieldCells (.func (.func G2) #[] cb2) (.func (.func G) #[] cb) x1 y1 x2 y2 x3 y3 x4 y4 x5 y5 x6 y6 x7 y7)) (.int .i64 0)) V= .ok (.agg #[.string ⟨#[112,97,116,104]⟩,(.func (.func G2) #[] cb2), .func (.func G) #[] cb]) V:=fun V=>by kernel_rfl
    go_upto_region 9 with (refine wpList_store_row rfl 118 (.tmp 9) (.tmp 25) rfl wr.heap.size #[.string ⟨#[112,97,116,104]⟩,(.func (.func G2) #[] cb2), .func (.func G) #[] cb] (by simp [Act.eval]) (by simp [Act.eval]) 118 #[.string ⟨#[]⟩, .nilFunc, .nilFunc] (heap_alloc_new wr _) field_size rfl (by simp [Value.oneCell']) ?_;rw [World.setRow_alloc_new])
    have I1:=hid (HI.out.alloc (.cells #[.string ⟨#[112,97,116,104]⟩,(.func (.func G2) #[] cb2), .func (.func G) #[] cb] 118))
    have hf:=heap_alloc_new wr (.cells #[.string ⟨#[112,97,116,104]⟩,(.func (.func G2) #[] cb2), .func (.func G) #[] cb] 118)
    have hfs:=World.size_alloc wr (.cells #[.string ⟨#[112,97,116,104]⟩,(.func (.func G2) #[] cb2), .func (.func G) #[] cb] 118)
    generalize World.alloc wr _=W1 at*
    have f0:=cell_of_row W1 wr.heap.size 0 _ _ _ hf
    have f2:=cell_of_row W1 wr.heap.size 2 _ _ _ hf
    simp only [List.getElem?_toArray,List.getElem?_cons_zero,List.getElem?_cons_succ] at f0 f2
    have hBs:B≤W1.heap.size:=Nat.le_trans hB I1.out.below.size
    have HC:=hid (hC W1 I1.out.still I1.out.hdr hBs (I1.out.env hB HT.out))
    clear hC hf
    have hlt:wr.heap.size<W1.heap.size:=by rw [hfs];exact Nat.lt_succ_self _
    have hne:wr.heap.size≠w3.heap.size:=by have:=HI.out.his;have:=HI.out.hh;omega
    go_upto_if 32 with (go_at_fn G;refine HC.out.mono ?_;rintro e w5 ⟨s,ok,rfl,hp,hh5,hF⟩)
    have I5:=hid (I1.out.give hh5 hF)
    have f5:w5.cell? ⟨wr.heap.size,0,none⟩=some (.string ⟨#[112,97,116,104]⟩):=(World.cell?_of_block (hF.block wr.heap.size hlt hne)).trans f0
    have HP:=hid (show pieces m 1=l++(if ok=true then [(tl (key 0),tl s)] else []) by rw [pieces_succ,←HL.out,←hp])
    have HLEN:=hid HI.out.len
    clear hp hh5 hF f0 f2 HC I1 HI hix eg
    cases ok with
    |true=>
     go_wp2_with (refine Px.wpList_appR rfl (.tmp 33) (.tmp 38) rfl wf.heap.size _ (l.map M.mk) (M.mk (tl (key 0),tl s)) rfl rfl (by simp [Act.eval]) I5.out.own I5.out.his (by simp [Act.eval]) (by rw [List.length_map];exact Nat.le_trans HLEN.out (by decide)) ?_;intro v9 w9 l9 hl9 hll9 ho9 hb9 hg9)
     go_roundw
     case rel=>exact ⟨1,l++ [(tl (key 0),tl s)],(by first|rfl|go_num),by omega,hid (by rw [HP.out,if_pos rfl]),hid (I5.out.snoc HLEN.out hl9.out ho9 hb9)⟩
     case measure=>simp [intOf]
    |false=>
     go_wp2_with fail
     go_roundw
     case rel=>exact ⟨1,l,(by first|rfl|go_num),by omega,hid (by rw [HP.out,if_neg (by decide),List.append_nil]),I5⟩
     case measure=>simp [intOf]
   ·obtain ⟨G,cb,e,eg,hC⟩:=HG.out.2.1
    obtain ⟨G2,cb2,e2,_,_⟩:=HTk.out.2.1
    subst e e2
    unfold EntersF at eg
    have hix: ∀ V,Sem.run Tryz.prog (Instr.index 119 (.agg (fieldCells x0 y0 (.func (.func G2) #[] cb2) (.func (.func G) #[] cb) x2 y2 x3 y3 x4 y4 x5 y5 x6 y6 x7 y7)) (.int .i64 1)) V= .ok (.agg #[.string ⟨#[108,105,110,107,112,97,116,104]⟩,(.func (.func G2) #[] cb2), .func (.func G) #[] cb]) V:=fun V=>by kernel_rfl
    go_upto_region 9 with (refine wpList_store_row rfl 118 (.tmp 9) (.tmp 25) rfl wr.heap.size #[.string ⟨#[108,105,110,107,112,97,116,104]⟩,(.func (.func G2) #[] cb2), .func (.func G) #[] cb] (by simp [Act.eval]) (by simp [Act.eval]) 118 #[.string ⟨#[]⟩, .nilFunc, .nilFunc] (heap_alloc_new wr _) field_size rfl (by simp [Value.oneCell']) ?_;rw [World.setRow_alloc_new])
    have I1:=hid (HI.out.alloc (.cells #[.string ⟨#[108,105,110,107,112,97,116,104]⟩,(.func (.func G2) #[] cb2), .func (.func G) #[] cb] 118))
    have hf:=heap_alloc_new wr (.cells #[.string ⟨#[108,105,110,107,112,97,116,104]⟩,(.func (.func G2) #[] cb2), .func (.func G) #[] cb] 118)
    have hfs:=World.size_alloc wr (.cells #[.string ⟨#[108,105,110,107,112,97,116,104]⟩,(.func (.func G2) #[] cb2), .func (.func G) #[] cb] 118)
    generalize World.alloc wr _=W1 at*
    have f0:=cell_of_row W1 wr.heap.size 0 _ _ _ hf
    have f2:=cell_of_row W1 wr.heap.size 2 _ _ _ hf
    simp only [List.getElem?_toArray,List.getElem?_cons_zero,List.getElem?_cons_succ] at f0 f2
    have hBs:B≤W1.heap.size:=Nat.le_trans hB I1.out.below.size
    have HC:=hid (hC W1 I1.out.still I1.out.hdr hBs (I1.out.env hB HT.out))
    clear hC hf
    have hlt:wr.heap.size<W1.heap.size:=by rw [hfs];exact Nat.lt_succ_self _
    have hne:wr.heap.size≠w3.heap.size:=by have:=HI.out.his;have:=HI.out.hh;omega
    go_upto_if 32 with (go_at_fn G;refine HC.out.mono ?_;rintro e w5 ⟨s,ok,rfl,hp,hh5,hF⟩)
    have I5:=hid (I1.out.give hh5 hF)
    have f5:w5.cell? ⟨wr.heap.size,0,none⟩=some (.string ⟨#[108,105,110,107,112,97,116,104]⟩):=(World.cell?_of_block (hF.block wr.heap.size hlt hne)).trans f0
    have HP:=hid (show pieces m 2=l++(if ok=true then [(tl (key 1),tl s)] else []) by rw [pieces_succ,←HL.out,←hp])
    have HLEN:=hid HI.out.len
    clear hp hh5 hF f0 f2 HC I1 HI hix eg
    cases ok with
    |true=>
     go_wp2_with (refine Px.wpList_appR rfl (.tmp 33) (.tmp 38) rfl wf.heap.size _ (l.map M.mk) (M.mk (tl (key 1),tl s)) rfl rfl (by simp [Act.eval]) I5.out.own I5.out.his (by simp [Act.eval]) (by rw [List.length_map];exact Nat.le_trans HLEN.out (by decide)) ?_;intro v9 w9 l9 hl9 hll9 ho9 hb9 hg9)
     go_roundw
     case rel=>exact ⟨2,l++ [(tl (key 1),tl s)],(by first|rfl|go_num),by omega,hid (by rw [HP.out,if_pos rfl]),hid (I5.out.snoc HLEN.out hl9.out ho9 hb9)⟩
     case measure=>simp [intOf]
    |false=>
     go_wp2_with fail
     go_roundw
     case rel=>exact ⟨2,l,(by first|rfl|go_num),by omega,hid (by rw [HP.out,if_neg (by decide),List.append_nil]),I5⟩
     case measure=>simp [intOf]
   ·obtain ⟨G,cb,e,eg,hC⟩:=HG.out.2.2.1
    obtain ⟨G2,cb2,e2,_,_⟩:=HTk.out.2.2.1
    subst e e2
    unfold EntersF at eg
    have hix: ∀ V,Sem.run Tryz.prog (Instr.index 119 (.agg (fieldCells x0 y0 x1 y1 (.func (.func G2) #[] cb2) (.func (.func G) #[] cb) x3 y3 x4 y4 x5 y5 x6 y6 x7 y7)) (.int .i64 2)) V= .ok (.agg #[.string ⟨#[117,110,97,109,101]⟩,(.func (.func G2) #[] cb2), .func (.func G) #[] cb]) V:=fun V=>by kernel_rfl
    go_upto_region 9 with (refine wpList_store_row rfl 118 (.tmp 9) (.tmp 25) rfl wr.heap.size #[.string ⟨#[117,110,97,109,101]⟩,(.func (.func G2) #[] cb2), .func (.func G) #[] cb] (by simp [Act.eval]) (by simp [Act.eval]) 118 #[.string ⟨#[]⟩, .nilFunc, .nilFunc] (heap_alloc_new wr _) field_size rfl (by simp [Value.oneCell']) ?_;rw [World.setRow_alloc_new])
    have I1:=hid (HI.out.alloc (.cells #[.string ⟨#[117,110,97,109,101]⟩,(.func (.func G2) #[] cb2), .func (.func G) #[] cb] 118))
    have hf:=heap_alloc_new wr (.cells #[.string ⟨#[117,110,97,109,101]⟩,(.func (.func G2) #[] cb2), .func (.func G) #[] cb] 118)
    have hfs:=World.size_alloc wr (.cells #[.string ⟨#[117,110,97,109,101]⟩,(.func (.func G2) #[] cb2), .func (.func G) #[] cb] 118)
    generalize World.alloc wr _=W1 at*
    have f0:=cell_of_row W1 wr.heap.size 0 _ _ _ hf
    have f2:=cell_of_row W1 wr.heap.size 2 _ _ _ hf
    simp only [List.getElem?_toArray,List.getElem?_cons_zero,List.getElem?_cons_succ] at f0 f2
    have hBs:B≤W1.heap.size:=Nat.le_trans hB I1.out.below.size
    have HC:=hid (hC W1 I1.out.still I1.out.hdr hBs (I1.out.env hB HT.out))
    clear hC hf
    have hlt:wr.heap.size<W1.heap.size:=by rw [hfs];exact Nat.lt_succ_self _
    have hne:wr.heap.size≠w3.heap.size:=by have:=HI.out.his;have:=HI.out.hh;omega
    go_upto_if 32 with (go_at_fn G;refine HC.out.mono ?_;rintro e w5 ⟨s,ok,rfl,hp,hh5,hF⟩)
    have I5:=hid (I1.out.give hh5 hF)
    have f5:w5.cell? ⟨wr.heap.size,0,none⟩=some (.string ⟨#[117,110,97,109,101]⟩):=(World.cell?_of_block (hF.block wr.heap.size hlt hne)).trans f0
    have HP:=hid (show pieces m 3=l++(if ok=true then [(tl (key 2),tl s)] else []) by rw [pieces_succ,←HL.out,←hp])
    have HLEN:=hid HI.out.len
    clear hp hh5 hF f0 f2 HC I1 HI hix eg
    cases ok with
    |true=>
     go_wp2_with (refine Px.wpList_appR rfl (.tmp 33) (.tmp 38) rfl wf.heap.size _ (l.map M.mk) (M.mk (tl (key 2),tl s)) rfl rfl (by simp [Act.eval]) I5.out.own I5.out.his (by simp [Act.eval]) (by rw [List.length_map];exact Nat.le_trans HLEN.out (by decide)) ?_;intro v9 w9 l9 hl9 hll9 ho9 hb9 hg9)
     go_roundw
     case rel=>exact ⟨3,l++ [(tl (key 2),tl s)],(by first|rfl|go_num),by omega,hid (by rw [HP.out,if_pos rfl]),hid (I5.out.snoc HLEN.out hl9.out ho9 hb9)⟩
     case measure=>simp [intOf]
    |false=>
     go_wp2_with fail
     go_roundw
     case rel=>exact ⟨3,l,(by first|rfl|go_num),by omega,hid (by rw [HP.out,if_neg (by decide),List.append_nil]),I5⟩
     case measure=>simp [intOf]
   ·obtain ⟨G,cb,e,eg,hC⟩:=HG.out.2.2.2.1
    obtain ⟨G2,cb2,e2,_,_⟩:=HTk.out.2.2.2.1
    subst e e2
    unfold EntersF at eg
    have hix: ∀ V,Sem.run Tryz.prog (Instr.index 119 (.agg (fieldCells x0 y0 x1 y1 x2 y2 (.func (.func G2) #[] cb2) (.func (.func G) #[] cb) x4 y4 x5 y5 x6 y6 x7 y7)) (.int .i64 3)) V= .ok (.agg #[.string ⟨#[103,110,97,109,101]⟩,(.func (.func G2) #[] cb2), .func (.func G) #[] cb]) V:=fun V=>by kernel_rfl
    go_upto_region 9 with (refine wpList_store_row rfl 118 (.tmp 9) (.tmp 25) rfl wr.heap.size #[.string ⟨#[103,110,97,109,101]⟩,(.func (.func G2) #[] cb2), .func (.func G) #[] cb] (by simp [Act.eval]) (by simp [Act.eval]) 118 #[.string ⟨#[]⟩, .nilFunc, .nilFunc] (heap_alloc_new wr _) field_size rfl (by simp [Value.oneCell']) ?_;rw [World.setRow_alloc_new])
    have I1:=hid (HI.out.alloc (.cells #[.string ⟨#[103,110,97,109,101]⟩,(.func (.func G2) #[] cb2), .func (.func G) #[] cb] 118))
    have hf:=heap_alloc_new wr (.cells #[.string ⟨#[103,110,97,109,101]⟩,(.func (.func G2) #[] cb2), .func (.func G) #[] cb] 118)
    have hfs:=World.size_alloc wr (.cells #[.string ⟨#[103,110,97,109,101]⟩,(.func (.func G2) #[] cb2), .func (.func G) #[] cb] 118)
    generalize World.alloc wr _=W1 at*
    have f0:=cell_of_row W1 wr.heap.size 0 _ _ _ hf
    have f2:=cell_of_row W1 wr.heap.size 2 _ _ _ hf
    simp only [List.getElem?_toArray,List.getElem?_cons_zero,List.getElem?_cons_succ] at f0 f2
    have hBs:B≤W1.heap.size:=Nat.le_trans hB I1.out.below.size
    have HC:=hid (hC W1 I1.out.still I1.out.hdr hBs (I1.out.env hB HT.out))
    clear hC hf
    have hlt:wr.heap.size<W1.heap.size:=by rw [hfs];exact Nat.lt_succ_self _
    have hne:wr.heap.size≠w3.heap.size:=by have:=HI.out.his;have:=HI.out.hh;omega
    go_upto_if 32 with (go_at_fn G;refine HC.out.mono ?_;rintro e w5 ⟨s,ok,rfl,hp,hh5,hF⟩)
    have I5:=hid (I1.out.give hh5 hF)
    have f5:w5.cell? ⟨wr.heap.size,0,none⟩=some (.string ⟨#[103,110,97,109,101]⟩):=(World.cell?_of_block (hF.block wr.heap.size hlt hne)).trans f0
    have HP:=hid (show pieces m 4=l++(if ok=true then [(tl (key 3),tl s)] else []) by rw [pieces_succ,←HL.out,←hp])
    have HLEN:=hid HI.out.len
    clear hp hh5 hF f0 f2 HC I1 HI hix eg
    cases ok with
    |true=>
     go_wp2_with (refine Px.wpList_appR rfl (.tmp 33) (.tmp 38) rfl wf.heap.size _ (l.map M.mk) (M.mk (tl (key 3),tl s)) rfl rfl (by simp [Act.eval]) I5.out.own I5.out.his (by simp [Act.eval]) (by rw [List.length_map];exact Nat.le_trans HLEN.out (by decide)) ?_;intro v9 w9 l9 hl9 hll9 ho9 hb9 hg9)
     go_roundw
     case rel=>exact ⟨4,l++ [(tl (key 3),tl s)],(by first|rfl|go_num),by omega,hid (by rw [HP.out,if_pos rfl]),hid (I5.out.snoc HLEN.out hl9.out ho9 hb9)⟩
     case measure=>simp [intOf]
    |false=>
     go_wp2_with fail
     go_roundw
     case rel=>exact ⟨4,l,(by first|rfl|go_num),by omega,hid (by rw [HP.out,if_neg (by decide),List.append_nil]),I5⟩
     case measure=>simp [intOf]
   ·obtain ⟨G,cb,e,eg,hC⟩:=HG.out.2.2.2.2.1
    obtain ⟨G2,cb2,e2,_,_⟩:=HTk.out.2.2.2.2.1
    subst e e2
    unfold EntersF at eg
    have hix: ∀ V,Sem.run Tryz.prog (Instr.index 119 (.agg (fieldCells x0 y0 x1 y1 x2 y2 x3 y3 (.func (.func G2) #[] cb2) (.func (.func G) #[] cb) x5 y5 x6 y6 x7 y7)) (.int .i64 4)) V= .ok (.agg #[.string ⟨#[117,105,100]⟩,(.func (.func G2) #[] cb2), .func (.func G) #[] cb]) V:=fun V=>by kernel_rfl
    go_upto_region 9 with (refine wpList_store_row rfl 118 (.tmp 9) (.tmp 25) rfl wr.heap.size #[.string ⟨#[117,105,100]⟩,(.func (.func G2) #[] cb2), .func (.func G) #[] cb] (by simp [Act.eval]) (by simp [Act.eval]) 118 #[.string ⟨#[]⟩, .nilFunc, .nilFunc] (heap_alloc_new wr _) field_size rfl (by simp [Value.oneCell']) ?_;rw [World.setRow_alloc_new])
    have I1:=hid (HI.out.alloc (.cells #[.string ⟨#[117,105,100]⟩,(.func (.func G2) #[] cb2), .func (.func G) #[] cb] 118))
    have hf:=heap_alloc_new wr (.cells #[.string ⟨#[117,105,100]⟩,(.func (.func G2) #[] cb2), .func (.func G) #[] cb] 118)
    have hfs:=World.size_alloc wr (.cells #[.string ⟨#[117,105,100]⟩,(.func (.func G2) #[] cb2), .func (.func G) #[] cb] 118)
    generalize World.alloc wr _=W1 at*
    have f0:=cell_of_row W1 wr.heap.size 0 _ _ _ hf
    have f2:=cell_of_row W1 wr.heap.size 2 _ _ _ hf
    simp only [List.getElem?_toArray,List.getElem?_cons_zero,List.getElem?_cons_succ] at f0 f2
    have hBs:B≤W1.heap.size:=Nat.le_trans hB I1.out.below.size
    have HC:=hid (hC W1 I1.out.still I1.out.hdr hBs (I1.out.env hB HT.out))
    clear hC hf
    have hlt:wr.heap.size<W1.heap.size:=by rw [hfs];exact Nat.lt_succ_self _
    have hne:wr.heap.size≠w3.heap.size:=by have:=HI.out.his;have:=HI.out.hh;omega
    go_upto_if 32 with (go_at_fn G;refine HC.out.mono ?_;rintro e w5 ⟨s,ok,rfl,hp,hh5,hF⟩)
    have I5:=hid (I1.out.give hh5 hF)
    have f5:w5.cell? ⟨wr.heap.size,0,none⟩=some (.string ⟨#[117,105,100]⟩):=(World.cell?_of_block (hF.block wr.heap.size hlt hne)).trans f0
    have HP:=hid (show pieces m 5=l++(if ok=true then [(tl (key 4),tl s)] else []) by rw [pieces_succ,←HL.out,←hp])
    have HLEN:=hid HI.out.len
    clear hp hh5 hF f0 f2 HC I1 HI hix eg
    cases ok with
    |true=>
     go_wp2_with (refine Px.wpList_appR rfl (.tmp 33) (.tmp 38) rfl wf.heap.size _ (l.map M.mk) (M.mk (tl (key 4),tl s)) rfl rfl (by simp [Act.eval]) I5.out.own I5.out.his (by simp [Act.eval]) (by rw [List.length_map];exact Nat.le_trans HLEN.out (by decide)) ?_;intro v9 w9 l9 hl9 hll9 ho9 hb9 hg9)
     go_roundw
     case rel=>exact ⟨5,l++ [(tl (key 4),tl s)],(by first|rfl|go_num),by omega,hid (by rw [HP.out,if_pos rfl]),hid (I5.out.snoc HLEN.out hl9.out ho9 hb9)⟩
     case measure=>simp [intOf]
    |false=>
     go_wp2_with fail
     go_roundw
     case rel=>exact ⟨5,l,(by first|rfl|go_num),by omega,hid (by rw [HP.out,if_neg (by decide),List.append_nil]),I5⟩
     case measure=>simp [intOf]
   ·obtain ⟨G,cb,e,eg,hC⟩:=HG.out.2.2.2.2.2.1
    obtain ⟨G2,cb2,e2,_,_⟩:=HTk.out.2.2.2.2.2.1
    subst e e2
    unfold EntersF at eg
    have hix: ∀ V,Sem.run Tryz.prog (Instr.index 119 (.agg (fieldCells x0 y0 x1 y1 x2 y2 x3 y3 x4 y4 (.func (.func G2) #[] cb2) (.func (.func G) #[] cb) x6 y6 x7 y7)) (.int .i64 5)) V= .ok (.agg #[.string ⟨#[103,105,100]⟩,(.func (.func G2) #[] cb2), .func (.func G) #[] cb]) V:=fun V=>by kernel_rfl
    go_upto_region 9 with (refine wpList_store_row rfl 118 (.tmp 9) (.tmp 25) rfl wr.heap.size #[.string ⟨#[103,105,100]⟩,(.func (.func G2) #[] cb2), .func (.func G) #[] cb] (by simp [Act.eval]) (by simp [Act.eval]) 118 #[.string ⟨#[]⟩, .nilFunc, .nilFunc] (heap_alloc_new wr _) field_size rfl (by simp [Value.oneCell']) ?_;rw [World.setRow_alloc_new])
    have I1:=hid (HI.out.alloc (.cells #[.string ⟨#[103,105,100]⟩,(.func (.func G2) #[] cb2), .func (.func G) #[] cb] 118))
    have hf:=heap_alloc_new wr (.cells #[.string ⟨#[103,105,100]⟩,(.func (.func G2) #[] cb2), .func (.func G) #[] cb] 118)
    have hfs:=World.size_alloc wr (.cells #[.string ⟨#[103,105,100]⟩,(.func (.func G2) #[] cb2), .func (.func G) #[] cb] 118)
    generalize World.alloc wr _=W1 at*
    have f0:=cell_of_row W1 wr.heap.size 0 _ _ _ hf
    have f2:=cell_of_row W1 wr.heap.size 2 _ _ _ hf
    simp only [List.getElem?_toArray,List.getElem?_cons_zero,List.getElem?_cons_succ] at f0 f2
    have hBs:B≤W1.heap.size:=Nat.le_trans hB I1.out.below.size
    have HC:=hid (hC W1 I1.out.still I1.out.hdr hBs (I1.out.env hB HT.out))
    clear hC hf
    have hlt:wr.heap.size<W1.heap.size:=by rw [hfs];exact Nat.lt_succ_self _
    have hne:wr.heap.size≠w3.heap.size:=by have:=HI.out.his;have:=HI.out.hh;omega
    go_upto_if 32 with (go_at_fn G;refine HC.out.mono ?_;rintro e w5 ⟨s,ok,rfl,hp,hh5,hF⟩)
    have I5:=hid (I1.out.give hh5 hF)
    have f5:w5.cell? ⟨wr.heap.size,0,none⟩=some (.string ⟨#[103,105,100]⟩):=(World.cell?_of_block (hF.block wr.heap.size hlt hne)).trans f0
    have HP:=hid (show pieces m 6=l++(if ok=true then [(tl (key 5),tl s)] else []) by rw [pieces_succ,←HL.out,←hp])
    have HLEN:=hid HI.out.len
    clear hp hh5 hF f0 f2 HC I1 HI hix eg
    cases ok with
    |true=>
     go_wp2_with (refine Px.wpList_appR rfl (.tmp 33) (.tmp 38) rfl wf.heap.size _ (l.map M.mk) (M.mk (tl (key 5),tl s)) rfl rfl (by simp [Act.eval]) I5.out.own I5.out.his (by simp [Act.eval]) (by rw [List.length_map];exact Nat.le_trans HLEN.out (by decide)) ?_;intro v9 w9 l9 hl9 hll9 ho9 hb9 hg9)
     go_roundw
     case rel=>exact ⟨6,l++ [(tl (key 5),tl s)],(by first|rfl|go_num),by omega,hid (by rw [HP.out,if_pos rfl]),hid (I5.out.snoc HLEN.out hl9.out ho9 hb9)⟩
     case measure=>simp [intOf]
    |false=>
     go_wp2_with fail
     go_roundw
     case rel=>exact ⟨6,l,(by first|rfl|go_num),by omega,hid (by rw [HP.out,if_neg (by decide),List.append_nil]),I5⟩
     case measure=>simp [intOf]
   ·obtain ⟨G,cb,e,eg,hC⟩:=HG.out.2.2.2.2.2.2.1
    obtain ⟨G2,cb2,e2,_,_⟩:=HTk.out.2.2.2.2.2.2.1
    subst e e2
    unfold EntersF at eg
    have hix: ∀ V,Sem.run Tryz.prog (Instr.index 119 (.agg (fieldCells x0 y0 x1 y1 x2 y2 x3 y3 x4 y4 x5 y5 (.func (.func G2) #[] cb2) (.func (.func G) #[] cb) x7 y7)) (.int .i64 6)) V= .ok (.agg #[.string ⟨#[115,105,122,101]⟩,(.func (.func G2) #[] cb2), .func (.func G) #[] cb]) V:=fun V=>by kernel_rfl
    go_upto_region 9 with (refine wpList_store_row rfl 118 (.tmp 9) (.tmp 25) rfl wr.heap.size #[.string ⟨#[115,105,122,101]⟩,(.func (.func G2) #[] cb2), .func (.func G) #[] cb] (by simp [Act.eval]) (by simp [Act.eval]) 118 #[.string ⟨#[]⟩, .nilFunc, .nilFunc] (heap_alloc_new wr _) field_size rfl (by simp [Value.oneCell']) ?_;rw [World.setRow_alloc_new])
    have I1:=hid (HI.out.alloc (.cells #[.string ⟨#[115,105,122,101]⟩,(.func (.func G2) #[] cb2), .func (.func G) #[] cb] 118))
    have hf:=heap_alloc_new wr (.cells #[.string ⟨#[115,105,122,101]⟩,(.func (.func G2) #[] cb2), .func (.func G) #[] cb] 118)
    have hfs:=World.size_alloc wr (.cells #[.string ⟨#[115,105,122,101]⟩,(.func (.func G2) #[] cb2), .func (.func G) #[] cb] 118)
    generalize World.alloc wr _=W1 at*
    have f0:=cell_of_row W1 wr.heap.size 0 _ _ _ hf
    have f2:=cell_of_row W1 wr.heap.size 2 _ _ _ hf
    simp only [List.getElem?_toArray,List.getElem?_cons_zero,List.getElem?_cons_succ] at f0 f2
    have hBs:B≤W1.heap.size:=Nat.le_trans hB I1.out.below.size
    have HC:=hid (hC W1 I1.out.still I1.out.hdr hBs (I1.out.env hB HT.out))
    clear hC hf
    have hlt:wr.heap.size<W1.heap.size:=by rw [hfs];exact Nat.lt_succ_self _
    have hne:wr.heap.size≠w3.heap.size:=by have:=HI.out.his;have:=HI.out.hh;omega
    go_upto_if 32 with (go_at_fn G;refine HC.out.mono ?_;rintro e w5 ⟨s,ok,rfl,hp,hh5,hF⟩)
    have I5:=hid (I1.out.give hh5 hF)
    have f5:w5.cell? ⟨wr.heap.size,0,none⟩=some (.string ⟨#[115,105,122,101]⟩):=(World.cell?_of_block (hF.block wr.heap.size hlt hne)).trans f0
    have HP:=hid (show pieces m 7=l++(if ok=true then [(tl (key 6),tl s)] else []) by rw [pieces_succ,←HL.out,←hp])
    have HLEN:=hid HI.out.len
    clear hp hh5 hF f0 f2 HC I1 HI hix eg
    cases ok with
    |true=>
     go_wp2_with (refine Px.wpList_appR rfl (.tmp 33) (.tmp 38) rfl wf.heap.size _ (l.map M.mk) (M.mk (tl (key 6),tl s)) rfl rfl (by simp [Act.eval]) I5.out.own I5.out.his (by simp [Act.eval]) (by rw [List.length_map];exact Nat.le_trans HLEN.out (by decide)) ?_;intro v9 w9 l9 hl9 hll9 ho9 hb9 hg9)
     go_roundw
     case rel=>exact ⟨7,l++ [(tl (key 6),tl s)],(by first|rfl|go_num),by omega,hid (by rw [HP.out,if_pos rfl]),hid (I5.out.snoc HLEN.out hl9.out ho9 hb9)⟩
     case measure=>simp [intOf]
    |false=>
     go_wp2_with fail
     go_roundw
     case rel=>exact ⟨7,l,(by first|rfl|go_num),by omega,hid (by rw [HP.out,if_neg (by decide),List.append_nil]),I5⟩
     case measure=>simp [intOf]
   ·obtain ⟨G,cb,e,eg,hC⟩:=HG.out.2.2.2.2.2.2.2
    obtain ⟨G2,cb2,e2,_,_⟩:=HTk.out.2.2.2.2.2.2.2
    subst e e2
    unfold EntersF at eg
    have hix: ∀ V,Sem.run Tryz.prog (Instr.index 119 (.agg (fieldCells x0 y0 x1 y1 x2 y2 x3 y3 x4 y4 x5 y5 x6 y6 (.func (.func G2) #[] cb2) (.func (.func G) #[] cb))) (.int .i64 7)) V= .ok (.agg #[.string ⟨#[109,116,105,109,101]⟩,(.func (.func G2) #[] cb2), .func (.func G) #[] cb]) V:=fun V=>by kernel_rfl
    go_upto_region 9 with (refine wpList_store_row rfl 118 (.tmp 9) (.tmp 25) rfl wr.heap.size #[.string ⟨#[109,116,105,109,101]⟩,(.func (.func G2) #[] cb2), .func (.func G) #[] cb] (by simp [Act.eval]) (by simp [Act.eval]) 118 #[.string ⟨#[]⟩, .nilFunc, .nilFunc] (heap_alloc_new wr _) field_size rfl (by simp [Value.oneCell']) ?_;rw [World.setRow_alloc_new])
    have I1:=hid (HI.out.alloc (.cells #[.string ⟨#[109,116,105,109,101]⟩,(.func (.func G2) #[] cb2), .func (.func G) #[] cb] 118))
    have hf:=heap_alloc_new wr (.cells #[.string ⟨#[109,116,105,109,101]⟩,(.func (.func G2) #[] cb2), .func (.func G) #[] cb] 118)
    have hfs:=World.size_alloc wr (.cells #[.string ⟨#[109,116,105,109,101]⟩,(.func (.func G2) #[] cb2), .func (.func G) #[] cb] 118)
    generalize World.alloc wr _=W1 at*
    have f0:=cell_of_row W1 wr.heap.size 0 _ _ _ hf
    have f2:=cell_of_row W1 wr.heap.size 2 _ _ _ hf
    simp only [List.getElem?_toArray,List.getElem?_cons_zero,List.getElem?_cons_succ] at f0 f2
    have hBs:B≤W1.heap.size:=Nat.le_trans hB I1.out.below.size
    have HC:=hid (hC W1 I1.out.still I1.out.hdr hBs (I1.out.env hB HT.out))
    clear hC hf
    have hlt:wr.heap.size<W1.heap.size:=by rw [hfs];exact Nat.lt_succ_self _
    have hne:wr.heap.size≠w3.heap.size:=by have:=HI.out.his;have:=HI.out.hh;omega
    go_upto_if 32 with (go_at_fn G;refine HC.out.mono ?_;rintro e w5 ⟨s,ok,rfl,hp,hh5,hF⟩)
    have I5:=hid (I1.out.give hh5 hF)
    have f5:w5.cell? ⟨wr.heap.size,0,none⟩=some (.string ⟨#[109,116,105,109,101]⟩):=(World.cell?_of_block (hF.block wr.heap.size hlt hne)).trans f0
    have HP:=hid (show pieces m 8=l++(if ok=true then [(tl (key 7),tl s)] else []) by rw [pieces_succ,←HL.out,←hp])
    have HLEN:=hid HI.out.len
    clear hp hh5 hF f0 f2 HC I1 HI hix eg
    cases ok with
    |true=>
     go_wp2_with (refine Px.wpList_appR rfl (.tmp 33) (.tmp 38) rfl wf.heap.size _ (l.map M.mk) (M.mk (tl (key 7),tl s)) rfl rfl (by simp [Act.eval]) I5.out.own I5.out.his (by simp [Act.eval]) (by rw [List.length_map];exact Nat.le_trans HLEN.out (by decide)) ?_;intro v9 w9 l9 hl9 hll9 ho9 hb9 hg9)
     go_roundw
     case rel=>exact ⟨8,l++ [(tl (key 7),tl s)],(by first|rfl|go_num),by omega,hid (by rw [HP.out,if_pos rfl]),hid (I5.out.snoc HLEN.out hl9.out ho9 hb9)⟩
     case measure=>simp [intOf]
    |false=>
     go_wp2_with fail
     go_roundw
     case rel=>exact ⟨8,l,(by first|rfl|go_num),by omega,hid (by rw [HP.out,if_neg (by decide),List.append_nil]),I5⟩
     case measure=>simp [intOf]
   ·have HIM:=hid HI.out.met
    have x14:=HI.out.met.cell (i:=14) (v:= .bool m.holes) rfl
    have HO:=hid HI.out.own
    have HLEN:=hid HI.out.len
    have HGV:=hid (show M.gives m=l++M.gHoles m by rw [gives_pieces,←HL.out])
    have hBr:B≤wr.heap.size:=Nat.le_trans hB HI.out.below.size
    have hBf:B≤wf.heap.size:=by omega
    have HT0:=hid (HI.out.env hB HT.out)
    have HRP0:=hid (HRP.out.below HI.out.below)
    have hfr:wf.heap.size≤wr.heap.size:=HI.out.his
    have hwwf:w.heap.size≤wf.heap.size:=by omega
    go_upto_if 42 with fail
    go_cut [7] from 41 to 53 (fun v7 wx=>Hid (ToInv w wf wx m pv ev w.heap.size w3.heap.size wf.heap.size 10 v7 (M.gives m)))
    case first=>
     cases hh:m.holes with
     |false=>
      have HE:=hid (show M.gives m=l by
       rw [HGV.out]
       unfold M.gHoles
       rw [hh,if_neg (by decide),List.append_nil])
      go_wp2_with fail
      go_meet
      case rel=>exact hid (by rw [HE.out];exact HI.out.ten)
     |true=>
      obtain ⟨_,_,hck⟩:=HR.out.holes hh
      obtain ⟨hc1,hc2,hc3,_⟩:=M.check_facts hck
      have HLE:=hid (show m.parts.length≤3000 by omega)
      have HRL:=hid (And.intro hc2 hc3)
      have HI64:=hid HM.out.i64s
      have HE:=hid (show M.gives m=l++ [(tl M.kMap,M.layout m.parts),(tl M.kReal,Lib.itoa m.real)] by
       rw [HGV.out]
       unfold M.gHoles
       rw [hh,if_pos rfl])
      have HGL:=hid (M.gives_len m)
      have HF:=hid (show ∀ V,Below wf.heap.size wr V→V.cell? ⟨w.heap.size,15,none⟩=some (.slice Ap m.parts.length cp)∧V.cell? ⟨w.heap.size,13,none⟩=some (.int .i64 m.real) from fun V hV=>by
       have hb:MB V w.heap.size m pv ev:=HIM.out.below hV (by omega)
       exact ⟨hb.cell (i:=15) (by rw [←HPV.out];rfl),hb.cell (i:=13) rfl⟩)
      clear hck hc1 hc2 hc3 hh x14
      go_upto_region 14 with fail
      refine wp_region_held_drew (S:=fun V=>Below wf.heap.size wr V) (by kernel_rfl) (⟨rfl,rfl,rfl,Nat.le_refl _,fun _ _=>rfl⟩) (fun hS=> ?_)
      refine tkH 0 hS ?_
      refine tkH 1 hS ?_
      refine tkH 2 hS ?_ (hy:=fun W hW=>by have f0:=(HF.out W hW).1;clear hW;go_simp;first|done|with_reducible rfl)
      refine tkH 5 hS ?_
      refine tkH 6 hS ?_ (hy:=fun W hW=>by have f0:=(HF.out W hW).2;clear hW;go_simp;first|done|with_reducible rfl)
      refine loneH (i:=3) 46 rfl rfl (by kernel_rfl) (by rfl) (fun K hK=> ?_)
      go_simp
      refine (layout_any Ap m.parts.length cp m.parts _ B ((HRP0.out.below (hS.mono hwwf)).more (Nat.le_trans hwwf (Nat.le_trans hfr hS.size))) HI64.out HLE.out (Nat.le_trans hBr hS.size) (HT0.out.on (hS.mono hBf))).mono ?_
      rintro e w5 ⟨rfl,hb5⟩
      have HO5:=hid (show Px.OwnR w5 wf.heap.size u7 (l.map M.mk) from Px.OwnR.below (show Px.OwnR wr.drew wf.heap.size u7 (l.map M.mk) from HO.out) hb5)
      refine hK.out _ _ (hS.trans (hb5.mono (Nat.le_trans hfr hS.size))) (fun hS=> ?_)
      clear hK K
      try simp only [NM]
      refine tkH 4 hS ?_
      refine loneH (i:=7) 50 rfl rfl (by kernel_rfl) (by rfl) (fun K hK=> ?_)
      go_simp
      refine (Sp.itoa_any m.real (by have:=HRL.out;omega) (by have:=HRL.out;omega) B _ (HT0.out.on (hS.mono hBf))).mono ?_
      rintro e w6 ⟨rfl,hb6⟩
      have HO6:=hid (show Px.OwnR w6 wf.heap.size u7 (l.map M.mk) from HO5.out.below hb6)
      refine hK.out _ _ (hS.trans (hb6.mono (Nat.le_trans hfr hS.size))) (fun hS=> ?_)
      clear hK K
      try simp only [NM]
      refine tkH 8 hS ?_
      refine loneH (i:=9) 52 rfl rfl (by kernel_rfl) (by rfl) (fun K hK=> ?_)
      go_simp
      have hS6:=hS
      have hs6:=Nat.le_trans hfr hS.size
      refine hK.out _ _ (hS.alloc hs6 _) (fun hS=> ?_)
      clear hK K
      try simp only [NM]
      refine loneH (i:=10) 53 rfl rfl (by kernel_rfl) (by rfl) (fun K hK=> ?_)
      refine wp_append2 (.tmp 43) (.tmp 52) rfl wf.heap.size u7 (l.map M.mk) (M.mk (tl M.kMap,M.layout m.parts)) (M.mk (tl M.kReal,Lib.itoa m.real)) (by simp [Act.eval]) HO6.out hs6 (by simp [Act.eval]) (by rw [List.length_map];exact Nat.le_trans HLEN.out (by decide)) ?_
      intro v7 w7 ho7 hb7
      have HO7:=hid ho7
      have HB7:=hid (hS6.trans hb7)
      refine hK.out _ _ HB7.out (fun hS=> ?_)
      clear hK K
      try simp only [NM]
      refine tkH 11 hS ?_
      refine wpAnyH_done (by kernel_rfl) ?_ _
      try simp only [NM]
      go_wp2_with fail
      go_meet
      case rel=>exact hid (HI.out.two HGL.out (by rw [HE.out,List.map_append];exact HO7.out) HB7.out)
    case rest=>
     have HJ:=hid hcut.out
     have HSH:=hid (M.gives_short HR.out)
     have HGL:=hid (M.gives_len m)
     obtain ⟨A7,c7,e7,hr7,hc7,_⟩:=HJ.out.own.rd
     rw [List.length_map] at e7
     have x16:=HJ.out.met.cell (i:=16) (v:=ev) rfl
     have HEX:=hid ((HRE.out.below HJ.out.below).more HJ.out.below.size)
     have HFX:=hid HM.out.fits
     have HNX:=hid HM.out.nextra
     rw [HEV.out] at x16
     have HMG:=hid (Px.merge_own A7 c7 ((M.gives m).map M.mk) Ae ce m.extra (by rw [List.length_map];exact Nat.le_trans HGL.out (by decide)) (Nat.le_trans HNX.out (by decide)) (by
       intro r hr
       obtain ⟨q,hq,rfl⟩:=List.mem_map.1 hr
       have:=HSH.out q hq
       exact ⟨Nat.le_trans this.1 (by decide),Nat.le_trans this.2 (by decide)⟩) (fun r hr=>⟨Nat.le_trans (HFX.out r hr).1 (by decide),Nat.le_trans (HFX.out r hr).2 (by decide)⟩) wc (by exact hr7) HEX.out)
     rw [List.length_map] at HMG
     subst e7
     have HYc:=hid (show w.heap.size+1<wc.heap.size from HJ.out.res.lt)
     clear hcut hr7 hc7 HI HIM x14 HO HLEN HGV hBr hBf HT0 HRP0
     go_wp2_with fail
     refine HMG.out.mono ?_
     rintro e w8 ⟨A8,c8,rs,rfl,hr8,hl8,hc8,hm8,hn8,hb8,ho8⟩
     have HO8:=hid ho8
     clear ho8
     have HM8:=hid (show Px.rcs rs=M.recsOf m by
      rw [hm8]
      unfold M.recsOf
      have e1:Px.rcs ((M.gives m).map M.mk)=M.gives m:=by
       unfold Px.rcs
       rw [List.map_map]
       conv=>rhs;rw [←List.map_id (M.gives m)]
       exact List.map_congr_left fun r _=>rfl
      rw [e1];rfl)
     have HRS:=hid (show rs=(M.recsOf m).map M.mk by
      rw [←HM8.out]
      unfold Px.rcs
      rw [List.map_map]
      conv=>lhs;rw [←List.map_id rs]
      exact List.map_congr_left fun r _=>rfl)
     have HLR:=hid (show rs.length=(M.recsOf m).length by rw [HRS.out,List.length_map])
     have HSR:=hid (show Px.Short rs from fun r hr=>by
      have h1:Px.rc r∈M.recsOf m:=by rw [←HM8.out];exact List.mem_map_of_mem hr
      rcases M.merge_mem h1 with h2|h2
      ·have:=HSH.out _ h2
       show (tl r.1).length+(tl r.2).length≤_
       have h3:(tl r.1).length≤100:=this.1
       have h4:(tl r.2).length≤1048576:=this.2
       omega
      ·obtain ⟨q,hq,he⟩:=List.mem_map.1 h2
       have h5:=HFX.out q hq
       have e1:tl q.1=tl r.1:=congrArg Prod.fst he
       have e2:tl q.2=tl r.2:=congrArg Prod.snd he
       have h6:(tl q.1).length=q.1.size:=rfl
       have h7:(tl q.2).length=q.2.size:=rfl
       show (tl r.1).length+(tl r.2).length≤_
       rw [←e1,←e2]
       omega)
     have HR8:=hid hr8
     have HC8:=hid hl8
     have HB8:=hid (HJ.out.below.trans (hb8.mono HJ.out.below.size))
     have hlm:(M.gives m).length≤10:=HGL.out
     have HN8:=hid (show rs.length≤1048576 by
      have:=HNX.out
      omega)
     have HX8:=hid (show HB w8 w3.heap.size (M.head m) (.slice none 0 0) from HJ.out.hdr.below hb8 HJ.out.hdr.lt)
     have HY8:=hid (show HB w8 (w.heap.size+1) {} (.slice none 0 0) from HJ.out.res.below hb8 HJ.out.res.lt)
     have HPR:=hid (Px.print_any A8 c8 rs HN8.out HSR.out B w8 (Nat.le_trans hB HB8.out.size) (HT.out.on (HB8.out.mono hB)).tens HR8.out)
     have hgh:=HJ.out.gh
     clear hr8 hl8 hc8 hm8 hn8 hb8 HMG HSR HEX x16 HJ
     go_wp2_with fail
     refine HPR.out.mono ?_
     rintro e w9 ⟨v9,rfl,_,hb9⟩
     have HB9:=hid (HB8.out.trans (hb9.mono HB8.out.size))
     have HX9:=hid (HX8.out.below hb9 HX8.out.lt)
     have HY9:=hid (HY8.out.below hb9 HY8.out.lt)
     have HO9:=hid (HO8.out.below hb9)
     have hwc:w.heap.size+1<wc.heap.size:=HYc.out
     have HEE:=hid (show Px.M.printE (Px.rcs rs)=M.toE m by
      rw [HM8.out]
      unfold M.toE
      rw [hwr,if_neg (by simp)])
     clear hb9 HPR HX8 HY8 HR8
     obtain ⟨n,hn⟩: ∃ n,Px.M.printE (Px.rcs rs)=n:=⟨_,rfl⟩
     rw [hn] at HEE⊢
     clear hn
     by_cases hn0:n=0
     ·subst hn0
      have HE1:=hid (show M.toE m=0 from HEE.out.symm)
      have HE2:=hid (show M.toH m=M.head m by unfold M.toH;rw [if_pos HE1.out])
      have HE3:=hid (show M.toR m=M.recsOf m by unfold M.toR;rw [if_pos HE1.out])
      go_upto_region 19 with fail
      go_wp2_with (first
       |(refine wpList_load_row rfl 39 (.tmp 6) rfl w3.heap.size (by rfl) 39 (hcells (M.head m) (.slice none 0 0)) (0,0) _ HX9.out Tryz.underlying39 rfl hdr_size ?_)
       |(refine wpList_store_row rfl 39 (.tmp 2) (.tmp 67) rfl (w.heap.size+1) (hcells (M.head m) (.slice none 0 0)) (by simp [Act.eval]) (by simp [Act.eval]) 39 (hcells {} (.slice none 0 0)) HY9.out hdr_size rfl (hcells_one _ rfl) ?_))
      have HRw:=hid (show HB (w9.setRow (w.heap.size+1) (hcells (M.head m) (.slice none 0 0))) (w.heap.size+1) (M.head m) (.slice none 0 0) from setRow_heap w9 _ _ _ _ _ HY9.out)
      have HSw:=hid (below_setRow (g:=w.heap.size+1) HB9.out (Nat.le_succ _) (hcells (M.head m) (.slice none 0 0)))
      refine bodyPost_ret (results_to HRw.out rfl rfl rfl) rfl ?_
      refine ⟨A8,c8, ?_, ?_, ?_,HSw.out⟩
      ·rw [HE1.out,HE2.out,HE3.out,←HLR.out];rfl
      ·rw [HE3.out,←HRS.out]
       exact own_rd (own_setRow HO9.out hwc _)
      ·rw [HE3.out,←HLR.out];exact HC8.out
     ·have hz:((n:Int)==0)=false:=by rw [beq_eq_false_iff_ne];omega
      have HE1:=hid (show M.toE m=n from HEE.out.symm)
      have HE2:=hid (show M.toH m= {} by unfold M.toH;rw [HE1.out,if_neg hn0])
      have HE3:=hid (show M.toR m= [] by unfold M.toR;rw [HE1.out,if_neg hn0])
      clear hn0
      go_wp2_with (refine wpList_store_row rfl 39 (.tmp 2) (.tmp 65) rfl (w.heap.size+1) (hcells {} (.slice none 0 0)) (by simp [Act.eval]) (by simp [Act.eval,hcells]) 39 (hcells {} (.slice none 0 0)) HY9.out hdr_size rfl (hcells_one _ rfl) ?_)
      have HRw:=hid (show HB (w9.setRow (w.heap.size+1) (hcells {} (.slice none 0 0))) (w.heap.size+1) {} (.slice none 0 0) from setRow_heap w9 _ _ _ _ _ HY9.out)
      have HSw:=hid (below_setRow (g:=w.heap.size+1) HB9.out (Nat.le_succ _) (hcells {} (.slice none 0 0)))
      refine bodyPost_ret (results_to HRw.out rfl rfl rfl) rfl ?_
      refine ⟨none,0, ?_, ?_, ?_,HSw.out⟩
      ·rw [HE1.out,HE2.out,HE3.out];rfl
      ·rw [HE3.out];exact Px.RdR.none_
      ·rw [HE3.out];exact Nat.le_refl _
end Go.Proofs.YtgbgngdakkiclaaGreatDoor
