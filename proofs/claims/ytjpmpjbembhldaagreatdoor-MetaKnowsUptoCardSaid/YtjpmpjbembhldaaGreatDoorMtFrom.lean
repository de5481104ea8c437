import Derived.Test.YtjpmpjbembhldaaGreatDoorMtFromZ
import Derived.Deep.CutRange
set_option linter.unusedVariables false
set_option linter.unusedSimpArgs false
namespace Go.Proofs.YtjpmpjbembhldaaGreatDoor
open Go.RowKit Go.Lib
open Px (R2 tl)
attribute [local go_sem ↓] add_plain
set_option maxRecDepth 100000 in
set_option maxHeartbeats 8000000 in
theorem from_any (h:M.Hdr) (hp:Value) (l:List R2) (names links:List ByteArray) (more:List (Int × Int)) (A An Al Am:Option Addr) (c cn cl cm:Nat) (B:Nat) (w:World) (hi:FIn w h hp l names links more A An Al Am) (hB:B≤w.heap.size) (ht:Sp.EV B w):
  Calls Tryz.prog 11 #[.agg (hcells h hp), .slice A l.length c, .slice An names.length cn, .slice Al links.length cl, .slice Am more.length cm] w (FromIs h l names links more w):=by
 go_enter Tryz.func11,Tryz.ntmps11
 go_upto_region 1 with fail
 have hb1:=below2 w (.cells (hcells h hp) 24) (.cells (mcells {} (.slice none 0 0) (.slice none 0 0)) 45)
 have HB1:=HB.alloc (HB.new w h hp) (.cells (mcells {} (.slice none 0 0) (.slice none 0 0)) 45)
 have MB1:=MB.new (w.alloc (.cells (hcells h hp) 24)) {} (.slice none 0 0) (.slice none 0 0)
 rw [World.size_alloc] at MB1
 have hsz:((w.alloc (.cells (hcells h hp) 24)).alloc (.cells (mcells {} (.slice none 0 0) (.slice none 0 0)) 45)).heap.size=w.heap.size+2:=by simp
 change Code.wp _ _ _ _ ((w.alloc (.cells (hcells h hp) 24)).alloc (.cells (mcells {} (.slice none 0 0) (.slice none 0 0)) 45))
 generalize World.alloc (World.alloc w _) _=W at*
 have k6:=HB1.cell (i:=6) (v:= .int .u8 h.kind) rfl
 have HN:=hid (fun V=>within_any h.kind 48 55 V)
 have hk0:=hi.kind
 have HI:=hid hi
 have HT:=hid ht
 have HB1:=hid HB1
 have MB1:=hid MB1
 have HW1:=hid hb1
 clear hi ht hb1
 go_cut [29] from 20 to 29 (fun v wx=>v= .bool (!(M.kindMay h.kind))∧W=wx)
 case first=>
  have hw:(IntKind.i64.wrap h.kind)=h.kind:=by rw [IntKind.wrap_i64];omega
  have hmay:(!(M.kindMay h.kind))=(h.kind !=83&& !M.within h.kind 48 55):=by
   unfold M.kindMay
   cases h83:h.kind==83<;>cases M.within h.kind 48 55<;>simp [bne,h83]
  have HMY:=hid hmay
  clear hmay
  go_wp2_with (go_at_call 26;(with_reducible refine (HN.out _).mono ?_);rintro e w5 ⟨rfl,rfl⟩)
  all_goals
   go_meet
   case rel=>exact ⟨by first|(rw [HMY.out];done)|(rw [HMY.out];simp_all),rfl⟩
 obtain ⟨rfl,rfl⟩:=hcut
 clear HN k6 hk0
 cases hkm:M.kindMay h.kind with
 |false=>
  have hE:M.fromE h (Px.rcs l) names links more=31:=by unfold M.fromE;rw [if_pos hkm]
  have hM:M.fromM h (Px.rcs l) names links more= {} :=by unfold M.fromM;rw [hE];rfl
  have HE:=hid (And.intro hE hM)
  clear hE hM hkm
  go_wp2_with (refine wpList_store_row rfl 45 (.tmp 10) (.tmp 30) rfl (w.heap.size+1) (mcells {} (.slice none 0 0) (.slice none 0 0)) (by simp [Act.eval]) (by simp [Act.eval,mcells]) 45 (mcells {} (.slice none 0 0) (.slice none 0 0)) MB1.out met_size rfl (mcells_one _ rfl rfl) ?_)
  have HR:=hid (met_row (m':= {}) MB1.out)
  have HS:=hid (below_setRow (g:=w.heap.size+1) HW1.out (Nat.le_succ _) (mcells {} (.slice none 0 0) (.slice none 0 0)))
  refine bodyPost_ret (results_from HR.out rfl rfl) rfl ?_
  exact ⟨.slice none 0 0, .slice none 0 0,by rw [HE.out.1,HE.out.2];rfl,by rw [HE.out.2];exact min_empty _,HS.out⟩
 |true=>
  have hI:=HI.out
  go_wp2_with (refine wpList_load_row rfl 24 (.tmp 5) rfl w.heap.size (by rfl) 24 (hcells h hp) (0,0) _ HB1.out Tryz.underlying24 rfl hdr_size ?_)
  refine (told_any h hp names links An Al cn cl W ?_ ?_ ⟨by have:=hI.pn;omega,by have:=hI.pn;omega⟩ hI.nnames).mono ?_
  ·exact rdT_later hI.rnames HW1.out
  ·exact rdT_later hI.rlinks HW1.out
  rintro e w2 ⟨rfl,hb2⟩
  clear hI
  have HB2:=hid (HB1.out.below hb2 (by rw [hsz];omega))
  have MB2:=hid (MB1.out.below hb2 (by rw [hsz];omega))
  have HW2:=hid (HW1.out.trans (hb2.mono HW1.out.size))
  have hs2:w.heap.size+2≤w2.heap.size:=by rw [←hsz];exact hb2.size
  clear hb2 HB1 MB1 HW1 hsz
  have FM:=hid (show Fit1 (M.told h names links) from by
   have hI:=HI.out
   obtain ⟨i1,i2,i3,i4,i5,i6,_⟩:=hI.ints
   exact fit_told hI.kind hI.pn hI.texts.1 hI.texts.2.1 hI.texts.2.2 hI.tnames.1 hI.tnames.2 i1 i2 i3 i4 i5 i6)
  have HP0:=hid (show (M.told h names links).parts= [] from rfl)
  have HE0:=hid (show (M.told h names links).extra= [] from rfl)
  obtain ⟨m0,hm0⟩: ∃ m0,M.told h names links=m0:=⟨_,rfl⟩
  have HM0:=hid hm0
  rw [hm0] at FM HP0 HE0⊢
  clear hm0
  go_wp2_with (refine wpList_store_row rfl 45 (.tmp 12) (.tmp 34) rfl w2.heap.size (mcells m0 (.slice none 0 0) (.slice none 0 0)) (by simp [Act.eval]) (by simp [Act.eval]) 45 (mcells {} (.slice none 0 0) (.slice none 0 0)) (heap_alloc_new w2 _) met_size rfl (mcells_one _ rfl rfl) ?_;rw [World.setRow_alloc_new])
  have hb3:=(Below.refl w2.heap.size w2).alloc (Nat.le_refl _) (.cells (mcells m0 (.slice none 0 0) (.slice none 0 0)) 45)
  have hm3:=MB.new w2 m0 (.slice none 0 0) (.slice none 0 0)
  have hs3:=World.size_alloc w2 (.cells (mcells m0 (.slice none 0 0) (.slice none 0 0)) 45)
  generalize World.alloc w2 _=w3 at*
  have hI:=HI.out
  have HB3:=hid (HB2.out.below hb3 (by omega))
  have MR3:=hid (MB2.out.below hb3 (by omega))
  have MB3:=hid hm3
  have HW3:=hid (HW2.out.trans (hb3.mono HW2.out.size))
  clear hb3 hm3 HB2 MB2 HW2
  refine (Px.merge_own A c l none 0 [] (Nat.le_trans hI.nrecs (by decide)) (by decide) (fun r hr=>⟨Nat.le_trans (hI.fits r hr).1 (by decide),Nat.le_trans (hI.fits r hr).2 (by decide)⟩) (fun r hr=>by cases hr) w3 ((hI.rrecs.below HW3.out).more HW3.out.size) Px.RdR.none_).mono ?_
  rintro e w4 ⟨A4,c4,rs,rfl,hrd4,_,_,hrs,hrl,hb4,ho4⟩
  have HF4:=hid (show ∀ r∈rs,r.1.size≤1048576∧r.2.size≤1048576 from merged_fit hrs hI.fits)
  have HRS:=hid hrs
  have HL4:=hid (show rs.length≤500000 from by have:=hI.nrecs;simp at hrl;omega)
  have HO4:=hid ho4
  have HB4:=hid (HB3.out.below hb4 (by omega))
  have MR4:=hid (MR3.out.below hb4 (by omega))
  have MB4:=hid (MB3.out.below hb4 (by omega))
  have HW4:=hid (HW3.out.trans (hb4.mono HW3.out.size))
  have hs4:=hb4.size
  clear hI hrd4 hrs hrl hb4 ho4 HB3 MR3 MB3 HW3
  go_wp2_with fail
  refine (fields_any w2.heap.size w.heap.size B m0 (.slice none 0 0) (.slice none 0 0) w4 MB4.out (by omega) (by omega) (by omega) ⟨FM.out.name,FM.out.link,FM.out.user,FM.out.group⟩ ⟨FM.out.uid,FM.out.gid,FM.out.sz⟩).mono ?_
  rintro e wf ⟨x0,y0,x1,y1,x2,y2,x3,y3,x4,y4,x5,y5,x6,y6,x7,y7,rfl,hbf,hTk,hG⟩
  have HTk:=hid hTk
  have HG:=hid hG
  clear hTk hG
  have hsf:=hbf.size
  have HB5:=hid (HB4.out.below hbf (by omega))
  have MR5:=hid (MR4.out.below hbf (by omega))
  have MB5:=hid (MB4.out.below hbf (by omega))
  have HO5:=hid (HO4.out.below hbf)
  have HW5:=hid (HW4.out.trans (hbf.mono HW4.out.size))
  clear hbf HB4 MR4 MB4 HO4 HW4
  go_wp2_with fail
  have I0:=hid (show FrInv w wf wf h hp m0 w2.heap.size wf.heap.size A4 c4 rs from
   ⟨MB5.out,MR5.out,HB5.out,⟨Nat.le_refl _,fun _ _ _=>rfl⟩,HO5.out.lower (by omega),HW5.out,by omega,by omega⟩)
  have P0:=hid (And.intro HP0.out HE0.out)
  clear HB5 MR5 MB5 HO5 HW5 HP0 HE0
  go_loopw [38] (fun iv wr=> ∃ (i:Nat) (m:M.Met),iv= .int .i64 i∧i≤8∧Hid (steps (Px.rcs rs) i m0=some m)∧Hid (Fit1 m)∧Hid (m.parts= []∧m.extra= [])∧Hid (FrInv w wf wr h hp m w2.heap.size wf.heap.size A4 c4 rs)) (fun iv _=>8 - (intOf iv).toNat)
  case atStart=>exact ⟨0,m0,rfl,by omega,hid rfl,FM,P0,I0⟩
  case round=>
   obtain ⟨i,m,rfl,hi,HS,FM1,P1,HI1⟩:=hrel
   clear FM P0 I0
   have hi9:i=0∨i=1∨i=2∨i=3∨i=4∨i=5∨i=6∨i=7∨i=8:=by omega
   clear hi
   rcases hi9 with rfl|rfl|rfl|rfl|rfl|rfl|rfl|rfl|rfl
   ·obtain ⟨G,cb,e,_,_⟩:=HG.out.1
    obtain ⟨G2,cb2,e2,eg,hC⟩:=HTk.out.1
    subst e e2
    unfold EntersF at eg
    have hix: ∀ V,Sem.run Tryz.prog (Instr.index 63 (.agg (fieldCells (.func (.func G2) #[] cb2) (.func (.func G) #[] cb) x1 y1 x2 y2 x3 y3 x4 y4 x5 y5 x6 y6 x7 y7)) (.int .i64 0)) V= .ok (.agg #[.string ⟨#[112,97,116,104]⟩,(.func (.func G2) #[] cb2), .func (.func G) #[] cb]) V:=fun V=>by kernel_rfl
    go_upto_region 8 with (refine wpList_store_row rfl 62 (.tmp 14) (.tmp 40) rfl wr.heap.size #[.string ⟨#[112,97,116,104]⟩,(.func (.func G2) #[] cb2), .func (.func G) #[] cb] (by simp [Act.eval]) (by simp [Act.eval]) 62 #[.string ⟨#[]⟩, .nilFunc, .nilFunc] (heap_alloc_new wr _) field_size rfl (by simp [Value.oneCell']) ?_;rw [World.setRow_alloc_new])
    have I1:=hid (HI1.out.later ((Below.refl _ wr).alloc (Nat.le_refl _) (.cells #[.string ⟨#[112,97,116,104]⟩,(.func (.func G2) #[] cb2), .func (.func G) #[] cb] 62)))
    have hf:=heap_alloc_new wr (.cells #[.string ⟨#[112,97,116,104]⟩,(.func (.func G2) #[] cb2), .func (.func G) #[] cb] 62)
    have hfs:=World.size_alloc wr (.cells #[.string ⟨#[112,97,116,104]⟩,(.func (.func G2) #[] cb2), .func (.func G) #[] cb] 62)
    generalize World.alloc wr _=W1 at*
    have f0:=cell_of_row W1 wr.heap.size 0 _ _ _ hf
    have f1:=cell_of_row W1 wr.heap.size 1 _ _ _ hf
    simp only [List.getElem?_toArray,List.getElem?_cons_zero,List.getElem?_cons_succ] at f0 f1
    have hlt:wr.heap.size<W1.heap.size:=by rw [hfs];exact Nat.lt_succ_self _
    clear hf
    go_wp2_with fail
    refine ((callsIn_wide (n:=5)).1 (Px.find_in A4 c4 rs ⟨#[112,97,116,104]⟩ (Nat.le_trans HL4.out (by decide)) W1 (own_rd I1.out.own))).mono ?_
    rintro e w5 ⟨v,b,rfl,hv,hb,hw5⟩
    have I5:=hid (I1.out.later hw5)
    have g1:=(hw5.cell (p:=⟨wr.heap.size,1,none⟩) hlt).trans f1
    clear f0 f1 hix I1 HI1
    have hv':tl v=(Px.M.find (Px.rcs rs) (tl (key 0))).getD []:=hv
    have hb':b=(Px.M.find (Px.rcs rs) (tl (key 0))).isSome:=hb
    clear hv hb
    cases hfd:Px.M.find (Px.rcs rs) (tl (key 0)) with
    |none=>
     rw [hfd] at hb'
     obtain rfl:b=false:=hb'
     have HS1:=hid (steps_next HS.out (show stepM (Px.rcs rs) 0 m=some m by unfold stepM;rw [hfd]))
     clear hfd hv' eg hC HS
     go_wp2_with fail
     go_roundw
     case rel=>exact ⟨1,m,(by first|rfl|go_num),by omega,HS1,FM1,P1,I5⟩
     case measure=>simp [intOf]
    |some u=>
     rw [hfd] at hb' hv'
     obtain rfl:b=true:=hb'
     obtain rfl:tl v=u:=hv'
     have hvs:v.size≤1048576:=by
      have:=find_len (fun x hx=> ?hrs) hfd
      ·simpa [tl,Px.tl] using this
      case hrs=>
       obtain ⟨q,hq,rfl⟩:=List.mem_map.1 hx
       have:=(HF4.out q hq).2
       simpa [Px.rc,Px.tl] using this
     have hbk:(⟨(tl v).toArray⟩:ByteArray)=v:=tl_inj (tl_back _)
     have HST:=hid (show stepM (Px.rcs rs) 0 m=if takeOk v 0=true then some (takeM v m 0) else none by unfold stepM;rw [hfd];dsimp only;rw [hbk])
     have HC:=hid (hC w5 v m (.slice none 0 0) (.slice none 0 0) ⟨I5.out.still.1,fun k a b=>I5.out.still.2 k (by omega) b⟩ I5.out.met hvs (Nat.le_trans hB I5.out.below.size) (HT.out.on (I5.out.below.mono hB)))
     clear hfd hC hvs hbk
     go_upto_if 55 with (go_at_fn G2;refine HC.out.mono ?_;rintro e w6 ⟨rfl,hm6,hF6⟩)
     have I6:=hid (I5.out.take hm6 hF6)
     clear hm6 hF6 HC g1 eg
     cases hok:takeOk v 0 with
     |true=>
      have HS1:=hid (steps_next HS.out (HST.out.trans (if_pos hok)))
      have FM2:=hid (fit_step (fun x hx=>by
       obtain ⟨q,hq,rfl⟩:=List.mem_map.1 hx
       have:=(HF4.out q hq).2
       simpa [Px.rc,Px.tl] using this) FM1.out (HST.out.trans (if_pos hok)))
      have P2:=hid (show (takeM v m 0).parts= []∧(takeM v m 0).extra= [] from P1.out)
      clear hok HST HS FM1 P1 I5
      go_wp2_with fail
      go_roundw
      case rel=>exact ⟨1,takeM v m 0,(by first|rfl|go_num),by omega,HS1,FM2,P2,I6⟩
      case measure=>simp [intOf]
     |false=>
      have HTN:=hid (taken_none (show 0<8 by omega) HS.out (HST.out.trans (if_neg (by rw [hok];decide))))
      clear hok HST HS FM1 P1 I5
      have HE:=hid (from34 (more:=more) hkm (known_none1 HRS.out HM0.out HTN.out))
      go_wp2_with (refine wpList_store_row rfl 45 (.tmp 10) (.tmp 56) rfl (w.heap.size+1) (mcells {} (.slice none 0 0) (.slice none 0 0)) (by simp [Act.eval]) (by simp [Act.eval,mcells]) 45 (mcells {} (.slice none 0 0) (.slice none 0 0)) I6.out.res met_size rfl (mcells_one _ rfl rfl) ?_)
      have HR:=hid (met_row (m':= {}) I6.out.res)
      have HS:=hid (below_setRow (g:=w.heap.size+1) I6.out.below (Nat.le_succ _) (mcells {} (.slice none 0 0) (.slice none 0 0)))
      refine bodyPost_ret (results_from HR.out rfl rfl) rfl ?_
      exact ⟨.slice none 0 0, .slice none 0 0,by rw [HE.out.1,HE.out.2];rfl,by rw [HE.out.2];exact min_empty _,HS.out⟩
   ·obtain ⟨G,cb,e,_,_⟩:=HG.out.2.1
    obtain ⟨G2,cb2,e2,eg,hC⟩:=HTk.out.2.1
    subst e e2
    unfold EntersF at eg
    have hix: ∀ V,Sem.run Tryz.prog (Instr.index 63 (.agg (fieldCells x0 y0 (.func (.func G2) #[] cb2) (.func (.func G) #[] cb) x2 y2 x3 y3 x4 y4 x5 y5 x6 y6 x7 y7)) (.int .i64 1)) V= .ok (.agg #[.string ⟨#[108,105,110,107,112,97,116,104]⟩,(.func (.func G2) #[] cb2), .func (.func G) #[] cb]) V:=fun V=>by kernel_rfl
    go_upto_region 8 with (refine wpList_store_row rfl 62 (.tmp 14) (.tmp 40) rfl wr.heap.size #[.string ⟨#[108,105,110,107,112,97,116,104]⟩,(.func (.func G2) #[] cb2), .func (.func G) #[] cb] (by simp [Act.eval]) (by simp [Act.eval]) 62 #[.string ⟨#[]⟩, .nilFunc, .nilFunc] (heap_alloc_new wr _) field_size rfl (by simp [Value.oneCell']) ?_;rw [World.setRow_alloc_new])
    have I1:=hid (HI1.out.later ((Below.refl _ wr).alloc (Nat.le_refl _) (.cells #[.string ⟨#[108,105,110,107,112,97,116,104]⟩,(.func (.func G2) #[] cb2), .func (.func G) #[] cb] 62)))
    have hf:=heap_alloc_new wr (.cells #[.string ⟨#[108,105,110,107,112,97,116,104]⟩,(.func (.func G2) #[] cb2), .func (.func G) #[] cb] 62)
    have hfs:=World.size_alloc wr (.cells #[.string ⟨#[108,105,110,107,112,97,116,104]⟩,(.func (.func G2) #[] cb2), .func (.func G) #[] cb] 62)
    generalize World.alloc wr _=W1 at*
    have f0:=cell_of_row W1 wr.heap.size 0 _ _ _ hf
    have f1:=cell_of_row W1 wr.heap.size 1 _ _ _ hf
    simp only [List.getElem?_toArray,List.getElem?_cons_zero,List.getElem?_cons_succ] at f0 f1
    have hlt:wr.heap.size<W1.heap.size:=by rw [hfs];exact Nat.lt_succ_self _
    clear hf
    go_wp2_with fail
    refine ((callsIn_wide (n:=5)).1 (Px.find_in A4 c4 rs ⟨#[108,105,110,107,112,97,116,104]⟩ (Nat.le_trans HL4.out (by decide)) W1 (own_rd I1.out.own))).mono ?_
    rintro e w5 ⟨v,b,rfl,hv,hb,hw5⟩
    have I5:=hid (I1.out.later hw5)
    have g1:=(hw5.cell (p:=⟨wr.heap.size,1,none⟩) hlt).trans f1
    clear f0 f1 hix I1 HI1
    have hv':tl v=(Px.M.find (Px.rcs rs) (tl (key 1))).getD []:=hv
    have hb':b=(Px.M.find (Px.rcs rs) (tl (key 1))).isSome:=hb
    clear hv hb
    cases hfd:Px.M.find (Px.rcs rs) (tl (key 1)) with
    |none=>
     rw [hfd] at hb'
     obtain rfl:b=false:=hb'
     have HS1:=hid (steps_next HS.out (show stepM (Px.rcs rs) 1 m=some m by unfold stepM;rw [hfd]))
     clear hfd hv' eg hC HS
     go_wp2_with fail
     go_roundw
     case rel=>exact ⟨2,m,(by first|rfl|go_num),by omega,HS1,FM1,P1,I5⟩
     case measure=>simp [intOf]
    |some u=>
     rw [hfd] at hb' hv'
     obtain rfl:b=true:=hb'
     obtain rfl:tl v=u:=hv'
     have hvs:v.size≤1048576:=by
      have:=find_len (fun x hx=> ?hrs) hfd
      ·simpa [tl,Px.tl] using this
      case hrs=>
       obtain ⟨q,hq,rfl⟩:=List.mem_map.1 hx
       have:=(HF4.out q hq).2
       simpa [Px.rc,Px.tl] using this
     have hbk:(⟨(tl v).toArray⟩:ByteArray)=v:=tl_inj (tl_back _)
     have HST:=hid (show stepM (Px.rcs rs) 1 m=if takeOk v 1=true then some (takeM v m 1) else none by unfold stepM;rw [hfd];dsimp only;rw [hbk])
     have HC:=hid (hC w5 v m (.slice none 0 0) (.slice none 0 0) ⟨I5.out.still.1,fun k a b=>I5.out.still.2 k (by omega) b⟩ I5.out.met hvs (Nat.le_trans hB I5.out.below.size) (HT.out.on (I5.out.below.mono hB)))
     clear hfd hC hvs hbk
     go_upto_if 55 with (go_at_fn G2;refine HC.out.mono ?_;rintro e w6 ⟨rfl,hm6,hF6⟩)
     have I6:=hid (I5.out.take hm6 hF6)
     clear hm6 hF6 HC g1 eg
     cases hok:takeOk v 1 with
     |true=>
      have HS1:=hid (steps_next HS.out (HST.out.trans (if_pos hok)))
      have FM2:=hid (fit_step (fun x hx=>by
       obtain ⟨q,hq,rfl⟩:=List.mem_map.1 hx
       have:=(HF4.out q hq).2
       simpa [Px.rc,Px.tl] using this) FM1.out (HST.out.trans (if_pos hok)))
      have P2:=hid (show (takeM v m 1).parts= []∧(takeM v m 1).extra= [] from P1.out)
      clear hok HST HS FM1 P1 I5
      go_wp2_with fail
      go_roundw
      case rel=>exact ⟨2,takeM v m 1,(by first|rfl|go_num),by omega,HS1,FM2,P2,I6⟩
      case measure=>simp [intOf]
     |false=>
      have HTN:=hid (taken_none (show 1<8 by omega) HS.out (HST.out.trans (if_neg (by rw [hok];decide))))
      clear hok HST HS FM1 P1 I5
      have HE:=hid (from34 (more:=more) hkm (known_none1 HRS.out HM0.out HTN.out))
      go_wp2_with (refine wpList_store_row rfl 45 (.tmp 10) (.tmp 56) rfl (w.heap.size+1) (mcells {} (.slice none 0 0) (.slice none 0 0)) (by simp [Act.eval]) (by simp [Act.eval,mcells]) 45 (mcells {} (.slice none 0 0) (.slice none 0 0)) I6.out.res met_size rfl (mcells_one _ rfl rfl) ?_)
      have HR:=hid (met_row (m':= {}) I6.out.res)
      have HS:=hid (below_setRow (g:=w.heap.size+1) I6.out.below (Nat.le_succ _) (mcells {} (.slice none 0 0) (.slice none 0 0)))
      refine bodyPost_ret (results_from HR.out rfl rfl) rfl ?_
      exact ⟨.slice none 0 0, .slice none 0 0,by rw [HE.out.1,HE.out.2];rfl,by rw [HE.out.2];exact min_empty _,HS.out⟩
   ·obtain ⟨G,cb,e,_,_⟩:=HG.out.2.2.1
    obtain ⟨G2,cb2,e2,eg,hC⟩:=HTk.out.2.2.1
    subst e e2
    unfold EntersF at eg
    have hix: ∀ V,Sem.run Tryz.prog (Instr.index 63 (.agg (fieldCells x0 y0 x1 y1 (.func (.func G2) #[] cb2) (.func (.func G) #[] cb) x3 y3 x4 y4 x5 y5 x6 y6 x7 y7)) (.int .i64 2)) V= .ok (.agg #[.string ⟨#[117,110,97,109,101]⟩,(.func (.func G2) #[] cb2), .func (.func G) #[] cb]) V:=fun V=>by kernel_rfl
    go_upto_region 8 with (refine wpList_store_row rfl 62 (.tmp 14) (.tmp 40) rfl wr.heap.size #[.string ⟨#[117,110,97,109,101]⟩,(.func (.func G2) #[] cb2), .func (.func G) #[] cb] (by simp [Act.eval]) (by simp [Act.eval]) 62 #[.string ⟨#[]⟩, .nilFunc, .nilFunc] (heap_alloc_new wr _) field_size rfl (by simp [Value.oneCell']) ?_;rw [World.setRow_alloc_new])
    have I1:=hid (HI1.out.later ((Below.refl _ wr).alloc (Nat.le_refl _) (.cells #[.string ⟨#[117,110,97,109,101]⟩,(.func (.func G2) #[] cb2), .func (.func G) #[] cb] 62)))
    have hf:=heap_alloc_new wr (.cells #[.string ⟨#[117,110,97,109,101]⟩,(.func (.func G2) #[] cb2), .func (.func G) #[] cb] 62)
    have hfs:=World.size_alloc wr (.cells #[.string ⟨#[117,110,97,109,101]⟩,(.func (.func G2) #[] cb2), .func (.func G) #[] cb] 62)
    generalize World.alloc wr _=W1 at*
    have f0:=cell_of_row W1 wr.heap.size 0 _ _ _ hf
    have f1:=cell_of_row W1 wr.heap.size 1 _ _ _ hf
    simp only [List.getElem?_toArray,List.getElem?_cons_zero,List.getElem?_cons_succ] at f0 f1
    have hlt:wr.heap.size<W1.heap.size:=by rw [hfs];exact Nat.lt_succ_self _
    clear hf
    go_wp2_with fail
    refine ((callsIn_wide (n:=5)).1 (Px.find_in A4 c4 rs ⟨#[117,110,97,109,101]⟩ (Nat.le_trans HL4.out (by decide)) W1 (own_rd I1.out.own))).mono ?_
    rintro e w5 ⟨v,b,rfl,hv,hb,hw5⟩
    have I5:=hid (I1.out.later hw5)
    have g1:=(hw5.cell (p:=⟨wr.heap.size,1,none⟩) hlt).trans f1
    clear f0 f1 hix I1 HI1
    have hv':tl v=(Px.M.find (Px.rcs rs) (tl (key 2))).getD []:=hv
    have hb':b=(Px.M.find (Px.rcs rs) (tl (key 2))).isSome:=hb
    clear hv hb
    cases hfd:Px.M.find (Px.rcs rs) (tl (key 2)) with
    |none=>
     rw [hfd] at hb'
     obtain rfl:b=false:=hb'
     have HS1:=hid (steps_next HS.out (show stepM (Px.rcs rs) 2 m=some m by unfold stepM;rw [hfd]))
     clear hfd hv' eg hC HS
     go_wp2_with fail
     go_roundw
     case rel=>exact ⟨3,m,(by first|rfl|go_num),by omega,HS1,FM1,P1,I5⟩
     case measure=>simp [intOf]
    |some u=>
     rw [hfd] at hb' hv'
     obtain rfl:b=true:=hb'
     obtain rfl:tl v=u:=hv'
     have hvs:v.size≤1048576:=by
      have:=find_len (fun x hx=> ?hrs) hfd
      ·simpa [tl,Px.tl] using this
      case hrs=>
       obtain ⟨q,hq,rfl⟩:=List.mem_map.1 hx
       have:=(HF4.out q hq).2
       simpa [Px.rc,Px.tl] using this
     have hbk:(⟨(tl v).toArray⟩:ByteArray)=v:=tl_inj (tl_back _)
     have HST:=hid (show stepM (Px.rcs rs) 2 m=if takeOk v 2=true then some (takeM v m 2) else none by unfold stepM;rw [hfd];dsimp only;rw [hbk])
     have HC:=hid (hC w5 v m (.slice none 0 0) (.slice none 0 0) ⟨I5.out.still.1,fun k a b=>I5.out.still.2 k (by omega) b⟩ I5.out.met hvs (Nat.le_trans hB I5.out.below.size) (HT.out.on (I5.out.below.mono hB)))
     clear hfd hC hvs hbk
     go_upto_if 55 with (go_at_fn G2;refine HC.out.mono ?_;rintro e w6 ⟨rfl,hm6,hF6⟩)
     have I6:=hid (I5.out.take hm6 hF6)
     clear hm6 hF6 HC g1 eg
     cases hok:takeOk v 2 with
     |true=>
      have HS1:=hid (steps_next HS.out (HST.out.trans (if_pos hok)))
      have FM2:=hid (fit_step (fun x hx=>by
       obtain ⟨q,hq,rfl⟩:=List.mem_map.1 hx
       have:=(HF4.out q hq).2
       simpa [Px.rc,Px.tl] using this) FM1.out (HST.out.trans (if_pos hok)))
      have P2:=hid (show (takeM v m 2).parts= []∧(takeM v m 2).extra= [] from P1.out)
      clear hok HST HS FM1 P1 I5
      go_wp2_with fail
      go_roundw
      case rel=>exact ⟨3,takeM v m 2,(by first|rfl|go_num),by omega,HS1,FM2,P2,I6⟩
      case measure=>simp [intOf]
     |false=>
      have HTN:=hid (taken_none (show 2<8 by omega) HS.out (HST.out.trans (if_neg (by rw [hok];decide))))
      clear hok HST HS FM1 P1 I5
      have HE:=hid (from34 (more:=more) hkm (known_none1 HRS.out HM0.out HTN.out))
      go_wp2_with (refine wpList_store_row rfl 45 (.tmp 10) (.tmp 56) rfl (w.heap.size+1) (mcells {} (.slice none 0 0) (.slice none 0 0)) (by simp [Act.eval]) (by simp [Act.eval,mcells]) 45 (mcells {} (.slice none 0 0) (.slice none 0 0)) I6.out.res met_size rfl (mcells_one _ rfl rfl) ?_)
      have HR:=hid (met_row (m':= {}) I6.out.res)
      have HS:=hid (below_setRow (g:=w.heap.size+1) I6.out.below (Nat.le_succ _) (mcells {} (.slice none 0 0) (.slice none 0 0)))
      refine bodyPost_ret (results_from HR.out rfl rfl) rfl ?_
      exact ⟨.slice none 0 0, .slice none 0 0,by rw [HE.out.1,HE.out.2];rfl,by rw [HE.out.2];exact min_empty _,HS.out⟩
   ·obtain ⟨G,cb,e,_,_⟩:=HG.out.2.2.2.1
    obtain ⟨G2,cb2,e2,eg,hC⟩:=HTk.out.2.2.2.1
    subst e e2
    unfold EntersF at eg
    have hix: ∀ V,Sem.run Tryz.prog (Instr.index 63 (.agg (fieldCells x0 y0 x1 y1 x2 y2 (.func (.func G2) #[] cb2) (.func (.func G) #[] cb) x4 y4 x5 y5 x6 y6 x7 y7)) (.int .i64 3)) V= .ok (.agg #[.string ⟨#[103,110,97,109,101]⟩,(.func (.func G2) #[] cb2), .func (.func G) #[] cb]) V:=fun V=>by kernel_rfl
    go_upto_region 8 with (refine wpList_store_row rfl 62 (.tmp 14) (.tmp 40) rfl wr.heap.size #[.string ⟨#[103,110,97,109,101]⟩,(.func (.func G2) #[] cb2), .func (.func G) #[] cb] (by simp [Act.eval]) (by simp [Act.eval]) 62 #[.string ⟨#[]⟩, .nilFunc, .nilFunc] (heap_alloc_new wr _) field_size rfl (by simp [Value.oneCell']) ?_;rw [World.setRow_alloc_new])
    have I1:=hid (HI1.out.later ((Below.refl _ wr).alloc (Nat.le_refl _) (.cells #[.string ⟨#[103,110,97,109,101]⟩,(.func (.func G2) #[] cb2), .func (.func G) #[] cb] 62)))
    have hf:=heap_alloc_new wr (.cells #[.string ⟨#[103,110,97,109,101]⟩,(.func (.func G2) #[] cb2), .func (.func G) #[] cb] 62)
    have hfs:=World.size_alloc wr (.cells #[.string ⟨#[103,110,97,109,101]⟩,(.func (.func G2) #[] cb2), .func (.func G) #[] cb] 62)
    generalize World.alloc wr _=W1 at*
    have f0:=cell_of_row W1 wr.heap.size 0 _ _ _ hf
    have f1:=cell_of_row W1 wr.heap.size 1 _ _ _ hf
    simp only [List.getElem?_toArray,List.getElem?_cons_zero,List.getElem?_cons_succ] at f0 f1
    have hlt:wr.heap.size<W1.heap.size:=by rw [hfs];exact Nat.lt_succ_self _
    clear hf
    go_wp2_with fail
    refine ((callsIn_wide (n:=5)).1 (Px.find_in A4 c4 rs ⟨#[103,110,97,109,101]⟩ (Nat.le_trans HL4.out (by decide)) W1 (own_rd I1.out.own))).mono ?_
    rintro e w5 ⟨v,b,rfl,hv,hb,hw5⟩
    have I5:=hid (I1.out.later hw5)
    have g1:=(hw5.cell (p:=⟨wr.heap.size,1,none⟩) hlt).trans f1
    clear f0 f1 hix I1 HI1
    have hv':tl v=(Px.M.find (Px.rcs rs) (tl (key 3))).getD []:=hv
    have hb':b=(Px.M.find (Px.rcs rs) (tl (key 3))).isSome:=hb
    clear hv hb
    cases hfd:Px.M.find (Px.rcs rs) (tl (key 3)) with
    |none=>
     rw [hfd] at hb'
     obtain rfl:b=false:=hb'
     have HS1:=hid (steps_next HS.out (show stepM (Px.rcs rs) 3 m=some m by unfold stepM;rw [hfd]))
     clear hfd hv' eg hC HS
     go_wp2_with fail
     go_roundw
     case rel=>exact ⟨4,m,(by first|rfl|go_num),by omega,HS1,FM1,P1,I5⟩
     case measure=>simp [intOf]
    |some u=>
     rw [hfd] at hb' hv'
     obtain rfl:b=true:=hb'
     obtain rfl:tl v=u:=hv'
     have hvs:v.size≤1048576:=by
      have:=find_len (fun x hx=> ?hrs) hfd
      ·simpa [tl,Px.tl] using this
      case hrs=>
       obtain ⟨q,hq,rfl⟩:=List.mem_map.1 hx
       have:=(HF4.out q hq).2
       simpa [Px.rc,Px.tl] using this
     have hbk:(⟨(tl v).toArray⟩:ByteArray)=v:=tl_inj (tl_back _)
     have HST:=hid (show stepM (Px.rcs rs) 3 m=if takeOk v 3=true then some (takeM v m 3) else none by unfold stepM;rw [hfd];dsimp only;rw [hbk])
     have HC:=hid (hC w5 v m (.slice none 0 0) (.slice none 0 0) ⟨I5.out.still.1,fun k a b=>I5.out.still.2 k (by omega) b⟩ I5.out.met hvs (Nat.le_trans hB I5.out.below.size) (HT.out.on (I5.out.below.mono hB)))
     clear hfd hC hvs hbk
     go_upto_if 55 with (go_at_fn G2;refine HC.out.mono ?_;rintro e w6 ⟨rfl,hm6,hF6⟩)
     have I6:=hid (I5.out.take hm6 hF6)
     clear hm6 hF6 HC g1 eg
     cases hok:takeOk v 3 with
     |true=>
      have HS1:=hid (steps_next HS.out (HST.out.trans (if_pos hok)))
      have FM2:=hid (fit_step (fun x hx=>by
       obtain ⟨q,hq,rfl⟩:=List.mem_map.1 hx
       have:=(HF4.out q hq).2
       simpa [Px.rc,Px.tl] using this) FM1.out (HST.out.trans (if_pos hok)))
      have P2:=hid (show (takeM v m 3).parts= []∧(takeM v m 3).extra= [] from P1.out)
      clear hok HST HS FM1 P1 I5
      go_wp2_with fail
      go_roundw
      case rel=>exact ⟨4,takeM v m 3,(by first|rfl|go_num),by omega,HS1,FM2,P2,I6⟩
      case measure=>simp [intOf]
     |false=>
      have HTN:=hid (taken_none (show 3<8 by omega) HS.out (HST.out.trans (if_neg (by rw [hok];decide))))
      clear hok HST HS FM1 P1 I5
      have HE:=hid (from34 (more:=more) hkm (known_none1 HRS.out HM0.out HTN.out))
      go_wp2_with (refine wpList_store_row rfl 45 (.tmp 10) (.tmp 56) rfl (w.heap.size+1) (mcells {} (.slice none 0 0) (.slice none 0 0)) (by simp [Act.eval]) (by simp [Act.eval,mcells]) 45 (mcells {} (.slice none 0 0) (.slice none 0 0)) I6.out.res met_size rfl (mcells_one _ rfl rfl) ?_)
      have HR:=hid (met_row (m':= {}) I6.out.res)
      have HS:=hid (below_setRow (g:=w.heap.size+1) I6.out.below (Nat.le_succ _) (mcells {} (.slice none 0 0) (.slice none 0 0)))
      refine bodyPost_ret (results_from HR.out rfl rfl) rfl ?_
      exact ⟨.slice none 0 0, .slice none 0 0,by rw [HE.out.1,HE.out.2];rfl,by rw [HE.out.2];exact min_empty _,HS.out⟩
   ·obtain ⟨G,cb,e,_,_⟩:=HG.out.2.2.2.2.1
    obtain ⟨G2,cb2,e2,eg,hC⟩:=HTk.out.2.2.2.2.1
    subst e e2
    unfold EntersF at eg
    have hix: ∀ V,Sem.run Tryz.prog (Instr.index 63 (.agg (fieldCells x0 y0 x1 y1 x2 y2 x3 y3 (.func (.func G2) #[] cb2) (.func (.func G) #[] cb) x5 y5 x6 y6 x7 y7)) (.int .i64 4)) V= .ok (.agg #[.string ⟨#[117,105,100]⟩,(.func (.func G2) #[] cb2), .func (.func G) #[] cb]) V:=fun V=>by kernel_rfl
    go_upto_region 8 with (refine wpList_store_row rfl 62 (.tmp 14) (.tmp 40) rfl wr.heap.size #[.string ⟨#[117,105,100]⟩,(.func (.func G2) #[] cb2), .func (.func G) #[] cb] (by simp [Act.eval]) (by simp [Act.eval]) 62 #[.string ⟨#[]⟩, .nilFunc, .nilFunc] (heap_alloc_new wr _) field_size rfl (by simp [Value.oneCell']) ?_;rw [World.setRow_alloc_new])
    have I1:=hid (HI1.out.later ((Below.refl _ wr).alloc (Nat.le_refl _) (.cells #[.string ⟨#[117,105,100]⟩,(.func (.func G2) #[] cb2), .func (.func G) #[] cb] 62)))
    have hf:=heap_alloc_new wr (.cells #[.string ⟨#[117,105,100]⟩,(.func (.func G2) #[] cb2), .func (.func G) #[] cb] 62)
    have hfs:=World.size_alloc wr (.cells #[.string ⟨#[117,105,100]⟩,(.func (.func G2) #[] cb2), .func (.func G) #[] cb] 62)
    generalize World.alloc wr _=W1 at*
    have f0:=cell_of_row W1 wr.heap.size 0 _ _ _ hf
    have f1:=cell_of_row W1 wr.heap.size 1 _ _ _ hf
    simp only [List.getElem?_toArray,List.getElem?_cons_zero,List.getElem?_cons_succ] at f0 f1
    have hlt:wr.heap.size<W1.heap.size:=by rw [hfs];exact Nat.lt_succ_self _
    clear hf
    go_wp2_with fail
    refine ((callsIn_wide (n:=5)).1 (Px.find_in A4 c4 rs ⟨#[117,105,100]⟩ (Nat.le_trans HL4.out (by decide)) W1 (own_rd I1.out.own))).mono ?_
    rintro e w5 ⟨v,b,rfl,hv,hb,hw5⟩
    have I5:=hid (I1.out.later hw5)
    have g1:=(hw5.cell (p:=⟨wr.heap.size,1,none⟩) hlt).trans f1
    clear f0 f1 hix I1 HI1
    have hv':tl v=(Px.M.find (Px.rcs rs) (tl (key 4))).getD []:=hv
    have hb':b=(Px.M.find (Px.rcs rs) (tl (key 4))).isSome:=hb
    clear hv hb
    cases hfd:Px.M.find (Px.rcs rs) (tl (key 4)) with
    |none=>
     rw [hfd] at hb'
     obtain rfl:b=false:=hb'
     have HS1:=hid (steps_next HS.out (show stepM (Px.rcs rs) 4 m=some m by unfold stepM;rw [hfd]))
     clear hfd hv' eg hC HS
     go_wp2_with fail
     go_roundw
     case rel=>exact ⟨5,m,(by first|rfl|go_num),by omega,HS1,FM1,P1,I5⟩
     case measure=>simp [intOf]
    |some u=>
     rw [hfd] at hb' hv'
     obtain rfl:b=true:=hb'
     obtain rfl:tl v=u:=hv'
     have hvs:v.size≤1048576:=by
      have:=find_len (fun x hx=> ?hrs) hfd
      ·simpa [tl,Px.tl] using this
      case hrs=>
       obtain ⟨q,hq,rfl⟩:=List.mem_map.1 hx
       have:=(HF4.out q hq).2
       simpa [Px.rc,Px.tl] using this
     have hbk:(⟨(tl v).toArray⟩:ByteArray)=v:=tl_inj (tl_back _)
     have HST:=hid (show stepM (Px.rcs rs) 4 m=if takeOk v 4=true then some (takeM v m 4) else none by unfold stepM;rw [hfd];dsimp only;rw [hbk])
     have HC:=hid (hC w5 v m (.slice none 0 0) (.slice none 0 0) ⟨I5.out.still.1,fun k a b=>I5.out.still.2 k (by omega) b⟩ I5.out.met hvs (Nat.le_trans hB I5.out.below.size) (HT.out.on (I5.out.below.mono hB)))
     clear hfd hC hvs hbk
     go_upto_if 55 with (go_at_fn G2;refine HC.out.mono ?_;rintro e w6 ⟨rfl,hm6,hF6⟩)
     have I6:=hid (I5.out.take hm6 hF6)
     clear hm6 hF6 HC g1 eg
     cases hok:takeOk v 4 with
     |true=>
      have HS1:=hid (steps_next HS.out (HST.out.trans (if_pos hok)))
      have FM2:=hid (fit_step (fun x hx=>by
       obtain ⟨q,hq,rfl⟩:=List.mem_map.1 hx
       have:=(HF4.out q hq).2
       simpa [Px.rc,Px.tl] using this) FM1.out (HST.out.trans (if_pos hok)))
      have P2:=hid (show (takeM v m 4).parts= []∧(takeM v m 4).extra= [] from P1.out)
      clear hok HST HS FM1 P1 I5
      go_wp2_with fail
      go_roundw
      case rel=>exact ⟨5,takeM v m 4,(by first|rfl|go_num),by omega,HS1,FM2,P2,I6⟩
      case measure=>simp [intOf]
     |false=>
      have HTN:=hid (taken_none (show 4<8 by omega) HS.out (HST.out.trans (if_neg (by rw [hok];decide))))
      clear hok HST HS FM1 P1 I5
      have HE:=hid (from34 (more:=more) hkm (known_none1 HRS.out HM0.out HTN.out))
      go_wp2_with (refine wpList_store_row rfl 45 (.tmp 10) (.tmp 56) rfl (w.heap.size+1) (mcells {} (.slice none 0 0) (.slice none 0 0)) (by simp [Act.eval]) (by simp [Act.eval,mcells]) 45 (mcells {} (.slice none 0 0) (.slice none 0 0)) I6.out.res met_size rfl (mcells_one _ rfl rfl) ?_)
      have HR:=hid (met_row (m':= {}) I6.out.res)
      have HS:=hid (below_setRow (g:=w.heap.size+1) I6.out.below (Nat.le_succ _) (mcells {} (.slice none 0 0) (.slice none 0 0)))
      refine bodyPost_ret (results_from HR.out rfl rfl) rfl ?_
      exact ⟨.slice none 0 0, .slice none 0 0,by rw [HE.out.1,HE.out.2];rfl,by rw [HE.out.2];exact min_empty _,HS.out⟩
   ·obtain ⟨G,cb,e,_,_⟩:=HG.out.2.2.2.2.2.1
    obtain ⟨G2,cb2,e2,eg,hC⟩:=HTk.out.2.2.2.2.2.1
    subst e e2
    unfold EntersF at eg
    have hix: ∀ V,Sem.run Tryz.prog (Instr.index 63 (.agg (fieldCells x0 y0 x1 y1 x2 y2 x3 y3 x4 y4 (.func (.func G2) #[] cb2) (.func (.func G) #[] cb) x6 y6 x7 y7)) (.int .i64 5)) V= .ok (.agg #[.string ⟨#[103,105,100]⟩,(.func (.func G2) #[] cb2), .func (.func G) #[] cb]) V:=fun V=>by kernel_rfl
    go_upto_region 8 with (refine wpList_store_row rfl 62 (.tmp 14) (.tmp 40) rfl wr.heap.size #[.string ⟨#[103,105,100]⟩,(.func (.func G2) #[] cb2), .func (.func G) #[] cb] (by simp [Act.eval]) (by simp [Act.eval]) 62 #[.string ⟨#[]⟩, .nilFunc, .nilFunc] (heap_alloc_new wr _) field_size rfl (by simp [Value.oneCell']) ?_;rw [World.setRow_alloc_new])
    have I1:=hid (HI1.out.later ((Below.refl _ wr).alloc (Nat.le_refl _) (.cells #[.string ⟨#[103,105,100]⟩,(.func (.func G2) #[] cb2), .func (.func G) #[] cb] 62)))
    have hf:=heap_alloc_new wr (.cells #[.string ⟨#[103,105,100]⟩,(.func (.func G2) #[] cb2), .func (.func G) #[] cb] 62)
    have hfs:=World.size_alloc wr (.cells #[.string ⟨#[103,105,100]⟩,(.func (.func G2) #[] cb2), .func (.func G) #[] cb] 62)
    generalize World.alloc wr _=W1 at*
    have f0:=cell_of_row W1 wr.heap.size 0 _ _ _ hf
    have f1:=cell_of_row W1 wr.heap.size 1 _ _ _ hf
    simp only [List.getElem?_toArray,List.getElem?_cons_zero,List.getElem?_cons_succ] at f0 f1
    have hlt:wr.heap.size<W1.heap.size:=by rw [hfs];exact Nat.lt_succ_self _
    clear hf
    go_wp2_with fail
    refine ((callsIn_wide (n:=5)).1 (Px.find_in A4 c4 rs ⟨#[103,105,100]⟩ (Nat.le_trans HL4.out (by decide)) W1 (own_rd I1.out.own))).mono ?_
    rintro e w5 ⟨v,b,rfl,hv,hb,hw5⟩
    have I5:=hid (I1.out.later hw5)
    have g1:=(hw5.cell (p:=⟨wr.heap.size,1,none⟩) hlt).trans f1
    clear f0 f1 hix I1 HI1
    have hv':tl v=(Px.M.find (Px.rcs rs) (tl (key 5))).getD []:=hv
    have hb':b=(Px.M.find (Px.rcs rs) (tl (key 5))).isSome:=hb
    clear hv hb
    cases hfd:Px.M.find (Px.rcs rs) (tl (key 5)) with
    |none=>
     rw [hfd] at hb'
     obtain rfl:b=false:=hb'
     have HS1:=hid (steps_next HS.out (show stepM (Px.rcs rs) 5 m=some m by unfold stepM;rw [hfd]))
     clear hfd hv' eg hC HS
     go_wp2_with fail
     go_roundw
     case rel=>exact ⟨6,m,(by first|rfl|go_num),by omega,HS1,FM1,P1,I5⟩
     case measure=>simp [intOf]
    |some u=>
     rw [hfd] at hb' hv'
     obtain rfl:b=true:=hb'
     obtain rfl:tl v=u:=hv'
     have hvs:v.size≤1048576:=by
      have:=find_len (fun x hx=> ?hrs) hfd
      ·simpa [tl,Px.tl] using this
      case hrs=>
       obtain ⟨q,hq,rfl⟩:=List.mem_map.1 hx
       have:=(HF4.out q hq).2
       simpa [Px.rc,Px.tl] using this
     have hbk:(⟨(tl v).toArray⟩:ByteArray)=v:=tl_inj (tl_back _)
     have HST:=hid (show stepM (Px.rcs rs) 5 m=if takeOk v 5=true then some (takeM v m 5) else none by unfold stepM;rw [hfd];dsimp only;rw [hbk])
     have HC:=hid (hC w5 v m (.slice none 0 0) (.slice none 0 0) ⟨I5.out.still.1,fun k a b=>I5.out.still.2 k (by omega) b⟩ I5.out.met hvs (Nat.le_trans hB I5.out.below.size) (HT.out.on (I5.out.below.mono hB)))
     clear hfd hC hvs hbk
     go_upto_if 55 with (go_at_fn G2;refine HC.out.mono ?_;rintro e w6 ⟨rfl,hm6,hF6⟩)
     have I6:=hid (I5.out.take hm6 hF6)
     clear hm6 hF6 HC g1 eg
     cases hok:takeOk v 5 with
     |true=>
      have HS1:=hid (steps_next HS.out (HST.out.trans (if_pos hok)))
      have FM2:=hid (fit_step (fun x hx=>by
       obtain ⟨q,hq,rfl⟩:=List.mem_map.1 hx
       have:=(HF4.out q hq).2
       simpa [Px.rc,Px.tl] using this) FM1.out (HST.out.trans (if_pos hok)))
      have P2:=hid (show (takeM v m 5).parts= []∧(takeM v m 5).extra= [] from P1.out)
      clear hok HST HS FM1 P1 I5
      go_wp2_with fail
      go_roundw
      case rel=>exact ⟨6,takeM v m 5,(by first|rfl|go_num),by omega,HS1,FM2,P2,I6⟩
      case measure=>simp [intOf]
     |false=>
      have HTN:=hid (taken_none (show 5<8 by omega) HS.out (HST.out.trans (if_neg (by rw [hok];decide))))
      clear hok HST HS FM1 P1 I5
      have HE:=hid (from34 (more:=more) hkm (known_none1 HRS.out HM0.out HTN.out))
      go_wp2_with (refine wpList_store_row rfl 45 (.tmp 10) (.tmp 56) rfl (w.heap.size+1) (mcells {} (.slice none 0 0) (.slice none 0 0)) (by simp [Act.eval]) (by simp [Act.eval,mcells]) 45 (mcells {} (.slice none 0 0) (.slice none 0 0)) I6.out.res met_size rfl (mcells_one _ rfl rfl) ?_)
      have HR:=hid (met_row (m':= {}) I6.out.res)
      have HS:=hid (below_setRow (g:=w.heap.size+1) I6.out.below (Nat.le_succ _) (mcells {} (.slice none 0 0) (.slice none 0 0)))
      refine bodyPost_ret (results_from HR.out rfl rfl) rfl ?_
      exact ⟨.slice none 0 0, .slice none 0 0,by rw [HE.out.1,HE.out.2];rfl,by rw [HE.out.2];exact min_empty _,HS.out⟩
   ·obtain ⟨G,cb,e,_,_⟩:=HG.out.2.2.2.2.2.2.1
    obtain ⟨G2,cb2,e2,eg,hC⟩:=HTk.out.2.2.2.2.2.2.1
    subst e e2
    unfold EntersF at eg
    have hix: ∀ V,Sem.run Tryz.prog (Instr.index 63 (.agg (fieldCells x0 y0 x1 y1 x2 y2 x3 y3 x4 y4 x5 y5 (.func (.func G2) #[] cb2) (.func (.func G) #[] cb) x7 y7)) (.int .i64 6)) V= .ok (.agg #[.string ⟨#[115,105,122,101]⟩,(.func (.func G2) #[] cb2), .func (.func G) #[] cb]) V:=fun V=>by kernel_rfl
    go_upto_region 8 with (refine wpList_store_row rfl 62 (.tmp 14) (.tmp 40) rfl wr.heap.size #[.string ⟨#[115,105,122,101]⟩,(.func (.func G2) #[] cb2), .func (.func G) #[] cb] (by simp [Act.eval]) (by simp [Act.eval]) 62 #[.string ⟨#[]⟩, .nilFunc, .nilFunc] (heap_alloc_new wr _) field_size rfl (by simp [Value.oneCell']) ?_;rw [World.setRow_alloc_new])
    have I1:=hid (HI1.out.later ((Below.refl _ wr).alloc (Nat.le_refl _) (.cells #[.string ⟨#[115,105,122,101]⟩,(.func (.func G2) #[] cb2), .func (.func G) #[] cb] 62)))
    have hf:=heap_alloc_new wr (.cells #[.string ⟨#[115,105,122,101]⟩,(.func (.func G2) #[] cb2), .func (.func G) #[] cb] 62)
    have hfs:=World.size_alloc wr (.cells #[.string ⟨#[115,105,122,101]⟩,(.func (.func G2) #[] cb2), .func (.func G) #[] cb] 62)
    generalize World.alloc wr _=W1 at*
    have f0:=cell_of_row W1 wr.heap.size 0 _ _ _ hf
    have f1:=cell_of_row W1 wr.heap.size 1 _ _ _ hf
    simp only [List.getElem?_toArray,List.getElem?_cons_zero,List.getElem?_cons_succ] at f0 f1
    have hlt:wr.heap.size<W1.heap.size:=by rw [hfs];exact Nat.lt_succ_self _
    clear hf
    go_wp2_with fail
    refine ((callsIn_wide (n:=5)).1 (Px.find_in A4 c4 rs ⟨#[115,105,122,101]⟩ (Nat.le_trans HL4.out (by decide)) W1 (own_rd I1.out.own))).mono ?_
    rintro e w5 ⟨v,b,rfl,hv,hb,hw5⟩
    have I5:=hid (I1.out.later hw5)
    have g1:=(hw5.cell (p:=⟨wr.heap.size,1,none⟩) hlt).trans f1
    clear f0 f1 hix I1 HI1
    have hv':tl v=(Px.M.find (Px.rcs rs) (tl (key 6))).getD []:=hv
    have hb':b=(Px.M.find (Px.rcs rs) (tl (key 6))).isSome:=hb
    clear hv hb
    cases hfd:Px.M.find (Px.rcs rs) (tl (key 6)) with
    |none=>
     rw [hfd] at hb'
     obtain rfl:b=false:=hb'
     have HS1:=hid (steps_next HS.out (show stepM (Px.rcs rs) 6 m=some m by unfold stepM;rw [hfd]))
     clear hfd hv' eg hC HS
     go_wp2_with fail
     go_roundw
     case rel=>exact ⟨7,m,(by first|rfl|go_num),by omega,HS1,FM1,P1,I5⟩
     case measure=>simp [intOf]
    |some u=>
     rw [hfd] at hb' hv'
     obtain rfl:b=true:=hb'
     obtain rfl:tl v=u:=hv'
     have hvs:v.size≤1048576:=by
      have:=find_len (fun x hx=> ?hrs) hfd
      ·simpa [tl,Px.tl] using this
      case hrs=>
       obtain ⟨q,hq,rfl⟩:=List.mem_map.1 hx
       have:=(HF4.out q hq).2
       simpa [Px.rc,Px.tl] using this
     have hbk:(⟨(tl v).toArray⟩:ByteArray)=v:=tl_inj (tl_back _)
     have HST:=hid (show stepM (Px.rcs rs) 6 m=if takeOk v 6=true then some (takeM v m 6) else none by unfold stepM;rw [hfd];dsimp only;rw [hbk])
     have HC:=hid (hC w5 v m (.slice none 0 0) (.slice none 0 0) ⟨I5.out.still.1,fun k a b=>I5.out.still.2 k (by omega) b⟩ I5.out.met hvs (Nat.le_trans hB I5.out.below.size) (HT.out.on (I5.out.below.mono hB)))
     clear hfd hC hvs hbk
     go_upto_if 55 with (go_at_fn G2;refine HC.out.mono ?_;rintro e w6 ⟨rfl,hm6,hF6⟩)
     have I6:=hid (I5.out.take hm6 hF6)
     clear hm6 hF6 HC g1 eg
     cases hok:takeOk v 6 with
     |true=>
      have HS1:=hid (steps_next HS.out (HST.out.trans (if_pos hok)))
      have FM2:=hid (fit_step (fun x hx=>by
       obtain ⟨q,hq,rfl⟩:=List.mem_map.1 hx
       have:=(HF4.out q hq).2
       simpa [Px.rc,Px.tl] using this) FM1.out (HST.out.trans (if_pos hok)))
      have P2:=hid (show (takeM v m 6).parts= []∧(takeM v m 6).extra= [] from P1.out)
      clear hok HST HS FM1 P1 I5
      go_wp2_with fail
      go_roundw
      case rel=>exact ⟨7,takeM v m 6,(by first|rfl|go_num),by omega,HS1,FM2,P2,I6⟩
      case measure=>simp [intOf]
     |false=>
      have HTN:=hid (taken_none (show 6<8 by omega) HS.out (HST.out.trans (if_neg (by rw [hok];decide))))
      clear hok HST HS FM1 P1 I5
      have HE:=hid (from34 (more:=more) hkm (known_none1 HRS.out HM0.out HTN.out))
      go_wp2_with (refine wpList_store_row rfl 45 (.tmp 10) (.tmp 56) rfl (w.heap.size+1) (mcells {} (.slice none 0 0) (.slice none 0 0)) (by simp [Act.eval]) (by simp [Act.eval,mcells]) 45 (mcells {} (.slice none 0 0) (.slice none 0 0)) I6.out.res met_size rfl (mcells_one _ rfl rfl) ?_)
      have HR:=hid (met_row (m':= {}) I6.out.res)
      have HS:=hid (below_setRow (g:=w.heap.size+1) I6.out.below (Nat.le_succ _) (mcells {} (.slice none 0 0) (.slice none 0 0)))
      refine bodyPost_ret (results_from HR.out rfl rfl) rfl ?_
      exact ⟨.slice none 0 0, .slice none 0 0,by rw [HE.out.1,HE.out.2];rfl,by rw [HE.out.2];exact min_empty _,HS.out⟩
   ·obtain ⟨G,cb,e,_,_⟩:=HG.out.2.2.2.2.2.2.2
    obtain ⟨G2,cb2,e2,eg,hC⟩:=HTk.out.2.2.2.2.2.2.2
    subst e e2
    unfold EntersF at eg
    have hix: ∀ V,Sem.run Tryz.prog (Instr.index 63 (.agg (fieldCells x0 y0 x1 y1 x2 y2 x3 y3 x4 y4 x5 y5 x6 y6 (.func (.func G2) #[] cb2) (.func (.func G) #[] cb))) (.int .i64 7)) V= .ok (.agg #[.string ⟨#[109,116,105,109,101]⟩,(.func (.func G2) #[] cb2), .func (.func G) #[] cb]) V:=fun V=>by kernel_rfl
    go_upto_region 8 with (refine wpList_store_row rfl 62 (.tmp 14) (.tmp 40) rfl wr.heap.size #[.string ⟨#[109,116,105,109,101]⟩,(.func (.func G2) #[] cb2), .func (.func G) #[] cb] (by simp [Act.eval]) (by simp [Act.eval]) 62 #[.string ⟨#[]⟩, .nilFunc, .nilFunc] (heap_alloc_new wr _) field_size rfl (by simp [Value.oneCell']) ?_;rw [World.setRow_alloc_new])
    have I1:=hid (HI1.out.later ((Below.refl _ wr).alloc (Nat.le_refl _) (.cells #[.string ⟨#[109,116,105,109,101]⟩,(.func (.func G2) #[] cb2), .func (.func G) #[] cb] 62)))
    have hf:=heap_alloc_new wr (.cells #[.string ⟨#[109,116,105,109,101]⟩,(.func (.func G2) #[] cb2), .func (.func G) #[] cb] 62)
    have hfs:=World.size_alloc wr (.cells #[.string ⟨#[109,116,105,109,101]⟩,(.func (.func G2) #[] cb2), .func (.func G) #[] cb] 62)
    generalize World.alloc wr _=W1 at*
    have f0:=cell_of_row W1 wr.heap.size 0 _ _ _ hf
    have f1:=cell_of_row W1 wr.heap.size 1 _ _ _ hf
    simp only [List.getElem?_toArray,List.getElem?_cons_zero,List.getElem?_cons_succ] at f0 f1
    have hlt:wr.heap.size<W1.heap.size:=by rw [hfs];exact Nat.lt_succ_self _
    clear hf
    go_wp2_with fail
    refine ((callsIn_wide (n:=5)).1 (Px.find_in A4 c4 rs ⟨#[109,116,105,109,101]⟩ (Nat.le_trans HL4.out (by decide)) W1 (own_rd I1.out.own))).mono ?_
    rintro e w5 ⟨v,b,rfl,hv,hb,hw5⟩
    have I5:=hid (I1.out.later hw5)
    have g1:=(hw5.cell (p:=⟨wr.heap.size,1,none⟩) hlt).trans f1
    clear f0 f1 hix I1 HI1
    have hv':tl v=(Px.M.find (Px.rcs rs) (tl (key 7))).getD []:=hv
    have hb':b=(Px.M.find (Px.rcs rs) (tl (key 7))).isSome:=hb
    clear hv hb
    cases hfd:Px.M.find (Px.rcs rs) (tl (key 7)) with
    |none=>
     rw [hfd] at hb'
     obtain rfl:b=false:=hb'
     have HS1:=hid (steps_next HS.out (show stepM (Px.rcs rs) 7 m=some m by unfold stepM;rw [hfd]))
     clear hfd hv' eg hC HS
     go_wp2_with fail
     go_roundw
     case rel=>exact ⟨8,m,(by first|rfl|go_num),by omega,HS1,FM1,P1,I5⟩
     case measure=>simp [intOf]
    |some u=>
     rw [hfd] at hb' hv'
     obtain rfl:b=true:=hb'
     obtain rfl:tl v=u:=hv'
     have hvs:v.size≤1048576:=by
      have:=find_len (fun x hx=> ?hrs) hfd
      ·simpa [tl,Px.tl] using this
      case hrs=>
       obtain ⟨q,hq,rfl⟩:=List.mem_map.1 hx
       have:=(HF4.out q hq).2
       simpa [Px.rc,Px.tl] using this
     have hbk:(⟨(tl v).toArray⟩:ByteArray)=v:=tl_inj (tl_back _)
     have HST:=hid (show stepM (Px.rcs rs) 7 m=if takeOk v 7=true then some (takeM v m 7) else none by unfold stepM;rw [hfd];dsimp only;rw [hbk])
     have HC:=hid (hC w5 v m (.slice none 0 0) (.slice none 0 0) ⟨I5.out.still.1,fun k a b=>I5.out.still.2 k (by omega) b⟩ I5.out.met hvs (Nat.le_trans hB I5.out.below.size) (HT.out.on (I5.out.below.mono hB)))
     clear hfd hC hvs hbk
     go_upto_if 55 with (go_at_fn G2;refine HC.out.mono ?_;rintro e w6 ⟨rfl,hm6,hF6⟩)
     have I6:=hid (I5.out.take hm6 hF6)
     clear hm6 hF6 HC g1 eg
     cases hok:takeOk v 7 with
     |true=>
      have HS1:=hid (steps_next HS.out (HST.out.trans (if_pos hok)))
      have FM2:=hid (fit_step (fun x hx=>by
       obtain ⟨q,hq,rfl⟩:=List.mem_map.1 hx
       have:=(HF4.out q hq).2
       simpa [Px.rc,Px.tl] using this) FM1.out (HST.out.trans (if_pos hok)))
      have P2:=hid (show (takeM v m 7).parts= []∧(takeM v m 7).extra= [] from P1.out)
      clear hok HST HS FM1 P1 I5
      go_wp2_with fail
      go_roundw
      case rel=>exact ⟨8,takeM v m 7,(by first|rfl|go_num),by omega,HS1,FM2,P2,I6⟩
      case measure=>simp [intOf]
     |false=>
      have HTN:=hid (taken_none (show 7<8 by omega) HS.out (HST.out.trans (if_neg (by rw [hok];decide))))
      clear hok HST HS FM1 P1 I5
      have HE:=hid (from34 (more:=more) hkm (known_none1 HRS.out HM0.out HTN.out))
      go_wp2_with (refine wpList_store_row rfl 45 (.tmp 10) (.tmp 56) rfl (w.heap.size+1) (mcells {} (.slice none 0 0) (.slice none 0 0)) (by simp [Act.eval]) (by simp [Act.eval,mcells]) 45 (mcells {} (.slice none 0 0) (.slice none 0 0)) I6.out.res met_size rfl (mcells_one _ rfl rfl) ?_)
      have HR:=hid (met_row (m':= {}) I6.out.res)
      have HS:=hid (below_setRow (g:=w.heap.size+1) I6.out.below (Nat.le_succ _) (mcells {} (.slice none 0 0) (.slice none 0 0)))
      refine bodyPost_ret (results_from HR.out rfl rfl) rfl ?_
      exact ⟨.slice none 0 0, .slice none 0 0,by rw [HE.out.1,HE.out.2];rfl,by rw [HE.out.2];exact min_empty _,HS.out⟩
   ·clear HTk HG
    go_wp2_with fail
    refine (strip_any w2.heap.size m (.slice none 0 0) (.slice none 0 0) wr HI1.out.met FM1.out.name).mono ?_
    rintro e w6 ⟨rfl,hm6,hF6⟩
    have I6:=hid (HI1.out.take hm6 hF6)
    clear hm6 hF6 HI1
    have HTK:=hid (show M.taken (Px.rcs rs) m0=some m from (steps_taken _ _).symm.trans HS.out)
    clear HS
    go_wp2_with (refine wpList_load_row rfl 24 (.tmp 5) rfl w.heap.size (by rfl) 24 (hcells h hp) (0,0) _ I6.out.hdr Tryz.underlying24 rfl hdr_size ?_)
    have hI:=HI.out
    obtain ⟨Ap,cp,hpe,hpr⟩:=hI.rparts
    refine (dig_any w2.heap.size (M.strip m) (.slice none 0 0) hp h rs more A4 Am c4 cm w6 B (Nat.le_trans hB I6.out.below.size) (HT.out.on (I6.out.below.mono hB)) I6.out.met P1.out.1 (by omega) (own_rd I6.out.own) (Nat.le_trans HL4.out (by decide)) (fun r hr=>(HF4.out r hr).2) ⟨Ap,cp,hpe,(hpr.below I6.out.below).more I6.out.below.size⟩ ((hI.rmore.below I6.out.below).more I6.out.below.size) hI.nparts).mono ?_
    rintro e w7 ⟨rfl,hF7,hD7⟩
    clear hI hpe hpr
    have hg2:=I6.out.gl
    have hg3:=I6.out.gh
    have hg4:=I6.out.his
    have R7:=hid (I6.out.res.of_block (hF7.block _ (by omega) (by omega)))
    have B7:=hid (hF7.below I6.out.below (by omega) I6.out.below.size)
    have O7:=hid (own_fg I6.out.own hF7 (Nat.lt_succ_self _))
    have F7:=hid (fun m2 (hd:M.dig (M.strip m) h (Px.rcs rs) more=some m2)=>fit_dig (fit_strip FM1.out) P1.out.1 HI.out.i64s.1 HI.out.i64s.2 (by have:=HI.out.nparts;omega) HI.out.ints.2.2.2.2.2.2 (m':=m2) hd)
    have D7:=hid hD7
    have hg6:w2.heap.size+1≤w6.heap.size:=by omega
    have L6:=hid (fun k hk=>(World.ownsRow.lt I6.out.own k hk).2)
    have hs7:=hF7.size
    clear hF7 hD7 hg2 hg3 hg4 I6 FM1
    cases hdg:M.dig (M.strip m) h (Px.rcs rs) more with
    |none=>
     have HE:=hid (from34 (names:=names) (links:=links) hkm (known_none2 HRS.out HM0.out HTK.out hdg))
     dsimp only [Option.isSome]
     go_wp2_with (refine wpList_store_row rfl 45 (.tmp 10) (.tmp 64) rfl (w.heap.size+1) (mcells {} (.slice none 0 0) (.slice none 0 0)) (by simp [Act.eval]) (by simp [Act.eval,mcells]) 45 (mcells {} (.slice none 0 0) (.slice none 0 0)) R7.out met_size rfl (mcells_one _ rfl rfl) ?_)
     have HR:=hid (met_row (m':= {}) R7.out)
     have HS:=hid (below_setRow (g:=w.heap.size+1) B7.out (Nat.le_succ _) (mcells {} (.slice none 0 0) (.slice none 0 0)))
     refine bodyPost_ret (results_from HR.out rfl rfl) rfl ?_
     exact ⟨.slice none 0 0, .slice none 0 0,by rw [HE.out.1,HE.out.2];rfl,by rw [HE.out.2];exact min_empty _,HS.out⟩
    |some m2=>
     obtain ⟨pv2,HM7,HP7⟩:=D7.out m2 hdg
     obtain ⟨fm2,hnp2,hi2,hex2⟩:=F7.out m2 hdg
     have hK:=known_is (names:=names) (links:=links) (more:=more) HRS.out HM0.out HTK.out
     rw [hdg] at hK
     have hK2:M.known h (Px.rcs l) names links more=some { m2 with extra:=rs.filter other } :=by rw [hK,←others_eq];rfl
     have HE:=hid (from_is hkm hK2)
     have HMI:=hid (And.intro fm2 (And.intro hnp2 hi2))
     clear hK hK2 fm2 hnp2 hi2 hex2 D7 F7 hdg HRS HM0 HTK HI P1
     dsimp only [Option.isSome]
     go_wp2_with fail
     refine (deleteR_any (.slice A4 rs.length c4) rs (w2.heap.size+1) (Nat.le_trans HL4.out (by decide)) w7 O7.out (by omega)).mono ?_
     rintro e w8 ⟨v8,rfl,ho8,hb8,hg8⟩
     have HM8:=hid (HM7.out.below hb8 (Nat.lt_succ_self _))
     have HP8:=hid (HP7.out.grown hg8 (by
      cases hpo:pv2.ownBlock with
      |none=>exact .inl rfl
      |some k=>
       refine .inr (fun e=> ?_)
       have h1:=(World.ownsRow.lt HP7.out k hpo).1
       have h2:=L6.out k e.symm
       omega))
     have HR8:=hid (R7.out.below hb8 (by omega))
     have HB8:=hid (B7.out.trans (hb8.mono (by omega)))
     have hs8:=hb8.size
     obtain ⟨A8,c8,rfl,hr8,_⟩:=ho8.rd
     have HO8:=hid ho8
     clear ho8 hb8 hg8 hr8 HM7 HP7 R7 B7 O7 L6
     obtain ⟨m3,hm3⟩: ∃ m3:M.Met, { m2 with extra:=rs.filter other } =m3:=⟨_,rfl⟩
     have HM9:=hid (HM8.out.set 16 (.slice A8 (rs.filter other).length c8) (m':=m3) (pv':=pv2) (ev':= .slice A8 (rs.filter other).length c8) (by rw [←hm3];rfl))
     have HR9:=hid (HR8.out.other (a:=⟨w2.heap.size,16,none⟩) (by show w.heap.size+1≠w2.heap.size;omega) (.slice A8 (rs.filter other).length c8))
     have HP9:=hid (HP8.out.set (p:=⟨w2.heap.size,16,none⟩) (by show w2.heap.size<w6.heap.size;omega) (.slice A8 (rs.filter other).length c8))
     have HO9:=hid (show Px.OwnR (w8.setCell ⟨w2.heap.size,16,none⟩ (.slice A8 (rs.filter other).length c8)) (w2.heap.size+1) (.slice A8 (rs.filter other).length c8) (rs.filter other) from ownsRow_setCell_below HO8.out (Nat.lt_succ_self w2.heap.size) _)
     have HB9:=hid (HB8.out.setCell (p:=⟨w2.heap.size,16,none⟩) (by show w.heap.size≤w2.heap.size;omega) (.slice A8 (rs.filter other).length c8))
     have HMI9:=hid (min_known HMI.out HP9.out HO9.out HL4.out HF4.out)
     have hs9:(w8.setCell ⟨w2.heap.size,16,none⟩ (.slice A8 (rs.filter other).length c8)).heap.size=w8.heap.size:=World.size_setCell _ _ _
     rw [hm3] at HMI9 HE
     have x16:=HM8.out.cell (i:=16) (v:= .slice none 0 0) rfl
     have f16:=HM8.out.frozen 16
     have hex:m3.extra=rs.filter other:=by rw [←hm3]
     have hpx:m3.parts=m2.parts:=by rw [←hm3]
     clear hm3 HM8 HP8 HO8 HR8 HB8 HMI
     go_upto_region 16 with fail
     clear x16 f16
     generalize World.setCell w8 _ _=w9 at*
     go_wp2_with (refine wpList_load_row rfl 45 (.tmp 12) rfl w2.heap.size (by rfl) 45 (mcells m3 pv2 (.slice A8 (rs.filter other).length c8)) (0,0) _ HM9.out Tryz.underlying45 rfl met_size ?_)
     refine (to_any m3 pv2 (.slice A8 (rs.filter other).length c8) B w9 HMI9.out (Nat.le_trans hB HB9.out.size) (HT.out.on (HB9.out.mono hB))).mono ?_
     rintro e w10 ⟨A10,c10,rfl,_,_,hb10⟩
     have HM10:=hid (HM9.out.below hb10 (by omega))
     have HR10:=hid (HR9.out.below hb10 (by omega))
     have HP10:=hid (HP9.out.later hb10)
     have HO10:=hid (HO9.out.below hb10)
     have HB10:=hid (HB9.out.trans (hb10.mono HB9.out.size))
     have hs10:=hb10.size
     have hME:=HE.out
     obtain ⟨E,hE⟩: ∃ E,M.toE m3=E:=⟨_,rfl⟩
     rw [hE] at hME⊢
     have HEE:=hid hME
     clear hME hE HE HM9 HR9 HP9 HO9 HB9 hb10
     go_upto_region 17 with (refine wpList_store_row rfl 24 (.tmp 17) (.tmp 71) rfl w10.heap.size (hcells (M.toH m3) (.slice none 0 0)) (by simp [Act.eval]) (by simp [Act.eval]) 24 (hcells {} (.slice none 0 0)) (heap_alloc_new w10 _) hdr_size rfl (hcells_one _ rfl) ?_;rw [World.setRow_alloc_new])
     have HM11:=hid (HM10.out.alloc (.cells (hcells (M.toH m3) (.slice none 0 0)) 24))
     have HR11:=hid (HR10.out.alloc (.cells (hcells (M.toH m3) (.slice none 0 0)) 24))
     have HP11:=hid (HP10.out.alloc (.cells (hcells (M.toH m3) (.slice none 0 0)) 24))
     have HO11:=hid (HO10.out.alloc (.cells (hcells (M.toH m3) (.slice none 0 0)) 24))
     have HB11:=hid (HB10.out.alloc HB10.out.size (.cells (hcells (M.toH m3) (.slice none 0 0)) 24))
     clear HM10 HR10 HP10 HO10 HB10
     generalize World.alloc w10 _=w11 at*
     by_cases hE0:E=0
     ·subst hE0
      have HF:=hid (And.intro HEE.out.1 (HEE.out.2.trans (if_pos rfl)))
      have hone:pv2.oneCell'=true:=by
       obtain ⟨A2,c2,e,_⟩:=HP11.out.rd
       rw [e];rfl
      have HONE:=hid hone
      clear hone HEE
      go_wp2_with (first
       |(refine wpList_load_row rfl 45 (.tmp 12) rfl w2.heap.size (by rfl) 45 (mcells m3 pv2 (.slice A8 (rs.filter other).length c8)) (0,0) _ HM11.out Tryz.underlying45 rfl met_size ?_)
       |(refine wpList_store_row rfl 45 (.tmp 10) (.tmp 78) rfl (w.heap.size+1) (mcells m3 pv2 (.slice A8 (rs.filter other).length c8)) (by simp [Act.eval,Act.put]) (by simp [Act.eval,Act.put]) 45 (mcells {} (.slice none 0 0) (.slice none 0 0)) HR11.out met_size rfl (mcells_one _ HONE.out rfl) ?_))
      have HR:=hid (show MB (w11.setRow (w.heap.size+1) (mcells m3 pv2 (.slice A8 (rs.filter other).length c8))) (w.heap.size+1) m3 pv2 (.slice A8 (rs.filter other).length c8) from setRow_heap w11 _ _ _ _ _ HR11.out)
      have HS:=hid (below_setRow (g:=w.heap.size+1) HB11.out (Nat.le_succ _) (mcells m3 pv2 (.slice A8 (rs.filter other).length c8)))
      refine bodyPost_ret (results_from HR.out rfl rfl) rfl ?_
      refine ⟨pv2, .slice A8 (rs.filter other).length c8,by rw [HF.out.1,HF.out.2];rfl, ?_,HS.out⟩
      rw [HF.out.2]
      refine HMI9.out.at_ ?_ ?_
      ·obtain ⟨A2,c2,e,hr,_⟩:=(ownP_setRow HP11.out (show w.heap.size+1<w6.heap.size by omega) (mcells m3 pv2 (.slice A8 (rs.filter other).length c8))).rd
       rw [hpx]
       exact ⟨A2,c2,e,hr⟩
      ·rw [hex]
       exact ⟨A8,c8,rfl,own_rd (own_setRow HO11.out (show w.heap.size+1<w2.heap.size+1 by omega) _)⟩
     ·have d1:((E:Int) !=0)=true:=by
       rw [bne_iff_ne];omega
      have HF:=hid (And.intro HEE.out.1 (HEE.out.2.trans (if_neg hE0)))
      clear hE0 HEE
      go_wp2_with (refine wpList_store_row rfl 45 (.tmp 10) (.tmp 76) rfl (w.heap.size+1) (mcells {} (.slice none 0 0) (.slice none 0 0)) (by simp [Act.eval]) (by simp [Act.eval,mcells]) 45 (mcells {} (.slice none 0 0) (.slice none 0 0)) HR11.out met_size rfl (mcells_one _ rfl rfl) ?_)
      have HR:=hid (met_row (m':= {}) HR11.out)
      have HS:=hid (below_setRow (g:=w.heap.size+1) HB11.out (Nat.le_succ _) (mcells {} (.slice none 0 0) (.slice none 0 0)))
      refine bodyPost_ret (results_from HR.out rfl rfl) rfl ?_
      exact ⟨.slice none 0 0, .slice none 0 0,by rw [HF.out.1,HF.out.2],by rw [HF.out.2];exact min_empty _,HS.out⟩
end Go.Proofs.YtjpmpjbembhldaaGreatDoor
