import Derived.Test.YtjpmpjbembhldaaGreatDoorStepZ
import Derived.Test.YtjpmpjbembhldaaGreatDoorMtTakeZ
import Derived.Test.YtjpmpjbembhldaaGreatDoorMtDelZ
set_option linter.unusedVariables false
set_option linter.unusedSimpArgs false
namespace Go.Proofs.YtjpmpjbembhldaaGreatDoor
open Go.RowKit Go.Lib
open Px (R2 tl)
attribute [local go_sem ↓] add_plain
section
variable {P:Program} {md:Region.Mode} {ops:Array Oper} {Q:Exit→Act→World→Prop} {S:World→Prop}
theorem twoH {i j:Nat} (d e:Nat) {oi oj:Oper} {fuel:Nat} {listed:Array Bool} {a:Act} {w:World} (hi:ops[i]?=some oi) (hj:ops[j]?=some oj) (hd:oi.dst=some d) (he:oj.dst=some e) (hr:Region.ready md ops listed= [i,j])
  (hwi:Region.wanted oi (yielded ops a.tmps)=true) (hwj:Region.wanted oj (yielded ops a.tmps)=true)
  (h1: ∀ K':Act→World→Prop,Shut (∀ v w',S w'→(S w'→wpAnyH P md ops Q S fuel (listed.setIfInBounds i true) (a.put (some d) v) w')→K' (a.put oi.dst v) w')→Oper.wp P oi a w K' Q)
  (h2: ∀ K':Act→World→Prop,Shut (∀ v w',S w'→(S w'→wpAnyH P md ops Q S fuel (listed.setIfInBounds j true) (a.put (some e) v) w')→K' (a.put oj.dst v) w')→Oper.wp P oj a w K' Q):wpAnyH P md ops Q S (fuel+1) listed a w:=
 wpAnyH_ready hr (by simp) (AllReadyH.cons hi (fun K' hK=>by
  rw [if_pos hwi]
  exact h1 K' (fun v w' hS hW=>hK _ _ hS (by rw [hd];exact hW))) (AllReadyH.cons hj (fun K' hK=>by
  rw [if_pos hwj]
  exact h2 K' (fun v w' hS hW=>hK _ _ hS (by rw [he];exact hW))) AllReadyH.nil))
end
def RdT (w:World) (B:Nat) (A:Option Addr) (l:List ByteArray):Prop:=0<l.length→ ∃ b off,A=some ⟨b,off,none⟩∧b<B∧ ∀ k s,l[k]?=some s→w.cell? ⟨b,off+k,none⟩=some (.string s)
theorem RdT.below {w w':World} {B:Nat} {A:Option Addr} {l:List ByteArray} (h:RdT w B A l) (hb:Below B w w'):RdT w' B A l:=fun hn=>by
 obtain ⟨b,off,e,hB,hc⟩:=h hn
 exact ⟨b,off,e,hB,fun k s hs=>(hb.cell (p:=⟨b,off+k,none⟩) hB).trans (hc k s hs)⟩
theorem last_at {l:List ByteArray} (h:0<l.length) (o:ByteArray):l[l.length - 1]?=some (M.lastOf l o):=by
 unfold M.lastOf
 rw [List.getLast?_eq_getElem?]
 rw [List.getElem?_eq_getElem (by omega)]
 rfl
theorem last_none {l:List ByteArray} (h:l.length=0) (o:ByteArray):M.lastOf l o=o:=by
 have:=List.eq_nil_of_length_eq_zero h
 subst this
 rfl
def td0 (h:M.Hdr):M.Met:= { name:=h.name,link:=h.link,kind:=h.kind,mode:=h.mode,uid:=h.uid,gid:=h.gid,user:=h.user,group:=h.group,sec:=(St.M.norm (h.mtime,0)).1,nan:=(St.M.norm (h.mtime,0)).2,major:=h.major,minor:=h.minor,size:=h.size }
theorem told_eq (h:M.Hdr) (names links:List ByteArray):M.told h names links= { td0 h with name:=M.lastOf names (M.nameOf h),link:=M.lastOf links h.link } :=rfl
theorem results_met {f:Func} {k:Nat} (hf:f.results= #[ResultVar.cell k 45]) {tmps:Array Value} {g:Nat} {m:M.Met} {pv ev:Value} {w:World} (hk:tmps.getD k undef= .pointer (some ⟨g,0,none⟩)) (hb:MB w g m pv ev):
  (results f tmps).run Tryz.prog w= .ok (.agg (mcells m pv ev)) w:=
 results_cell_row hf tmps w g 45 _ (0,0) _ hk hb Tryz.underlying45 rfl met_size
structure TI (W wx:World) (g:Nat) (m:M.Met):Prop where
 lo:W.heap.size≤g
 met:MB wx g m (.slice none 0 0) (.slice none 0 0)
 below:Below W.heap.size W wx
theorem TI.set {W wx:World} {g:Nat} {m m':M.Met} (I:TI W wx g m) (i:Nat) (v:Value) (e:(mcells m (.slice none 0 0) (.slice none 0 0)).set! i v=mcells m' (.slice none 0 0) (.slice none 0 0)):TI W (wx.setCell ⟨g,i,none⟩ v) g m':=
 ⟨I.lo,I.met.set i v e,I.below.setCell (p:=⟨g,i,none⟩) I.lo v⟩
theorem met_row {w:World} {g:Nat} {m m':M.Met} (h:MB w g m (.slice none 0 0) (.slice none 0 0)):MB (w.setRow g (mcells m' (.slice none 0 0) (.slice none 0 0))) g m' (.slice none 0 0) (.slice none 0 0):=setRow_heap w _ _ _ _ _ h
set_option maxRecDepth 100000 in
set_option maxHeartbeats 8000000 in
theorem told_any (h:M.Hdr) (hp:Value) (names links:List ByteArray) (An Al:Option Addr) (cn cl:Nat) (w:World) (hn:RdT w w.heap.size An names) (hl:RdT w w.heap.size Al links) (hs:h.pre.size≤1048576∧h.name.size≤1048576) (hnl:names.length≤1048576∧links.length≤1048576):
  Calls Tryz.prog 27 #[.agg (hcells h hp), .slice An names.length cn, .slice Al links.length cl] w fun e w'=>e= .returned (.agg (mcells (M.told h names links) (.slice none 0 0) (.slice none 0 0)))∧Below w.heap.size w w':=by
 have B1:=HB.alloc (HB.new w h hp) (.cells (mcells {} (.slice none 0 0) (.slice none 0 0)) 45)
 have hb1:=below2 w (.cells (hcells h hp) 24) (.cells (mcells {} (.slice none 0 0) (.slice none 0 0)) 45)
 have H1:=MB.new (w.alloc (.cells (hcells h hp) 24)) {} (.slice none 0 0) (.slice none 0 0)
 rw [World.size_alloc] at H1
 have hsz:((w.alloc (.cells (hcells h hp) 24)).alloc (.cells (mcells {} (.slice none 0 0) (.slice none 0 0)) 45)).heap.size=w.heap.size+2:=by simp
 have HN:=hid hn
 have HLK:=hid hl
 have HT:=hid (told_eq h names links)
 have HNO:=hid (fun V=>St.norm_any h.mtime 0 V)
 unfold St.TimeIs St.tv at HNO
 clear hn hl
 go_enter Tryz.func27,Tryz.ntmps27
 go_upto_region 1 with fail
 change Code.wp _ _ _ _ ((w.alloc (.cells (hcells h hp) 24)).alloc (.cells (mcells {} (.slice none 0 0) (.slice none 0 0)) 45))
 generalize World.alloc (World.alloc w _) _=W at*
 have HB1:=hid B1
 have HM1:=hid H1
 have HW:=hid hb1
 have HF:=hid (show ∀ V,Below W.heap.size W V→HB V w.heap.size h hp from fun V hV=>B1.below hV (by omega))
 clear B1 H1 hb1
 go_cut [7] from 7 to 34 (fun v7 wx=> ∃ g7,v7= .pointer (some ⟨g7,0,none⟩)∧Hid (TI W wx g7 (td0 h)))
 case first=>
  have F0:=hid (fun V hV=>(HF.out V hV).cell (i:=0) (v:= .string h.name) rfl)
  have F1:=hid (fun V hV=>(HF.out V hV).cell (i:=1) (v:= .int .i64 h.mode) rfl)
  have F2:=hid (fun V hV=>(HF.out V hV).cell (i:=2) (v:= .int .i64 h.uid) rfl)
  have F3:=hid (fun V hV=>(HF.out V hV).cell (i:=3) (v:= .int .i64 h.gid) rfl)
  have F4:=hid (fun V hV=>(HF.out V hV).cell (i:=4) (v:= .int .i64 h.size) rfl)
  have F5:=hid (fun V hV=>(HF.out V hV).cell (i:=5) (v:= .int .i64 h.mtime) rfl)
  have F6:=hid (fun V hV=>(HF.out V hV).cell (i:=6) (v:= .int .u8 h.kind) rfl)
  have F7:=hid (fun V hV=>(HF.out V hV).cell (i:=7) (v:= .string h.link) rfl)
  have F9:=hid (fun V hV=>(HF.out V hV).cell (i:=9) (v:= .string h.user) rfl)
  have F10:=hid (fun V hV=>(HF.out V hV).cell (i:=10) (v:= .string h.group) rfl)
  have F11:=hid (fun V hV=>(HF.out V hV).cell (i:=11) (v:= .int .i64 h.major) rfl)
  have F12:=hid (fun V hV=>(HF.out V hV).cell (i:=12) (v:= .int .i64 h.minor) rfl)
  refine wp_region_held_drew (S:=fun V=>Below W.heap.size W V) (by kernel_rfl) (⟨rfl,rfl,rfl,Nat.le_refl _,fun _ _=>rfl⟩) (fun hS=> ?_)
  refine tkH 0 hS ?_
  refine tfH 1 hS F0.out ?_
  refine tkH 2 hS ?_
  refine tfH 3 hS F7.out ?_
  refine tkH 4 hS ?_
  refine tfH 5 hS F6.out ?_
  refine tkH 6 hS ?_
  refine tfH 7 hS F1.out ?_
  refine tkH 8 hS ?_
  refine tfH 9 hS F2.out ?_
  refine tkH 10 hS ?_
  refine tfH 11 hS F3.out ?_
  refine tkH 12 hS ?_
  refine tfH 13 hS F9.out ?_
  refine tkH 14 hS ?_
  refine tfH 15 hS F10.out ?_
  refine tkH 16 hS ?_
  refine tfH 17 hS F5.out ?_
  refine tkH 18 hS ?_
  refine tkH 20 hS ?_
  refine tfH 21 hS F11.out ?_
  refine tkH 22 hS ?_
  refine tfH 23 hS F12.out ?_
  refine tkH 24 hS ?_
  refine tfH 25 hS F4.out ?_
  refine twoH (i:=19) (j:=27) 27 7 rfl rfl rfl rfl (by kernel_rfl) (by rfl) (by rfl) (fun K hK=> ?callp) (fun K hK=> ?allocp)
  case callp=>
   go_simp
   refine (HNO.out _).mono ?_
   rintro e w3 ⟨rfl,hb3⟩
   have HB3:=hid (hS.trans (hb3.mono hS.size))
   clear hb3 hS
   refine hK.out _ _ HB3.out (fun hS=> ?_)
   clear hK K
   try simp only [NM]
   refine tkH 26 hS ?_
   refine loneH (i:=27) 7 rfl rfl (by kernel_rfl) (by rfl) (fun K hK=> ?_)
   go_simp
   have hs3:=hS.size
   have hmm:=MB.new w3 {} (.slice none 0 0) (.slice none 0 0)
   refine hK.out _ _ (hS.alloc hs3 _) (fun hS=> ?_)
   clear hK K
   try simp only [NM]
   refine loneN (i:=28) rfl rfl (by kernel_rfl) (by rfl) (fun K hK=> ?_)
   refine wp_store_row 45 (.tmp 7) (.tmp 34) rfl w3.heap.size (mcells (td0 h) (.slice none 0 0) (.slice none 0 0)) (by rfl) (by rfl) 45 (mcells {} (.slice none 0 0) (.slice none 0 0)) hmm met_size rfl (mcells_one _ rfl rfl) ?_
   have HTI:=hid (show TI W (_:World) w3.heap.size (td0 h) from ⟨hs3,met_row hmm,below_setRow hS hs3 _⟩)
   refine hK.out _ _ HTI.out.below (fun hS=> ?_)
   clear hK K
   try simp only [NM]
   refine wpAnyH_done (by kernel_rfl) ?_ _
   go_wp2_with fail
   go_meet
   case rel=>exact ⟨_,rfl,HTI⟩
  case allocp=>
   go_simp
   have hs3:=hS.size
   have hmm:=MB.new W.drew {} (.slice none 0 0) (.slice none 0 0)
   rw [show W.drew.heap.size=w.heap.size+2 from hsz] at hmm
   refine hK.out _ _ (hS.alloc hs3 _) (fun hS=> ?_)
   clear hK K
   try simp only [NM]
   refine loneH (i:=19) 27 rfl rfl (by kernel_rfl) (by rfl) (fun K hK=> ?_)
   go_simp
   refine (HNO.out _).mono ?_
   rintro e w3 ⟨rfl,hb3⟩
   have HB3:=hid (hS.trans (hb3.mono hS.size))
   have hm3:=MB.below hmm hb3 hmm.lt
   clear hb3
   refine hK.out _ _ HB3.out (fun hS=> ?_)
   clear hK K
   try simp only [NM]
   refine tkH 26 hS ?_
   refine loneN (i:=28) rfl rfl (by kernel_rfl) (by rfl) (fun K hK=> ?_)
   refine wp_store_row 45 (.tmp 7) (.tmp 34) rfl (w.heap.size+2) (mcells (td0 h) (.slice none 0 0) (.slice none 0 0)) (by rfl) (by rfl) 45 (mcells {} (.slice none 0 0) (.slice none 0 0)) hm3 met_size rfl (mcells_one _ rfl rfl) ?_
   have HTI:=hid (show TI W (_:World) (w.heap.size+2) (td0 h) from ⟨(Nat.le_of_eq hsz),met_row hm3,below_setRow hS (Nat.le_of_eq hsz) _⟩)
   refine hK.out _ _ HTI.out.below (fun hS=> ?_)
   clear hK K
   try simp only [NM]
   refine wpAnyH_done (by kernel_rfl) ?_ _
   go_wp2_with fail
   go_meet
   case rel=>exact ⟨_,rfl,HTI⟩
 obtain ⟨g7,rfl,HI⟩:=hcut
 have HMR:=hid HM1.out
 clear HNO HM1
 have hlo:=HI.out.lo
 have HP:=hid (show ∀ V,Below W.heap.size W V→V.cell? ⟨w.heap.size,13,none⟩=some (.string h.pre)∧V.cell? ⟨w.heap.size,0,none⟩=some (.string h.name) from fun V hV=>⟨(HF.out V hV).cell (i:=13) rfl,(HF.out V hV).cell (i:=0) rfl⟩)
 have HNW:=hid (fun V (hV:Below W.heap.size W V)=>HN.out.below (HW.out.trans (hV.mono HW.out.size)))
 have HLW:=hid (fun V (hV:Below W.heap.size W V)=>HLK.out.below (HW.out.trans (hV.mono HW.out.size)))
 clear HF HN HLK
 obtain ⟨x13,x0⟩:=HP.out wc HI.out.below
 have y0:=HI.out.met.cell (i:=0) (v:= .string h.name) rfl
 have f0:=HI.out.met.frozen 0
 go_upto_if 37 with fail
 obtain ⟨b,hb⟩: ∃ b,(!h.pre.toList.isEmpty)=b:=⟨_,rfl⟩
 rw [hb]
 have HNM:=hid (show M.nameOf h=if b=true then h.pre++⟨#[47]⟩++h.name else h.name by
  unfold M.nameOf
  by_cases he:h.pre.size=0
  ·have e1:(h.pre.toList== [])=true:=by rw [size_empty,he];rfl
   rw [eq_of_beq e1] at hb
   rw [if_pos he,←hb]
   rfl
  ·have e1:(h.pre.toList== [])=false:=by rw [size_empty];simpa using he
   have e3:h.pre.toList.isEmpty=false:=by
    cases hq:h.pre.toList with
    |nil=>rw [hq] at e1;cases e1
    |cons c t=>rfl
   rw [e3] at hb
   rw [if_neg he,←hb]
   rfl)
 clear hb
 go_cut [37] from 37 to 44 (fun v wx=>Hid (TI W wx g7 { td0 h with name:=M.nameOf h }))
 case first=>
  cases b with
  |false=>
   have HE:=hid (show M.nameOf h=h.name by rw [HNM.out];rfl)
   go_wp2_with fail
   go_meet
   case rel=>exact hid (by rw [HE.out];exact HI.out)
  |true=>
   have HE:=hid (show M.nameOf h=h.pre++⟨#[47]⟩++h.name by rw [HNM.out];rfl)
   have HS:=hid (HI.out.set (m':= { td0 h with name:=h.pre++⟨#[47]⟩++h.name }) 0 (.string (h.pre++⟨#[47]⟩++h.name)) rfl)
   go_wp2_with fail
   go_meet
   case rel=>exact hid (by rw [HE.out];exact HS.out)
 clear HI x13 x0 y0 f0
 have HI:=hid hcut.out
 clear hcut
 have y0:=HI.out.met.cell (i:=0) (v:= .string (M.nameOf h)) rfl
 have f0:=HI.out.met.frozen 0
 go_upto_if 47 with fail
 generalize hb:decide (0<names.length)=b at*
 go_cut [47] from 47 to 54 (fun v wx=>Hid (TI W wx g7 { td0 h with name:=M.lastOf names (M.nameOf h) }))
 case first=>
  cases b with
  |false=>
   have hz:names.length=0:=by rw [decide_eq_false_iff_not] at hb;omega
   clear hb
   have HE:=hid (last_none hz (M.nameOf h))
   clear hz
   go_wp2_with fail
   go_meet
   case rel=>exact hid (by rw [HE.out];exact HI.out)
  |true=>
   have hz:0<names.length:=by rw [decide_eq_true_eq] at hb;omega
   clear hb
   obtain ⟨bb,off,eA,hbb,hc⟩:=(HNW.out wc HI.out.below) (by omega)
   subst eA
   have hc1:=hc _ _ (last_at (by omega) (M.nameOf h))
   have hwr:IntKind.i64.wrap ((names.length:Int) - 1)=((names.length - 1:Nat):Int):=by
    rw [IntWalk.i64_in _ (by omega)];omega
   have hsub:(names.length:Int) - 1=((names.length - 1:Nat):Int):=by omega
   have hidx:((names.length - 1:Nat):Int)<(names.length:Int):=by omega
   have hidn:names.length - 1<names.length:=by omega
   have HS:=hid (HI.out.set (m':= { td0 h with name:=M.lastOf names (M.nameOf h) }) 0 (.string (M.lastOf names (M.nameOf h))) rfl)
   generalize M.lastOf names (M.nameOf h)=q at*
   generalize names.length - 1=k at*
   clear hz hc
   go_wp2_with fail
   go_meet
   case rel=>exact HS
 clear HI y0 f0
 have HI:=hid hcut.out
 clear hcut
 have y0:=HI.out.met.cell (i:=1) (v:= .string h.link) rfl
 have f0:=HI.out.met.frozen 1
 go_upto_if 57 with fail
 generalize hb:decide (0<links.length)=b at*
 go_cut [57] from 57 to 64 (fun v wx=>Hid (TI W wx g7 { td0 h with name:=M.lastOf names (M.nameOf h),link:=M.lastOf links h.link }))
 case first=>
  cases b with
  |false=>
   have hz:links.length=0:=by rw [decide_eq_false_iff_not] at hb;omega
   clear hb
   have HE:=hid (last_none hz (h.link))
   clear hz
   go_wp2_with fail
   go_meet
   case rel=>exact hid (by rw [HE.out];exact HI.out)
  |true=>
   have hz:0<links.length:=by rw [decide_eq_true_eq] at hb;omega
   clear hb
   obtain ⟨bb,off,eA,hbb,hc⟩:=(HLW.out wc HI.out.below) (by omega)
   subst eA
   have hc1:=hc _ _ (last_at (by omega) (h.link))
   have hwr:IntKind.i64.wrap ((links.length:Int) - 1)=((links.length - 1:Nat):Int):=by
    rw [IntWalk.i64_in _ (by omega)];omega
   have hsub:(links.length:Int) - 1=((links.length - 1:Nat):Int):=by omega
   have hidx:((links.length - 1:Nat):Int)<(links.length:Int):=by omega
   have hidn:links.length - 1<links.length:=by omega
   have HS:=hid (HI.out.set (m':= { td0 h with name:=M.lastOf names (M.nameOf h),link:=M.lastOf links h.link }) 1 (.string (M.lastOf links (h.link))) rfl)
   generalize M.lastOf links (h.link)=q at*
   generalize links.length - 1=k at*
   clear hz hc
   go_wp2_with fail
   go_meet
   case rel=>exact HS
 clear HI y0 f0
 have HI:=hid hcut.out
 clear hcut
 have HR:=hid (show MB wc (w.heap.size+1) {} (.slice none 0 0) (.slice none 0 0) from HMR.out.below HI.out.below (by omega))
 go_wp2_with (first
  |(refine wpList_load_row rfl 45 (.tmp 7) rfl g7 (by rfl) 45 (mcells { td0 h with name:=M.lastOf names (M.nameOf h),link:=M.lastOf links h.link } (.slice none 0 0) (.slice none 0 0)) (0,0) _ HI.out.met Tryz.underlying45 rfl met_size ?_)
  |(refine wpList_store_row rfl 45 (.tmp 6) (.tmp 65) rfl (w.heap.size+1) (mcells { td0 h with name:=M.lastOf names (M.nameOf h),link:=M.lastOf links h.link } (.slice none 0 0) (.slice none 0 0)) (by rfl) (by rfl) 45 (mcells {} (.slice none 0 0) (.slice none 0 0)) HR.out met_size rfl (mcells_one _ rfl rfl) ?_))
 have HB:=hid (HW.out.trans (HI.out.below.mono HW.out.size))
 refine bodyPost_ret (results_met rfl rfl (met_row HR.out)) rfl ⟨by rw [HT.out],below_setRow HB.out (Nat.le_succ _) _⟩
end Go.Proofs.YtjpmpjbembhldaaGreatDoor
