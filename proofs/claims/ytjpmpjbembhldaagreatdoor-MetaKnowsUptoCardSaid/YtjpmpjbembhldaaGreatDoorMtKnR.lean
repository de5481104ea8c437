import Derived.Test.YtjpmpjbembhldaaGreatDoorStepZ
import Derived.Test.YtjpmpjbembhldaaGreatDoorMtKnH
import Derived.Test.YtjpmpjbembhldaaGreatDoorKRp
import Derived.Test.YtjpmpjbembhldaaGreatDoorMtRefTo
import Derived.Test.YtjpmpjbembhldaaGreatDoorMtFromZ
import Derived.Test.YtjpmpjbembhldaaGreatDoorMtFrom
import Derived.Lib.MinMax
set_option linter.unusedVariables false
set_option linter.unusedSimpArgs false
namespace Go.Proofs.YtjpmpjbembhldaaGreatDoor
open Go.RowKit Go.Lib
open Px (R2 tl rcs RdR OwnR)
attribute [local go_sem ↓] add_plain
structure FD (w V W:World) (h:M.Hdr) (hv:Value) (g:Nat) (m:M.Met) (pv ev:Value):Prop where
 below:Below w.heap.size w W
 hdr:HB W w.heap.size h hv
 res:MB W (w.heap.size+1) {} (.slice none 0 0) (.slice none 0 0)
 met:MB W g m pv ev
 base:Below V.heap.size V W
 lo:w.heap.size+2≤V.heap.size
 mid:V.heap.size≤g
 hi:g<W.heap.size
section
variable {w V W W':World} {m m':M.Met} {pv pv' ev ev' hv:Value} {h:M.Hdr} {g:Nat}
theorem FD.later (p:FD w V W h hv g m pv ev) (hb:Below W.heap.size W W'):FD w V W' h hv g m pv ev:=
 have h1:=p.lo
 have h2:=p.hi
 have h3:=p.mid
 ⟨p.below.trans (hb.mono p.below.size),p.hdr.below hb (by omega),p.res.below hb (by omega),p.met.below hb h2,p.base.trans (hb.mono p.base.size),h1,h3,Nat.lt_of_lt_of_le h2 hb.size⟩
theorem FD.set (p:FD w V W h hv g m pv ev) (i:Nat) (v:Value) (e:(mcells m pv ev).set! i v=mcells m' pv' ev'):FD w V (W.setCell ⟨g,i,none⟩ v) h hv g m' pv' ev':=
 have h1:=p.lo
 have h3:=p.mid
 ⟨p.below.setCell (p:=⟨g,i,none⟩) (by show w.heap.size≤g;omega) v,p.hdr.other (a:=⟨g,i,none⟩) (by show w.heap.size≠g;omega) v,p.res.other (a:=⟨g,i,none⟩) (by show w.heap.size+1≠g;omega) v,p.met.set i v e,
  p.base.setCell (p:=⟨g,i,none⟩) h3 v,h1,h3,by rw [World.size_setCell];exact p.hi⟩
theorem FD.else_ (p:FD w V W h hv g m pv ev) {b:Nat} (hb:V.heap.size≤b) (hne:b≠g) (i:Nat) (v:Value):FD w V (W.setCell ⟨b,i,none⟩ v) h hv g m pv ev:=
 have h1:=p.lo
 have h3:=p.mid
 ⟨p.below.setCell (p:=⟨b,i,none⟩) (by show w.heap.size≤b;omega) v,p.hdr.other (a:=⟨b,i,none⟩) (by show w.heap.size≠b;omega) v,p.res.other (a:=⟨b,i,none⟩) (by show w.heap.size+1≠b;omega) v,p.met.other (a:=⟨b,i,none⟩) (fun e=>hne e.symm) v,
  p.base.setCell (p:=⟨b,i,none⟩) hb v,h1,h3,by rw [World.size_setCell];exact p.hi⟩
theorem FD.row (p:FD w V W h hv g m pv ev) (m':M.Met) (pv' ev':Value):FD w V (W.setRow g (mcells m' pv' ev')) h hv g m' pv' ev':=
 have h1:=p.lo
 have h3:=p.mid
 ⟨below_setRow p.below (g:=g) (by omega) _,p.hdr.of_block (setRow_other W g w.heap.size _ (by omega)),p.res.of_block (setRow_other W g (w.heap.size+1) _ (by omega)),setRow_heap _ _ _ _ _ _ p.met,below_setRow p.base h3 _,h1,h3,by simpa using p.hi⟩
theorem FD.fin (p:FD w V W h hv g m pv ev) (m1:M.Met) (p1 e1:Value):MB (W.setRow (w.heap.size+1) (mcells m1 p1 e1)) (w.heap.size+1) m1 p1 e1∧Below w.heap.size w (W.setRow (w.heap.size+1) (mcells m1 p1 e1)):=
 ⟨setRow_heap _ _ _ _ _ _ p.res,below_setRow p.below (by omega) _⟩
end
theorem results_from10 {tmps:Array Value} {g:Nat} {m:M.Met} {pv ev:Value} {n:Int} {w:World} (hb:MB w g m pv ev) (h2:tmps.getD 10 undef= .pointer (some ⟨g,0,none⟩)) (h3:tmps.getD 11 undef= .int .i64 n):
  (results Tryz.f15 tmps).run Tryz.prog w= .ok (.tuple #[.agg (mcells m pv ev), .int .i64 n]) w:=by
 rw [Array.getD_eq_getD_getElem?] at h2 h3
 have hl:=run_loadVar_row (P:=Tryz.prog) w g 45 45 (mcells m pv ev) (0,0) _ hb Tryz.underlying45 rfl met_size
 simp [results,Tryz.results15,h2,h3,asAddr,hl]
def mF (h:M.Hdr) (n us gr lk:ByteArray) (k mj mn u gd:Int) (t:Int × Int) (sz:Int):M.Met:= { name:=n,link:=lk,kind:=k,mode:=h.mode,uid:=u,gid:=gd,user:=us,group:=gr,sec:=t.1,nan:=t.2,major:=mj,minor:=mn,size:=sz }
theorem textR_len {r:List Px.M.Rc} {k o:ByteArray} (hr: ∀ x∈r,x.2.length≤1048576) (ho:o.size≤1048576):(M.textR r k o).size≤1048576:=by
 unfold M.textR
 cases hf:Px.M.find r (tl k) with
 |none=>exact ho
 |some v=>exact find_len hr hf
theorem rcs_len {rs:List R2} (h: ∀ r∈rs,r.1.size≤1048576∧r.2.size≤1048576): ∀ x∈rcs rs,x.2.length≤1048576:=by
 intro x hx
 obtain ⟨r,hr,rfl⟩:=List.mem_map.1 hx
 exact (h r hr).2
def FromIs10 (h:M.Hdr) (l:List R2) (names links:List ByteArray) (more:List (Int × Int)) (w:World) (e:Ending) (w':World):Prop:=
 ∃ P p E c,e= .returned (.tuple #[.agg (mcells (M.fromM h (rcs l) names links more) (.slice P (M.fromM h (rcs l) names links more).parts.length p) (.slice E (M.fromM h (rcs l) names links more).extra.length c)), .int .i64 (M.fromE h (rcs l) names links more:Nat)])∧
   Sp.RdP w' w'.heap.size P (M.fromM h (rcs l) names links more).parts.length (M.fromM h (rcs l) names links more).parts∧RdR w' w'.heap.size E (M.fromM h (rcs l) names links more).extra∧Below w.heap.size w w'
theorem from10_none {h:M.Hdr} {l:List R2} {names links:List ByteArray} {more:List (Int × Int)} {w:World} {n:Nat} (hE:M.fromE h (rcs l) names links more=n) (h0:n≠0) {w':World} (hb:Below w.heap.size w w'):
  FromIs10 h l names links more w (.returned (.tuple #[.agg (mcells {} (.slice none 0 0) (.slice none 0 0)), .int .i64 (n:Nat)])) w':=by
 have hM:M.fromM h (rcs l) names links more= {} :=by unfold M.fromM;rw [if_neg (by rw [hE];exact h0)]
 refine ⟨none,0,none,0, ?_, ?_, ?_,hb⟩
 ·rw [hM,hE];rfl
 ·rw [hM];exact Sp.RdP.none_
 ·rw [hM];exact Px.RdR.none_
theorem clamp_max (n:Int):M.clampN n=max n (-1):=by
 unfold M.clampN
 split<;>omega
theorem bad34 {h:M.Hdr} {l rs:List R2} {names links:List ByteArray} {more:List (Int × Int)} (hm:rcs rs=Px.M.merge Px.ltB (rcs l) (rcs [])) (hk:M.kindMay h.kind=true)
  (h0:M.taken (rcs rs) (M.told (M.clampH h) names links)=none∨ ∃ mt,M.taken (rcs rs) (M.told (M.clampH h) names links)=some mt∧M.dig (M.strip mt) (M.clampH h) (rcs rs) more=none):M.fromE h (rcs l) names links more=34:=by
 rw [←M.fromE_clamp]
 refine (from34 (h:=M.clampH h) hk ?_).1
 rcases h0 with h0|⟨mt,h1,h2⟩
 ·exact known_none1 hm rfl h0
 ·exact known_none2 hm rfl h1 h2
def takenM (h:M.Hdr) (names links:List ByteArray) (r:List Px.M.Rc) (ux gx sx:Int) (tn:Int × Int):M.Met:=
 { M.told (M.clampH h) names links with name:=M.textR r M.kPath (M.lastOf names (M.nameOf h)),link:=M.textR r M.kLink (M.lastOf links h.link),user:=M.textR r M.kUser h.user,group:=M.textR r M.kGroup h.group,uid:=ux,gid:=gx,size:=sx,sec:=tn.1,nan:=tn.2 }
theorem taken_is {h:M.Hdr} {names links:List ByteArray} {r:List Px.M.Rc} {ux gx sx:Int} {tn:Int × Int}
  (h1:M.numR r M.kUid 4611686018427387904 (M.told (M.clampH h) names links).uid=some ux) (h2:M.numR r M.kGid 4611686018427387904 (M.told (M.clampH h) names links).gid=some gx)
  (h3:M.numR r M.kSize 1099511627776 (M.told (M.clampH h) names links).size=some sx) (ht:M.timeR r M.kTime (St.M.norm (h.mtime,0))=some tn):
  M.taken r (M.told (M.clampH h) names links)=some (takenM h names links r ux gx sx tn):=by
 unfold M.taken
 rw [h1,h2,h3,show M.timeR r M.kTime ((M.told (M.clampH h) names links).sec,(M.told (M.clampH h) names links).nan)=some tn from ht]
 rfl
theorem fit_taken {h:M.Hdr} {names links:List ByteArray} {r:List Px.M.Rc} {ux gx sx:Int} {tn:Int × Int} (hr: ∀ x∈r,x.2.length≤1048576) (hf:Fit1 (M.told h names links)) (h1:isI64 ux) (h2:isI64 gx) (h3:isI64 sx) (h4:isI64 tn.1∧isI64 tn.2):
  Fit1 (takenM h names links r ux gx sx tn):=
 ⟨hf.kind,textR_len hr hf.name,textR_len hr hf.link,textR_len hr hf.user,textR_len hr hf.group,hf.mode,h1,h2,h4.1,h4.2,hf.major,hf.minor,h3,hf.real⟩
theorem numR_i64 {r:List Px.M.Rc} {k:ByteArray} {most o n:Int} (hm:most≤9223372036854775807) (ho:isI64 o) (h:M.numR r k most o=some n):isI64 n:=by
 unfold M.numR at h
 split at h
 ·have:=dec_range h
  unfold isI64
  omega
 ·cases h
  exact ho
theorem isI64_clamp {n:Int} (h:isI64 n):isI64 (M.clampN n):=by
 unfold isI64 at*
 unfold M.clampN
 split<;>omega
theorem bad34s {h:M.Hdr} {l rs:List R2} {names links:List ByteArray} {more:List (Int × Int)} {mt ms:M.Met} (hm:rcs rs=Px.M.merge Px.ltB (rcs l) (rcs [])) (hk:M.kindMay h.kind=true)
  (h1:M.taken (rcs rs) (M.told (M.clampH h) names links)=some mt) (h2:M.strip mt=ms) (h3:M.dig ms (M.clampH h) (rcs rs) more=none):M.fromE h (rcs l) names links more=34:=
 bad34 hm hk (.inr ⟨mt,h1,by rw [h2];exact h3⟩)
theorem good_is {h:M.Hdr} {l rs:List R2} {names links:List ByteArray} {more:List (Int × Int)} {mt ms md:M.Met} (hm:rcs rs=Px.M.merge Px.ltB (rcs l) (rcs [])) (hk:M.kindMay h.kind=true)
  (h1:M.taken (rcs rs) (M.told (M.clampH h) names links)=some mt) (h2:M.strip mt=ms) (h3:M.dig ms (M.clampH h) (rcs rs) more=some md):
  M.fromE h (rcs l) names links more=M.toE { md with extra:=rs.filter other } ∧M.fromM h (rcs l) names links more=if M.toE { md with extra:=rs.filter other } =0 then { md with extra:=rs.filter other } else {} :=by
 have hK:M.known (M.clampH h) (rcs l) names links more=some { md with extra:=rs.filter other } :=by
  rw [known_is hm rfl h1,h2,h3,←others_eq]
  rfl
 have:=from_is (h:=M.clampH h) hk hK
 rwa [M.fromE_clamp,M.fromM_clamp] at this
theorem merged_fit5 {l rs:List R2} (h:Px.rcs rs=Px.M.merge Px.ltB (Px.rcs l) (Px.rcs [])) (hl: ∀ r∈l,r.2.size≤100000): ∀ r∈rs,r.2.size≤100000:=by
 intro r hr
 have h1:Px.rc r∈Px.rcs rs:=List.mem_map_of_mem hr
 rw [h] at h1
 rcases M.merge_mem h1 with h2|h2
 ·obtain ⟨q,hq,he⟩:=List.mem_map.1 h2
  have e2:tl q.2=tl r.2:=congrArg Prod.snd he
  have:=hl q hq
  rw [tl_inj e2] at this
  exact this
 ·cases h2
set_option maxRecDepth 100000 in
set_option maxHeartbeats 16000000 in
theorem refFrom_any (h:M.Hdr) (Ah:Option Addr) (ch:Nat) (l:List R2) (names links:List ByteArray) (more:List (Int × Int)) (A An Al Am:Option Addr) (c cn cl cm:Nat) (B:Nat) (w:World)
  (hi:FIn w h (.slice Ah h.parts.length ch) l names links more A An Al Am) (hv5: ∀ r∈l,r.2.size≤100000) (hn4:h.parts.length≤400000∧more.length≤400000) (hl4:l.length≤400000) (hB:B≤w.heap.size) (ht:Sp.EV B w):
  Calls Tryz.prog 15 #[.agg (hcells h (.slice Ah h.parts.length ch)), .slice A l.length c, .slice An names.length cn, .slice Al links.length cl, .slice Am more.length cm] w (FromIs10 h l names links more w):=by
 have HT:=hid (fun (V:World) (hV:Below w.heap.size w V)=>ht.on (hV.mono hB))
 have HRA:=hid (fun (V:World) (hV:Below w.heap.size w V)=>(hi.rrecs.below hV).more hV.size)
 have HNM:=hid (fun (V:World) (hV:Below w.heap.size w V)=>rdT_later hi.rnames hV)
 have HLK:=hid (fun (V:World) (hV:Below w.heap.size w V)=>rdT_later hi.rlinks hV)
 have HMO:=hid (fun (V:World) (hV:Below w.heap.size w V)=>(hi.rmore.below hV).more hV.size)
 have HRP:=hid (fun (V:World) (hV:Below w.heap.size w V)=>show Sp.RdP V V.heap.size Ah h.parts.length h.parts by
  obtain ⟨A',c',e,hp⟩:=hi.rparts
  injection e with e1 _ _
  subst e1
  exact (hp.below hV).more hV.size)
 have HI:=hid hi
 have HBB:=hid hB
 have hnn:=hi.nnames
 have hpn:=hi.pn
 have hkd:=hi.kind
 have H1:=hid ((HB.new w h (.slice Ah h.parts.length ch)).alloc (.cells (mcells {} (.slice none 0 0) (.slice none 0 0)) 45))
 have hw0:Below w.heap.size w ((w.alloc (.cells (hcells h (.slice Ah h.parts.length ch)) 24)).alloc (.cells (mcells {} (.slice none 0 0) (.slice none 0 0)) 45)):=((Below.refl _ w).alloc (Nat.le_refl _) _).alloc (by simp) _
 have M1:=hid (show MB ((w.alloc (.cells (hcells h (.slice Ah h.parts.length ch)) 24)).alloc (.cells (mcells {} (.slice none 0 0) (.slice none 0 0)) 45)) (w.heap.size+1) {} (.slice none 0 0) (.slice none 0 0) by have:=MB.new (w.alloc (.cells (hcells h (.slice Ah h.parts.length ch)) 24)) {} (.slice none 0 0) (.slice none 0 0);rwa [World.size_alloc] at this)
 have hsz:((w.alloc (.cells (hcells h (.slice Ah h.parts.length ch)) 24)).alloc (.cells (mcells {} (.slice none 0 0) (.slice none 0 0)) 45)).heap.size=w.heap.size+2:=by rw [World.size_alloc,World.size_alloc]
 have HW:=hid hw0
 have HS:=hid hsz
 rw [met_zero] at H1 M1 HW HS
 clear hw0 hsz hi ht hB
 go_enter Tryz.func15,Tryz.ntmps15
 go_upto_region 1 with fail
 generalize World.alloc (World.alloc w _) _=W at*
 have k6:=H1.out.cell (i:=6) (v:= .int .u8 h.kind) rfl
 obtain ⟨bk,hbk⟩: ∃ b,M.kindMay h.kind=b:=⟨_,rfl⟩
 go_cut [46] from 34 to 46 (fun v wx=>v= .bool (!bk)∧W=wx)
 case first=>
  have hwt:M.kindMay h.kind=((decide (48≤h.kind)&&decide (h.kind≤55))||h.kind==83):=rfl
  rw [hbk] at hwt
  have HWT:=hid hwt
  clear hwt hbk
  rcases Int.lt_or_le h.kind 48 with hk|hk
  ·have d0:decide (h.kind<48)=true:=by rw [decide_eq_true_eq];exact hk
   have e0:decide (48≤h.kind)=false:=by rw [decide_eq_false_iff_not];omega
   have d8:(h.kind !=83)=true:=by rw [bne_iff_ne];omega
   have d9:(h.kind==83)=false:=by rw [beq_eq_false_iff_ne];omega
   go_wp2_with fail
   go_meet
   case rel=>exact ⟨by rw [HWT.out,e0,d9];rfl,rfl⟩
  ·have d0:decide (h.kind<48)=false:=by rw [decide_eq_false_iff_not];omega
   have e0:decide (48≤h.kind)=true:=by rw [decide_eq_true_eq];exact hk
   rcases Int.lt_or_le 55 h.kind with hk2|hk2
   ·have d1:decide (h.kind>55)=true:=by rw [decide_eq_true_eq];exact hk2
    have e1:decide (h.kind≤55)=false:=by rw [decide_eq_false_iff_not];omega
    go_wp2_with fail
    go_meet
    case rel=>exact ⟨by rw [HWT.out,e0,e1];rfl,rfl⟩
   ·have d1:decide (h.kind>55)=false:=by rw [decide_eq_false_iff_not];omega
    have e1:decide (h.kind≤55)=true:=by rw [decide_eq_true_eq];exact hk2
    go_wp2_with fail
    go_meet
    case rel=>exact ⟨by rw [HWT.out,e0,e1];rfl,rfl⟩
 obtain ⟨rfl,rfl⟩:=hcut
 have HBK:=hid hbk
 clear hbk k6
 cases bk with
 |false=>
  go_wp2_with (refine wpList_store_row rfl 45 (.tmp 10) (.tmp 47) rfl (w.heap.size+1) (mcells {} (.slice none 0 0) (.slice none 0 0)) (by rfl) (by rfl) 45 _ M1.out met_size rfl (mcells_one _ rfl rfl) ?_)
  refine bodyPost_ret (results_from10 (setRow_heap _ _ _ _ _ _ M1.out) rfl rfl) rfl ?_
  exact from10_none (n:=31) (by unfold M.fromE;rw [if_pos HBK.out]) (by decide) (below_setRow HW.out (by omega) _)
 |true=>
 go_wp2_with fail
 refine (Px.refMerge_any A c l none 0 [] hl4 (by simp) W (HRA.out W HW.out) Px.RdR.none_).mono ?_
 rintro e V1 ⟨A1,c1,rs,rfl,hr1,hc1,hc2,hrs,hlen,hb1⟩
 have HM:=hid hrs
 have RS:=hid (fun (V:World) (hV:Below V1.heap.size V1 V)=>(hr1.below hV).more hV.size)
 have HW1:=hid (HW.out.trans (hb1.mono HW.out.size))
 have H2:=hid (H1.out.below hb1 (by rw [HS.out];omega))
 have M2:=hid (M1.out.below hb1 (by rw [HS.out];omega))
 have hs1:w.heap.size+2≤V1.heap.size:=by rw [←HS.out];exact hb1.size
 have hlr:rs.length≤1048576:=Nat.le_trans hlen (by simp;omega)
 have hlr5:rs.length≤500000:=Nat.le_trans hlen (by simp;omega)
 have HF5:=hid (merged_fit5 hrs hv5)
 have HF6:=hid (merged_fit hrs HI.out.fits)
 clear H1 M1 HW hb1 hr1 hc1 hc2 hrs hlen HS HRA
 have k0:=H2.out.cell (i:=0) (v:= .string h.name) rfl
 have k13:=H2.out.cell (i:=13) (v:= .string h.pre) rfl
 obtain ⟨bp,hbp⟩: ∃ b,(!h.pre.toList.isEmpty)=b:=⟨_,rfl⟩
 go_upto_if 54 with fail
 obtain ⟨nm,hnm⟩: ∃ s,M.nameOf h=s:=⟨_,rfl⟩
 go_cut [13] from 55 to 60 (fun v wx=>v= .string nm∧V1=wx)
 case first=>
  cases bp with
  |false=>
   have hz:h.pre.size=0:=by
    have:h.pre.toList= []:=by simpa using hbp
    rw [ByteArray.toList_eq] at this
    have h2:=congrArg List.length this
    exact h2
   have HN:=hid (show h.name=nm by rw [←hnm];unfold M.nameOf;rw [if_pos hz])
   clear hbp hnm hz
   go_wp2_with fail
   go_meet
   case rel=>exact ⟨by rw [HN.out],rfl⟩
  |true=>
   have hz:h.pre.size≠0:=by
    have:h.pre.toList≠ []:=by simpa using hbp
    rw [ByteArray.toList_eq] at this
    intro e
    exact this (List.eq_nil_of_length_eq_zero e)
   have HN:=hid (show h.pre++⟨#[47]⟩++h.name=nm by rw [←hnm];unfold M.nameOf;rw [if_neg hz])
   have x1: ¬ 9223372036854775807<h.pre.size+(⟨#[47]⟩:ByteArray).size:=by show ¬ _<h.pre.size+1;omega
   have x2:(h.pre++⟨#[47]⟩:ByteArray).size=h.pre.size+1:=ByteArray.size_append
   have x3: ¬ 9223372036854775807<h.pre.size+1+h.name.size:=by omega
   clear hbp hnm hz
   go_wp2_with fail
   go_meet
   case rel=>exact ⟨by rw [HN.out],rfl⟩
 obtain ⟨rfl,rfl⟩:=hcut
 have HNM1:=hid hnm
 clear hnm hbp k0 k13
 obtain ⟨nl,hnl⟩: ∃ s,M.lastOf names nm=s:=⟨_,rfl⟩
 obtain ⟨n7,hn7⟩: ∃ s,M.textR (rcs rs) ⟨#[112,97,116,104]⟩ nl=s:=⟨_,rfl⟩
 obtain ⟨us,hus⟩: ∃ s,M.textR (rcs rs) ⟨#[117,110,97,109,101]⟩ h.user=s:=⟨_,rfl⟩
 obtain ⟨gr,hgr⟩: ∃ s,M.textR (rcs rs) ⟨#[103,110,97,109,101]⟩ h.group=s:=⟨_,rfl⟩
 have HLA:=hid (fun (V:World) (hV:Below V1.heap.size V1 V)=>refLast_any An cn names nm hnn.1 V (HNM.out V (HW1.out.trans (hV.mono HW1.out.size))))
 have HTX:=hid (fun (V:World) (hV:Below V1.heap.size V1 V) (k o:ByteArray)=>refTextR_any A1 c1 rs k o hlr V (RS.out V hV))
 have HT1:=hid (fun (V:World) (hV:Below V1.heap.size V1 V)=>HTX.out V hV ⟨#[112,97,116,104]⟩ nl)
 have HT2:=hid (fun (V:World) (hV:Below V1.heap.size V1 V)=>HTX.out V hV ⟨#[117,110,97,109,101]⟩ h.user)
 have HT3:=hid (fun (V:World) (hV:Below V1.heap.size V1 V)=>HTX.out V hV ⟨#[103,110,97,109,101]⟩ h.group)
 rw [hnl] at HLA
 rw [hn7] at HT1
 rw [hus] at HT2
 rw [hgr] at HT3
 have HNL:=hid hnl
 have HN7:=hid hn7
 have HUS:=hid hus
 have HGR:=hid hgr
 clear hnl hn7 hus hgr
 have HD2:=hid (fun (V:World) (hV:Below V1.heap.size V1 V)=>And.intro (H2.out.below hV (by omega)) (And.intro (M2.out.below hV (by omega)) (HW1.out.trans (hV.mono HW1.out.size))))
 go_upto_region 7 with fail
 refine wp_region_rows [61,62,63,64,65,66,67,68,69,70,71,72,73,74,75,76,77,78,14] (by kernel_rfl) (by kernel_rfl) (by kernel_rfl) (fun (i:Nat) (v:Value) (W:World)=>match i with|0=>v= .slice A1 rs.length c1|1=>v= .slice An names.length cn|2=>v= .string nm|3=>v= .string nl|4=>v= .string n7|5=>v= .pointer (some ⟨w.heap.size,6,none⟩)|6=>v= .int .u8 h.kind|7=>v= .pointer (some ⟨w.heap.size,1,none⟩)|8=>v= .int .i64 h.mode|9=>v= .slice A1 rs.length c1|10=>v= .pointer (some ⟨w.heap.size,9,none⟩)|11=>v= .string h.user|12=>v= .string us|13=>v= .slice A1 rs.length c1|14=>v= .pointer (some ⟨w.heap.size,10,none⟩)|15=>v= .string h.group|16=>v= .string gr|17=>v= .agg (mcells (mF h n7 us gr ⟨#[]⟩ h.kind 0 0 0 0 (0,0) 0) (.slice none 0 0) (.slice none 0 0))|_=> ∃ g,v= .pointer (some ⟨g,0,none⟩)∧V1.heap.size≤g∧g<W.heap.size∧MB W g {} (.slice none 0 0) (.slice none 0 0)) ?_ ?_ ?_
 ·intro i hi v w1 w2 hb hR
  have hlt:i<19:=hi
  have hi':i=0∨i=1∨i=2∨i=3∨i=4∨i=5∨i=6∨i=7∨i=8∨i=9∨i=10∨i=11∨i=12∨i=13∨i=14∨i=15∨i=16∨i=17∨i=18:=by omega
  clear hlt hi
  rcases hi' with rfl|rfl|rfl|rfl|rfl|rfl|rfl|rfl|rfl|rfl|rfl|rfl|rfl|rfl|rfl|rfl|rfl|rfl|rfl
  ·exact hR
  ·exact hR
  ·exact hR
  ·exact hR
  ·exact hR
  ·exact hR
  ·exact hR
  ·exact hR
  ·exact hR
  ·exact hR
  ·exact hR
  ·exact hR
  ·exact hR
  ·exact hR
  ·exact hR
  ·exact hR
  ·exact hR
  ·exact hR
  ·obtain ⟨g,h1,h2,h3,h4⟩:=hR
   exact ⟨g,h1,h2,Nat.lt_of_lt_of_le h3 hb.size,h4.below hb h3⟩
 ·intro i hi o ho a w1 hw hpar hp
  have HE:=hid (HD2.out w1 hw)
  have hlt:i<19:=hi
  have hi':i=0∨i=1∨i=2∨i=3∨i=4∨i=5∨i=6∨i=7∨i=8∨i=9∨i=10∨i=11∨i=12∨i=13∨i=14∨i=15∨i=16∨i=17∨i=18:=by omega
  clear hlt hi
  rcases hi' with rfl|rfl|rfl|rfl|rfl|rfl|rfl|rfl|rfl|rfl|rfl|rfl|rfl|rfl|rfl|rfl|rfl|rfl|rfl
  ·simp only [List.getElem?_toArray,List.getElem?_cons_zero,List.getElem?_cons_succ,Option.some.injEq] at ho
   subst ho
   have hs12:a.tmps[12]?.getD undef= .slice A1 rs.length c1:=(eval_getD a 12).symm.trans (hpar 12 (by decide))
   clear hp hpar
   go_simp
   exact ⟨_,rfl,rfl,Below.refl _ _⟩
  ·simp only [List.getElem?_toArray,List.getElem?_cons_zero,List.getElem?_cons_succ,Option.some.injEq] at ho
   subst ho
   have hs2:a.tmps[2]?.getD undef= .slice An names.length cn:=(eval_getD a 2).symm.trans (hpar 2 (by decide))
   clear hp hpar
   go_simp
   exact ⟨_,rfl,rfl,Below.refl _ _⟩
  ·simp only [List.getElem?_toArray,List.getElem?_cons_zero,List.getElem?_cons_succ,Option.some.injEq] at ho
   subst ho
   have hs13:a.tmps[13]?.getD undef= .string nm:=(eval_getD a 13).symm.trans (hpar 13 (by decide))
   clear hp hpar
   go_simp
   exact ⟨_,rfl,rfl,Below.refl _ _⟩
  ·simp only [List.getElem?_toArray,List.getElem?_cons_zero,List.getElem?_cons_succ,Option.some.injEq] at ho
   subst ho
   have h1:a.tmps[62]?.getD undef= .slice An names.length cn:=(eval_getD a 62).symm.trans (hp ⟨1, .data⟩ (by simp) rfl)
   have h2:a.tmps[63]?.getD undef= .string nm:=(eval_getD a 63).symm.trans (hp ⟨2, .data⟩ (by simp) rfl)
   clear hp hpar
   go_simp
   (with_reducible refine (HLA.out _ hw).mono ?_)
   rintro e w2 ⟨rfl,rfl⟩
   exact ⟨_,rfl,rfl,Below.refl _ _⟩
  ·simp only [List.getElem?_toArray,List.getElem?_cons_zero,List.getElem?_cons_succ,Option.some.injEq] at ho
   subst ho
   have h0:a.tmps[61]?.getD undef= .slice A1 rs.length c1:=(eval_getD a 61).symm.trans (hp ⟨0, .data⟩ (by simp) rfl)
   have h3:a.tmps[64]?.getD undef= .string nl:=(eval_getD a 64).symm.trans (hp ⟨3, .data⟩ (by simp) rfl)
   clear hp hpar
   go_simp
   (with_reducible refine (HT1.out _ hw).mono ?_)
   rintro e w2 ⟨rfl,h2⟩
   exact ⟨_,rfl,rfl,h2⟩
  ·simp only [List.getElem?_toArray,List.getElem?_cons_zero,List.getElem?_cons_succ,Option.some.injEq] at ho
   subst ho
   have hs5:a.tmps[5]?.getD undef= .pointer (some ⟨w.heap.size,0,none⟩):=(eval_getD a 5).symm.trans (hpar 5 (by decide))
   clear hp hpar
   go_simp
   exact ⟨_,rfl,rfl,Below.refl _ _⟩
  ·simp only [List.getElem?_toArray,List.getElem?_cons_zero,List.getElem?_cons_succ,Option.some.injEq] at ho
   subst ho
   have h5:a.tmps[66]?.getD undef= .pointer (some ⟨w.heap.size,6,none⟩):=(eval_getD a 66).symm.trans (hp ⟨5, .data⟩ (by simp) rfl)
   have kk:=HE.out.1.cell (i:=6) (v:= .int .u8 h.kind) rfl
   clear hp hpar
   go_simp
   exact ⟨_,rfl,rfl,Below.refl _ _⟩
  ·simp only [List.getElem?_toArray,List.getElem?_cons_zero,List.getElem?_cons_succ,Option.some.injEq] at ho
   subst ho
   have hs5:a.tmps[5]?.getD undef= .pointer (some ⟨w.heap.size,0,none⟩):=(eval_getD a 5).symm.trans (hpar 5 (by decide))
   clear hp hpar
   go_simp
   exact ⟨_,rfl,rfl,Below.refl _ _⟩
  ·simp only [List.getElem?_toArray,List.getElem?_cons_zero,List.getElem?_cons_succ,Option.some.injEq] at ho
   subst ho
   have h7:a.tmps[68]?.getD undef= .pointer (some ⟨w.heap.size,1,none⟩):=(eval_getD a 68).symm.trans (hp ⟨7, .data⟩ (by simp) rfl)
   have kk:=HE.out.1.cell (i:=1) (v:= .int .i64 h.mode) rfl
   clear hp hpar
   go_simp
   exact ⟨_,rfl,rfl,Below.refl _ _⟩
  ·simp only [List.getElem?_toArray,List.getElem?_cons_zero,List.getElem?_cons_succ,Option.some.injEq] at ho
   subst ho
   have hs12:a.tmps[12]?.getD undef= .slice A1 rs.length c1:=(eval_getD a 12).symm.trans (hpar 12 (by decide))
   clear hp hpar
   go_simp
   exact ⟨_,rfl,rfl,Below.refl _ _⟩
  ·simp only [List.getElem?_toArray,List.getElem?_cons_zero,List.getElem?_cons_succ,Option.some.injEq] at ho
   subst ho
   have hs5:a.tmps[5]?.getD undef= .pointer (some ⟨w.heap.size,0,none⟩):=(eval_getD a 5).symm.trans (hpar 5 (by decide))
   clear hp hpar
   go_simp
   exact ⟨_,rfl,rfl,Below.refl _ _⟩
  ·simp only [List.getElem?_toArray,List.getElem?_cons_zero,List.getElem?_cons_succ,Option.some.injEq] at ho
   subst ho
   have h10:a.tmps[71]?.getD undef= .pointer (some ⟨w.heap.size,9,none⟩):=(eval_getD a 71).symm.trans (hp ⟨10, .data⟩ (by simp) rfl)
   have kk:=HE.out.1.cell (i:=9) (v:= .string h.user) rfl
   clear hp hpar
   go_simp
   exact ⟨_,rfl,rfl,Below.refl _ _⟩
  ·simp only [List.getElem?_toArray,List.getElem?_cons_zero,List.getElem?_cons_succ,Option.some.injEq] at ho
   subst ho
   have h9:a.tmps[70]?.getD undef= .slice A1 rs.length c1:=(eval_getD a 70).symm.trans (hp ⟨9, .data⟩ (by simp) rfl)
   have h11:a.tmps[72]?.getD undef= .string h.user:=(eval_getD a 72).symm.trans (hp ⟨11, .data⟩ (by simp) rfl)
   clear hp hpar
   go_simp
   (with_reducible refine (HT2.out _ hw).mono ?_)
   rintro e w2 ⟨rfl,h2⟩
   exact ⟨_,rfl,rfl,h2⟩
  ·simp only [List.getElem?_toArray,List.getElem?_cons_zero,List.getElem?_cons_succ,Option.some.injEq] at ho
   subst ho
   have hs12:a.tmps[12]?.getD undef= .slice A1 rs.length c1:=(eval_getD a 12).symm.trans (hpar 12 (by decide))
   clear hp hpar
   go_simp
   exact ⟨_,rfl,rfl,Below.refl _ _⟩
  ·simp only [List.getElem?_toArray,List.getElem?_cons_zero,List.getElem?_cons_succ,Option.some.injEq] at ho
   subst ho
   have hs5:a.tmps[5]?.getD undef= .pointer (some ⟨w.heap.size,0,none⟩):=(eval_getD a 5).symm.trans (hpar 5 (by decide))
   clear hp hpar
   go_simp
   exact ⟨_,rfl,rfl,Below.refl _ _⟩
  ·simp only [List.getElem?_toArray,List.getElem?_cons_zero,List.getElem?_cons_succ,Option.some.injEq] at ho
   subst ho
   have h14:a.tmps[75]?.getD undef= .pointer (some ⟨w.heap.size,10,none⟩):=(eval_getD a 75).symm.trans (hp ⟨14, .data⟩ (by simp) rfl)
   have kk:=HE.out.1.cell (i:=10) (v:= .string h.group) rfl
   clear hp hpar
   go_simp
   exact ⟨_,rfl,rfl,Below.refl _ _⟩
  ·simp only [List.getElem?_toArray,List.getElem?_cons_zero,List.getElem?_cons_succ,Option.some.injEq] at ho
   subst ho
   have h13:a.tmps[74]?.getD undef= .slice A1 rs.length c1:=(eval_getD a 74).symm.trans (hp ⟨13, .data⟩ (by simp) rfl)
   have h15:a.tmps[76]?.getD undef= .string h.group:=(eval_getD a 76).symm.trans (hp ⟨15, .data⟩ (by simp) rfl)
   clear hp hpar
   go_simp
   (with_reducible refine (HT3.out _ hw).mono ?_)
   rintro e w2 ⟨rfl,h2⟩
   exact ⟨_,rfl,rfl,h2⟩
  ·simp only [List.getElem?_toArray,List.getElem?_cons_zero,List.getElem?_cons_succ,Option.some.injEq] at ho
   subst ho
   have h4:a.tmps[65]?.getD undef= .string n7:=(eval_getD a 65).symm.trans (hp ⟨4, .data⟩ (by simp) rfl)
   have h6:a.tmps[67]?.getD undef= .int .u8 h.kind:=(eval_getD a 67).symm.trans (hp ⟨6, .data⟩ (by simp) rfl)
   have h8:a.tmps[69]?.getD undef= .int .i64 h.mode:=(eval_getD a 69).symm.trans (hp ⟨8, .data⟩ (by simp) rfl)
   have h12:a.tmps[73]?.getD undef= .string us:=(eval_getD a 73).symm.trans (hp ⟨12, .data⟩ (by simp) rfl)
   have h16:a.tmps[77]?.getD undef= .string gr:=(eval_getD a 77).symm.trans (hp ⟨16, .data⟩ (by simp) rfl)
   clear hp hpar
   go_simp
   exact ⟨_,rfl,rfl,Below.refl _ _⟩
  ·simp only [List.getElem?_toArray,List.getElem?_cons_zero,List.getElem?_cons_succ,Option.some.injEq] at ho
   subst ho
   clear hp hpar
   go_simp
   exact ⟨_,rfl,⟨w1.heap.size,rfl,hw.size,Nat.lt_succ_self _,MB.new w1 {} (.slice none 0 0) (.slice none 0 0)⟩,(Below.refl _ _).alloc (Nat.le_refl _) _⟩
 ·intro o ho vs w1 hw hh
  simp only [List.length_cons,List.length_nil,Nat.reduceAdd,List.getElem?_toArray,List.getElem?_cons_zero,List.getElem?_cons_succ,Option.some.injEq] at ho
  subst ho
  have HE:=hid (HD2.out w1 hw)
  have e0:vs 0= .slice A1 rs.length c1:=hh 0 (by decide)
  have e1:vs 1= .slice An names.length cn:=hh 1 (by decide)
  have e2:vs 2= .string nm:=hh 2 (by decide)
  have e3:vs 3= .string nl:=hh 3 (by decide)
  have e4:vs 4= .string n7:=hh 4 (by decide)
  have e5:vs 5= .pointer (some ⟨w.heap.size,6,none⟩):=hh 5 (by decide)
  have e6:vs 6= .int .u8 h.kind:=hh 6 (by decide)
  have e7:vs 7= .pointer (some ⟨w.heap.size,1,none⟩):=hh 7 (by decide)
  have e8:vs 8= .int .i64 h.mode:=hh 8 (by decide)
  have e9:vs 9= .slice A1 rs.length c1:=hh 9 (by decide)
  have e10:vs 10= .pointer (some ⟨w.heap.size,9,none⟩):=hh 10 (by decide)
  have e11:vs 11= .string h.user:=hh 11 (by decide)
  have e12:vs 12= .string us:=hh 12 (by decide)
  have e13:vs 13= .slice A1 rs.length c1:=hh 13 (by decide)
  have e14:vs 14= .pointer (some ⟨w.heap.size,10,none⟩):=hh 14 (by decide)
  have e15:vs 15= .string h.group:=hh 15 (by decide)
  have e16:vs 16= .string gr:=hh 16 (by decide)
  have e17:vs 17= .agg (mcells (mF h n7 us gr ⟨#[]⟩ h.kind 0 0 0 0 (0,0) 0) (.slice none 0 0) (.slice none 0 0)):=hh 17 (by decide)
  have x18: ∃ g:Nat,vs 18= .pointer (some ⟨g,0,none⟩)∧V1.heap.size≤g∧g<w1.heap.size∧MB w1 g {} (.slice none 0 0) (.slice none 0 0):=hh 18 (by decide)
  have y18:=Classical.choose_spec x18
  generalize Classical.choose x18=g at y18
  have e18:=y18.1
  have HY:=hid y18.2
  clear y18 x18
  rw [show List.length ([61,62,63,64,65,66,67,68,69,70,71,72,73,74,75,76,77,78,14]:List Nat)=19 from rfl]
  rw [putAll_at 19 18 rfl (d:=14) rfl e18]
  rw [putAll_at 18 17 rfl (d:=78) rfl e17]
  rw [putAll_at 17 16 rfl (d:=77) rfl e16]
  rw [putAll_at 16 15 rfl (d:=76) rfl e15]
  rw [putAll_at 15 14 rfl (d:=75) rfl e14]
  rw [putAll_at 14 13 rfl (d:=74) rfl e13]
  rw [putAll_at 13 12 rfl (d:=73) rfl e12]
  rw [putAll_at 12 11 rfl (d:=72) rfl e11]
  rw [putAll_at 11 10 rfl (d:=71) rfl e10]
  rw [putAll_at 10 9 rfl (d:=70) rfl e9]
  rw [putAll_at 9 8 rfl (d:=69) rfl e8]
  rw [putAll_at 8 7 rfl (d:=68) rfl e7]
  rw [putAll_at 7 6 rfl (d:=67) rfl e6]
  rw [putAll_at 6 5 rfl (d:=66) rfl e5]
  rw [putAll_at 5 4 rfl (d:=65) rfl e4]
  rw [putAll_at 4 3 rfl (d:=64) rfl e3]
  rw [putAll_at 3 2 rfl (d:=63) rfl e2]
  rw [putAll_at 2 1 rfl (d:=62) rfl e1]
  rw [putAll_at 1 0 rfl (d:=61) rfl e0]
  rw [putAll_zero]
  simp only [Act.put,List.setIfInBounds_toArray,List.set_cons_zero,List.set_cons_succ]
  refine wp_store_row 45 (.tmp 14) (.tmp 78) rfl g (mcells (mF h n7 us gr ⟨#[]⟩ h.kind 0 0 0 0 (0,0) 0) (.slice none 0 0) (.slice none 0 0)) (by rfl) (by rfl) 45 _ HY.out.2.2 met_size rfl (mcells_one _ rfl rfl) ?_
  have F7:=hid (show FD w V1 (w1.setRow g (mcells (mF h n7 us gr ⟨#[]⟩ h.kind 0 0 0 0 (0,0) 0) (.slice none 0 0) (.slice none 0 0))) h (.slice Ah h.parts.length ch) g (mF h n7 us gr ⟨#[]⟩ h.kind 0 0 0 0 (0,0) 0) (.slice none 0 0) (.slice none 0 0) from ⟨below_setRow HE.out.2.2 (g:=g) (by have:=HY.out.1;omega) _,HE.out.1.of_block (setRow_other w1 g w.heap.size _ (by have:=HY.out.1;omega)),HE.out.2.1.of_block (setRow_other w1 g (w.heap.size+1) _ (by have:=HY.out.1;omega)),setRow_heap _ _ _ _ _ _ HY.out.2.2,below_setRow hw HY.out.1 _,hs1,HY.out.1,by simpa using HY.out.2.1⟩)
  clear hh e0 e1 e2 e3 e4 e5 e6 e7 e8 e9 e10 e11 e12 e13 e14 e15 e16 e17 e18 HE HD2 HLA HTX HT1 HT2 HT3 HY hw
  generalize World.setRow w1 g _=w7 at*
  go_upto_region 8 with fail
  simp only [Act.put]
  obtain ⟨bx,hbx⟩: ∃ b,(h.kind==55||h.kind==83)=b:=⟨_,rfl⟩
  have k6:=F7.out.hdr.cell (i:=6) (v:= .int .u8 h.kind) rfl
  go_cut [86] from 79 to 86 (fun v wx=>v= .bool bx∧w7=wx)
  case first=>
   obtain ⟨b5,hb5⟩: ∃ b,(h.kind==55)=b:=⟨_,rfl⟩
   obtain ⟨b8,hb8⟩: ∃ b,(h.kind==83)=b:=⟨_,rfl⟩
   have HBX:=hid (show bx=(b5||b8) by rw [←hbx,hb5,hb8])
   clear hbx
   cases b5 with
   |true=>
    go_wp2_with fail
    go_meet
    case rel=>exact ⟨by rw [HBX.out];rfl,rfl⟩
   |false=>
    go_wp2_with fail
    go_meet
    case rel=>exact ⟨by rw [HBX.out];rfl,rfl⟩
  obtain ⟨rfl,rfl⟩:=hcut
  have HBX:=hid hbx
  clear hbx k6
  obtain ⟨k1,hk1⟩: ∃ k:Int,(if bx=true then 48 else h.kind)=k:=⟨_,rfl⟩
  have HK1:=hid hk1
  go_upto_if 86 with fail
  go_cut [] from 87 to 87 (fun wx=>Hid (FD w V1 wx h (.slice Ah h.parts.length ch) g (mF h n7 us gr ⟨#[]⟩ k1 0 0 0 0 (0,0) 0) (.slice none 0 0) (.slice none 0 0)))
  case first=>
   clear HK1
   cases bx with
   |true=>
    obtain rfl:48=k1:=by simpa using hk1
    have k2:=F7.out.met.cell (i:=2) (v:= .int .u8 h.kind) rfl
    have f2:=F7.out.met.frozen 2
    go_wp2_with fail
    go_meet
    case rel=>exact hid (F7.out.set 2 (.int .u8 48) rfl)
   |false=>
    obtain rfl:h.kind=k1:=by simpa using hk1
    go_wp2_with fail
    go_meet
    case rel=>exact F7
  have F8:=hcut
  clear hcut F7 hk1
  have hn7s:n7.size≤1048576:=by
   rw [←HN7.out]
   refine textR_len (rcs_len HF6.out) ?_
   rw [←HNL.out,←HNM1.out]
   exact (fit_told hkd hpn HI.out.texts.1 HI.out.texts.2.1 HI.out.texts.2.2 HI.out.tnames.1 HI.out.tnames.2 HI.out.ints.1 HI.out.ints.2.1 HI.out.ints.2.2.1 HI.out.ints.2.2.2.1 HI.out.ints.2.2.2.2.1 HI.out.ints.2.2.2.2.2.1).name
  go_upto_region 10 with fail
  obtain ⟨bs,hbs⟩: ∃ b,M.slash (tl n7)=b:=⟨_,rfl⟩
  obtain ⟨b4,hb4⟩: ∃ b,(k1==48)=b:=⟨_,rfl⟩
  have HEN:=hid (fun V=>refEnds_any n7 hn7s V)
  rw [hbs] at HEN
  have k2:=F8.out.met.cell (i:=2) (v:= .int .u8 k1) rfl
  have k0:=F8.out.met.cell (i:=0) (v:= .string n7) rfl
  go_cut [95] from 88 to 95 (fun v wx=>v= .bool (b4&&bs)∧wc=wx)
  case first=>
   cases b4 with
   |true=>
    go_wp2_with (go_at_call 36;(with_reducible refine (HEN.out _).mono ?_);rintro e w2 ⟨rfl,rfl⟩)
    go_meet
    case rel=>exact ⟨by cases bs<;>rfl,rfl⟩
   |false=>
    go_wp2_with fail
    go_meet
    case rel=>exact ⟨rfl,rfl⟩
  obtain ⟨rfl,rfl⟩:=hcut
  have HBS:=hid hbs
  have HB4:=hid hb4
  clear hbs hb4 k2 k0 HEN
  obtain ⟨b11,hb11⟩: ∃ b,(b4&&bs)=b:=⟨_,rfl⟩
  obtain ⟨k2,hk2⟩: ∃ k:Int,(if b11=true then 53 else k1)=k:=⟨_,rfl⟩
  have HB11:=hid hb11
  have HK2:=hid hk2
  go_upto_if 95 with fail
  rw [hb11]
  clear hb11
  go_cut [] from 96 to 96 (fun wx=>Hid (FD w V1 wx h (.slice Ah h.parts.length ch) g (mF h n7 us gr ⟨#[]⟩ k2 0 0 0 0 (0,0) 0) (.slice none 0 0) (.slice none 0 0)))
  case first=>
   clear HK2 HB11
   cases b11 with
   |true=>
    obtain rfl:53=k2:=by simpa using hk2
    have k2:=F8.out.met.cell (i:=2) (v:= .int .u8 k1) rfl
    have f2:=F8.out.met.frozen 2
    go_wp2_with fail
    go_meet
    case rel=>exact hid (F8.out.set 2 (.int .u8 53) rfl)
   |false=>
    obtain rfl:k1=k2:=by simpa using hk2
    go_wp2_with fail
    go_meet
    case rel=>exact F8
  have F9:=hcut
  clear hcut F8 hk2
  obtain ⟨bl,hbl⟩: ∃ b,M.isLink k2=b:=⟨_,rfl⟩
  have HLN:=hid (fun V=>refLinked_any k2 V)
  rw [hbl] at HLN
  obtain ⟨ll,hll⟩: ∃ s,M.lastOf links h.link=s:=⟨_,rfl⟩
  obtain ⟨lk,hlk⟩: ∃ s,(if bl=true then M.textR (rcs rs) ⟨#[108,105,110,107,112,97,116,104]⟩ ll else ⟨#[]⟩)=s:=⟨_,rfl⟩
  have HBL:=hid hbl
  have HLL:=hid hll
  have HKL:=hid hlk
  have kk2:=F9.out.met.cell (i:=2) (v:= .int .u8 k2) rfl
  go_upto_if 99 with (go_at_call 37;(with_reducible refine (HLN.out _).mono ?_);rintro e w2 ⟨rfl,rfl⟩)
  clear kk2 HLN hbl
  go_cut [] from 100 to 106 (fun wx=>Hid (FD w V1 wx h (.slice Ah h.parts.length ch) g (mF h n7 us gr lk k2 0 0 0 0 (0,0) 0) (.slice none 0 0) (.slice none 0 0)))
  case first=>
   clear HKL HLL HBL
   cases bl with
   |true=>
    have HLS:=hid (fun (V:World) (hV:Below w.heap.size w V)=>refLast_any Al cl links h.link hnn.2 V (HLK.out V hV))
    rw [hll] at HLS
    have k7:=F9.out.hdr.cell (i:=7) (v:= .string h.link) rfl
    have FB:=hid F9.out.below
    go_wp2_with (go_at_call 35;(with_reducible refine (HLS.out _ FB.out).mono ?_);rintro e w2 ⟨rfl,rfl⟩)
    refine (refTextR_any A1 c1 rs ⟨#[108,105,110,107,112,97,116,104]⟩ ll hlr _ (RS.out _ F9.out.base)).mono ?_
    rintro e w10 ⟨rfl,hx⟩
    rw [show M.textR (rcs rs) ⟨#[108,105,110,107,112,97,116,104]⟩ ll=lk by simpa using hlk]
    have G:=hid (F9.out.later hx)
    have kc:=G.out.met.cell (i:=1) (v:= .string ⟨#[]⟩) rfl
    have fc:=G.out.met.frozen 1
    have G2:=hid (G.out.set 1 (.string lk) (m':=mF h n7 us gr lk k2 0 0 0 0 (0,0) 0) (pv':= .slice none 0 0) (ev':= .slice none 0 0) rfl)
    clear hx F9 HLS FB k7 hlk hll
    go_wp2_with fail
    go_meet
    case rel=>exact G2
   |false=>
    obtain rfl:(⟨#[]⟩:ByteArray)=lk:=by simpa using hlk
    clear hll
    go_wp2_with fail
    go_meet
    case rel=>exact F9
  have F10:=hcut
  clear hcut F9 hlk hll
  obtain ⟨bd,hbd⟩: ∃ b,M.isDev k2=b:=⟨_,rfl⟩
  have HDV:=hid (fun V=>refDevice_any k2 V)
  rw [hbd] at HDV
  obtain ⟨mj,hmj⟩: ∃ s:Int,(if bd=true then h.major else 0)=s:=⟨_,rfl⟩
  obtain ⟨mn,hmn⟩: ∃ s:Int,(if bd=true then h.minor else 0)=s:=⟨_,rfl⟩
  have HBD:=hid hbd
  have HMJ:=hid hmj
  have HMN:=hid hmn
  have kk2:=F10.out.met.cell (i:=2) (v:= .int .u8 k2) rfl
  go_upto_if 109 with (go_at_call 38;(with_reducible refine (HDV.out _).mono ?_);rintro e w2 ⟨rfl,rfl⟩)
  clear kk2 HDV hbd
  go_cut [] from 110 to 115 (fun wx=>Hid (FD w V1 wx h (.slice Ah h.parts.length ch) g (mF h n7 us gr lk k2 mj mn 0 0 (0,0) 0) (.slice none 0 0) (.slice none 0 0)))
  case first=>
   clear HMJ HMN HBD
   cases bd with
   |true=>
    obtain rfl:h.major=mj:=by simpa using hmj
    obtain rfl:h.minor=mn:=by simpa using hmn
    have k11:=F10.out.hdr.cell (i:=11) (v:= .int .i64 h.major) rfl
    have kc:=F10.out.met.cell (i:=10) (v:= .int .i64 0) rfl
    have fc:=F10.out.met.frozen 10
    have G:=hid (F10.out.set 10 (.int .i64 h.major) (m':=mF h n7 us gr lk k2 h.major 0 0 0 (0,0) 0) (pv':= .slice none 0 0) (ev':= .slice none 0 0) rfl)
    go_upto_region 16 with fail
    clear k11 kc fc F10
    generalize World.setCell wc _ _=w11 at*
    have k12:=G.out.hdr.cell (i:=12) (v:= .int .i64 h.minor) rfl
    have kc:=G.out.met.cell (i:=11) (v:= .int .i64 0) rfl
    have fc:=G.out.met.frozen 11
    have G2:=hid (G.out.set 11 (.int .i64 h.minor) (m':=mF h n7 us gr lk k2 h.major h.minor 0 0 (0,0) 0) (pv':= .slice none 0 0) (ev':= .slice none 0 0) rfl)
    go_wp2_with fail
    go_meet
    case rel=>exact G2
   |false=>
    obtain rfl:0=mj:=by simpa using hmj
    obtain rfl:0=mn:=by simpa using hmn
    go_wp2_with fail
    go_meet
    case rel=>exact F10
  have F11:=hcut
  clear hcut F10 hmj hmn
  obtain ⟨ux,hux⟩: ∃ n,M.numD (rcs rs) ⟨#[117,105,100]⟩ (max h.uid (-1)) 4611686018427387904=n:=⟨_,rfl⟩
  obtain ⟨gx,hgx⟩: ∃ n,M.numD (rcs rs) ⟨#[103,105,100]⟩ (max h.gid (-1)) 4611686018427387904=n:=⟨_,rfl⟩
  obtain ⟨sx,hsx⟩: ∃ n,M.numD (rcs rs) ⟨#[115,105,122,101]⟩ (max h.size (-1)) 1099511627776=n:=⟨_,rfl⟩
  have HZ:=hid (show ∀ r∈rs,r.2.size≤1048576 from fun r hr=>(HF6.out r hr).2)
  have kh:=F11.out.hdr.cell (i:=2) (v:= .int .i64 h.uid) rfl
  go_wp2_with fail
  refine (refNumR_any A1 c1 rs ⟨#[117,105,100]⟩ (max h.uid (-1)) 4611686018427387904 (by decide) hlr HZ.out B wc (Nat.le_trans HBB.out F11.out.below.size) (HT.out _ F11.out.below) (RS.out _ F11.out.base)).mono ?_
  rintro e w12 ⟨rfl,hx⟩
  rw [hux]
  have F12:=hid (F11.out.later hx)
  clear hx F11 kh
  have kh:=F12.out.hdr.cell (i:=3) (v:= .int .i64 h.gid) rfl
  go_wp2_with fail
  refine (refNumR_any A1 c1 rs ⟨#[103,105,100]⟩ (max h.gid (-1)) 4611686018427387904 (by decide) hlr HZ.out B w12 (Nat.le_trans HBB.out F12.out.below.size) (HT.out _ F12.out.below) (RS.out _ F12.out.base)).mono ?_
  rintro e w13 ⟨rfl,hx⟩
  rw [hgx]
  have F13:=hid (F12.out.later hx)
  clear hx F12 kh
  have kh:=F13.out.hdr.cell (i:=4) (v:= .int .i64 h.size) rfl
  go_wp2_with fail
  refine (refNumR_any A1 c1 rs ⟨#[115,105,122,101]⟩ (max h.size (-1)) 1099511627776 (by decide) hlr HZ.out B w13 (Nat.le_trans HBB.out F13.out.below.size) (HT.out _ F13.out.below) (RS.out _ F13.out.base)).mono ?_
  rintro e w14 ⟨rfl,hx⟩
  rw [hsx]
  have F14:=hid (F13.out.later hx)
  have HUX:=hid hux
  have HGX:=hid hgx
  have HSX:=hid hsx
  clear hx F13 kh hux hgx hsx
  have HFD:=hid (fun (V:World) (hV:Below V1.heap.size V1 V) (k:ByteArray)=>Px.refFind_any A1 c1 rs k hlr V (RS.out V hV))
  go_wp2_with fail
  refine (HFD.out w14 F14.out.base ⟨#[117,105,100]⟩).mono ?_
  rintro e w15 ⟨v1,a1,rfl,-,hb1,hx⟩
  have EA:=hid hb1
  have F15:=hid (F14.out.later hx)
  clear hx F14 hb1
  go_wp2_with fail
  refine (HFD.out w15 F15.out.base ⟨#[103,105,100]⟩).mono ?_
  rintro e w16 ⟨v2,a2,rfl,-,hb1,hx⟩
  have EB:=hid hb1
  have F16:=hid (F15.out.later hx)
  clear hx F15 hb1
  go_wp2_with fail
  refine (HFD.out w16 F16.out.base ⟨#[115,105,122,101]⟩).mono ?_
  rintro e w17 ⟨v3,a3,rfl,-,hb1,hx⟩
  have EC:=hid hb1
  have F17:=hid (F16.out.later hx)
  clear hx F16 hb1
  go_upto_region 23 with fail
  obtain ⟨v149,hv149⟩: ∃ g:Bool,g=(decide (ux<0)):=⟨_,rfl⟩
  have V149:=hid hv149
  clear hv149
  obtain ⟨v150,hv150⟩: ∃ g:Bool,g=(a1&&v149):=⟨_,rfl⟩
  have V150:=hid hv150
  clear hv150
  obtain ⟨v155,hv155⟩: ∃ g:Bool,g=(decide (gx<0)):=⟨_,rfl⟩
  have V155:=hid hv155
  clear hv155
  obtain ⟨v156,hv156⟩: ∃ g:Bool,g=(a2&&v155):=⟨_,rfl⟩
  have V156:=hid hv156
  clear hv156
  obtain ⟨v157,hv157⟩: ∃ g:Bool,g=(v150||v156):=⟨_,rfl⟩
  have V157:=hid hv157
  clear hv157
  obtain ⟨v162,hv162⟩: ∃ g:Bool,g=(decide (sx<0)):=⟨_,rfl⟩
  have V162:=hid hv162
  clear hv162
  obtain ⟨v163,hv163⟩: ∃ g:Bool,g=(a3&&v162):=⟨_,rfl⟩
  have V163:=hid hv163
  clear hv163
  obtain ⟨v164,hv164⟩: ∃ g:Bool,g=(v157||v163):=⟨_,rfl⟩
  have V164:=hid hv164
  clear hv164
  have HBAD:=hid (show v164=((a1&&decide (ux<0)||(a2&&decide (gx<0)))||(a3&&decide (sx<0))) from by rw [V164.out,V163.out,V162.out,V157.out,V156.out,V155.out,V150.out,V149.out])
  refine wp_region_lit ?_
  refine wyH ?_
  refine wyH ?_
  refine wiH a1 ?_
  refine wiH a1 ?_ (v:= .bool v149) (hy:=fun hg=>by obtain rfl:a1=true:=(by exact hg);(try simp only [cond_true]);rw [V149.out];(go_simp;first|done|with_reducible rfl))
  refine wyH ?_ (v:= .bool v150) (hy:=by rw [V150.out];cases a1<;>(go_simp;first|done|with_reducible rfl))
  refine wyH ?_
  refine wnH v150 ?_
  refine wnH v150 ?_
  refine wxH (!v150&&a2) (by cases v150<;>cases a2<;>kernel_rfl) ?_ (hy:=fun hg=>by obtain ⟨rfl,rfl⟩:v150=false∧a2=true:=(by revert hg;cases v150<;>cases a2<;>simp);(try simp only [cond_true]);go_simp;first|done|with_reducible rfl)
  refine wxH (!v150&&a2) (by cases v150<;>cases a2<;>kernel_rfl) ?_ (v:= .bool v155) (hy:=fun hg=>by obtain ⟨rfl,rfl⟩:v150=false∧a2=true:=(by revert hg;cases v150<;>cases a2<;>simp);(try simp only [cond_true]);rw [V155.out];(go_simp;first|done|with_reducible rfl))
  refine wnH v150 ?_ (v:= .bool v156) (hy:=fun hg=>by obtain rfl:v150=false:=(by simpa using hg);(try simp only [cond_true]);rw [V156.out];cases a2<;>(go_simp;first|done|with_reducible rfl))
  refine wyH ?_ (v:= .bool v157) (hy:=by rw [V157.out];cases v150<;>(go_simp;first|done|with_reducible rfl))
  refine wyH ?_
  refine wnH v157 ?_
  refine wnH v157 ?_
  refine wxH (!v157&&a3) (by cases v157<;>cases a3<;>kernel_rfl) ?_ (hy:=fun hg=>by obtain ⟨rfl,rfl⟩:v157=false∧a3=true:=(by revert hg;cases v157<;>cases a3<;>simp);(try simp only [cond_true]);go_simp;first|done|with_reducible rfl)
  refine wxH (!v157&&a3) (by cases v157<;>cases a3<;>kernel_rfl) ?_ (v:= .bool v162) (hy:=fun hg=>by obtain ⟨rfl,rfl⟩:v157=false∧a3=true:=(by revert hg;cases v157<;>cases a3<;>simp);(try simp only [cond_true]);rw [V162.out];(go_simp;first|done|with_reducible rfl))
  refine wnH v157 ?_ (v:= .bool v163) (hy:=fun hg=>by obtain rfl:v157=false:=(by simpa using hg);(try simp only [cond_true]);rw [V163.out];cases a3<;>(go_simp;first|done|with_reducible rfl))
  refine wyH ?_ (v:= .bool v164) (hy:=by rw [V164.out];cases v157<;>(go_simp;first|done|with_reducible rfl))
  refine wpList_nil ?_
  have NU:=hid (show M.numR (rcs rs) M.kUid 4611686018427387904 (M.told (M.clampH h) names links).uid=if (a1&&decide (ux<0))=true then none else some ux by
   rw [M.numR_numD,show (M.told (M.clampH h) names links).uid=max h.uid (-1) from clamp_max _,show M.numD (rcs rs) M.kUid (max h.uid (-1)) 4611686018427387904=ux from HUX.out,show (Px.M.find (rcs rs) (tl M.kUid)).isSome=a1 from EA.out.symm])
  have NG:=hid (show M.numR (rcs rs) M.kGid 4611686018427387904 (M.told (M.clampH h) names links).gid=if (a2&&decide (gx<0))=true then none else some gx by
   rw [M.numR_numD,show (M.told (M.clampH h) names links).gid=max h.gid (-1) from clamp_max _,show M.numD (rcs rs) M.kGid (max h.gid (-1)) 4611686018427387904=gx from HGX.out,show (Px.M.find (rcs rs) (tl M.kGid)).isSome=a2 from EB.out.symm])
  have NS:=hid (show M.numR (rcs rs) M.kSize 1099511627776 (M.told (M.clampH h) names links).size=if (a3&&decide (sx<0))=true then none else some sx by
   rw [M.numR_numD,show (M.told (M.clampH h) names links).size=max h.size (-1) from clamp_max _,show M.numD (rcs rs) M.kSize (max h.size (-1)) 1099511627776=sx from HSX.out,show (Px.M.find (rcs rs) (tl M.kSize)).isSome=a3 from EC.out.symm])
  clear EA EB EC HUX HGX HSX
  cases v164 with
  |true=>
   have HE:=hid (show M.fromE h (rcs l) names links more=34 from bad34 HM.out HBK.out (.inl (by
    have hb:=HBAD.out
    unfold M.taken
    rw [NU.out,NG.out,NS.out]
    generalize (a1&&decide (ux<0))=y1 at*
    generalize (a2&&decide (gx<0))=y2 at*
    generalize (a3&&decide (sx<0))=y3 at*
    revert hb
    cases y1<;>cases y2<;>cases y3<;>intro hb<;>first|rfl|cases hb)))
   go_wp2_with (refine wpList_store_row rfl 45 (.tmp 10) (.tmp 165) rfl (w.heap.size+1) (mcells {} (.slice none 0 0) (.slice none 0 0)) (by rfl) (by rfl) 45 _ F17.out.res met_size rfl (mcells_one _ rfl rfl) ?_)
   refine bodyPost_ret (results_from10 (F17.out.fin {} (.slice none 0 0) (.slice none 0 0)).1 rfl rfl) rfl ?_
   exact from10_none (n:=34) HE.out (by decide) (F17.out.fin {} (.slice none 0 0) (.slice none 0 0)).2
  |false=>
  have NX:=hid (show M.numR (rcs rs) M.kUid 4611686018427387904 (M.told (M.clampH h) names links).uid=some ux∧M.numR (rcs rs) M.kGid 4611686018427387904 (M.told (M.clampH h) names links).gid=some gx∧M.numR (rcs rs) M.kSize 1099511627776 (M.told (M.clampH h) names links).size=some sx by
   have hb:=HBAD.out
   rw [NU.out,NG.out,NS.out]
   generalize (a1&&decide (ux<0))=y1 at*
   generalize (a2&&decide (gx<0))=y2 at*
   generalize (a3&&decide (sx<0))=y3 at*
   revert hb
   cases y1<;>cases y2<;>cases y3<;>intro hb<;>first|exact ⟨rfl,rfl,rfl⟩|cases hb)
  clear NU NG NS HBAD
  have kc:=F17.out.met.cell (i:=4) (v:= .int .i64 0) rfl
  have fc:=F17.out.met.frozen 4
  have F18:=hid (F17.out.set 4 (.int .i64 ux) (m':=mF h n7 us gr lk k2 mj mn ux 0 (0,0) 0) (pv':= .slice none 0 0) (ev':= .slice none 0 0) rfl)
  go_upto_region 26 with fail
  clear kc fc F17
  generalize World.setCell w17 _ _=w18 at*
  have kc:=F18.out.met.cell (i:=5) (v:= .int .i64 0) rfl
  have fc:=F18.out.met.frozen 5
  have F19:=hid (F18.out.set 5 (.int .i64 gx) (m':=mF h n7 us gr lk k2 mj mn ux gx (0,0) 0) (pv':= .slice none 0 0) (ev':= .slice none 0 0) rfl)
  go_upto_region 27 with fail
  clear kc fc F18
  generalize World.setCell w18 _ _=w19 at*
  have k5:=F19.out.hdr.cell (i:=5) (v:= .int .i64 h.mtime) rfl
  go_upto_region 28 with fail
  have F20:=hid (F19.out.later ((Below.refl w19.heap.size w19).alloc (Nat.le_refl _) (.cells #[.int .i64 h.mtime, .int .i64 0] 43)))
  have T20:=hid (St.BoxT.new w19 (h.mtime,0))
  have hgt0:g<w19.heap.size:=F19.out.hi
  clear k5 F19
  dsimp only at T20
  generalize World.alloc w19 _=w20 at*
  obtain ⟨gt,hgt⟩: ∃ x,w19.heap.size=x:=⟨_,rfl⟩
  rw [hgt] at T20 hgt0⊢
  clear hgt
  go_wp2_with fail
  refine (HFD.out w20 F20.out.base ⟨#[109,116,105,109,101]⟩).mono ?_
  rintro e w21 ⟨v4,a4,rfl,hv4,hb4,hx⟩
  have F21:=hid (F20.out.later hx)
  have T21:=hid (T20.out.below hx T20.out.lt)
  have HV4:=hid hv4
  have HB4t:=hid hb4
  clear hx F20 T20 hv4 hb4
  go_upto_if 178 with fail
  go_cut [27,28] from 179 to 187 (fun p q wx=> ∃ t',Hid (FD w V1 wx h (.slice Ah h.parts.length ch) g (mF h n7 us gr lk k2 mj mn ux gx (0,0) 0) (.slice none 0 0) (.slice none 0 0))∧Hid (St.BoxT wx gt t')∧Hid (M.timeR (rcs rs) M.kTime (St.M.norm (h.mtime,0))=some (St.M.norm t')))
  case first=>
   obtain ⟨o4,ho4⟩: ∃ o,Px.M.find (rcs rs) (tl M.kTime)=o:=⟨_,rfl⟩
   have hv4:tl v4=o4.getD []:=by rw [←ho4];exact HV4.out
   have hb4:a4=o4.isSome:=by rw [←ho4];exact HB4t.out
   clear HV4 HB4t
   cases o4 with
   |none=>
    obtain rfl:a4=false:=hb4
    have HTR:=hid (show M.timeR (rcs rs) M.kTime (St.M.norm (h.mtime,0))=some (St.M.norm (h.mtime,0)) by unfold M.timeR;rw [ho4])
    clear hv4 ho4
    go_wp2_with fail
    go_meet
    case rel=>exact ⟨(h.mtime,0),F21,T21,HTR⟩
   |some v=>
    obtain rfl:a4=true:=hb4
    have hvs:v4.size≤1048576:=by
     have h1:=find_len (rcs_len HF6.out) ho4
     have h2:(tl v4).length=v.length:=by rw [hv4];rfl
     have h3:(tl v4).length=v4.size:=rfl
     omega
    obtain ⟨o5,ho5⟩: ∃ o,St.M.parse (St.tl v4)=o:=⟨_,rfl⟩
    have HTQ:=hid (show M.timeR (rcs rs) M.kTime (St.M.norm (h.mtime,0))=o5.map St.M.norm by unfold M.timeR;rw [ho4,←ho5,show St.tl v4=v from hv4])
    clear hv4 ho4
    go_wp2_with fail
    refine (St.refParse_any v4 hvs w21).mono ?_
    rintro e w22 ⟨rfl,hx⟩
    rw [ho5]
    have F22:=hid (F21.out.later hx)
    have T22:=hid (T21.out.below hx T21.out.lt)
    clear hx F21 T21 ho5 hvs
    cases o5 with
    |none=>
     dsimp only [St.parseV,St.tv]
     have HE:=hid (show M.fromE h (rcs l) names links more=34 from bad34 HM.out HBK.out (.inl (by
      unfold M.taken
      rw [NX.out.1,NX.out.2.1,NX.out.2.2,show M.timeR (rcs rs) M.kTime ((M.told (M.clampH h) names links).sec,(M.told (M.clampH h) names links).nan)=none from HTQ.out])))
     go_upto_region 32 with fail
     have F23:=hid (F22.out.later ((Below.refl w22.heap.size w22).alloc (Nat.le_refl _) (.cells #[.int .i64 0, .int .i64 0] 43)))
     clear F22 T22 HTQ
     generalize World.alloc w22 _=w23 at*
     go_wp2_with (refine wpList_store_row rfl 45 (.tmp 10) (.tmp 186) rfl (w.heap.size+1) (mcells {} (.slice none 0 0) (.slice none 0 0)) (by rfl) (by rfl) 45 _ F23.out.res met_size rfl (mcells_one _ rfl rfl) ?_)
     refine bodyPost_ret (results_from10 (F23.out.fin {} (.slice none 0 0) (.slice none 0 0)).1 rfl rfl) rfl ?_
     exact from10_none (n:=34) HE.out (by decide) (F23.out.fin {} (.slice none 0 0) (.slice none 0 0)).2
    |some u=>
     dsimp only [St.parseV,St.tv]
     have F23:=hid (F22.out.later ((Below.refl w22.heap.size w22).alloc (Nat.le_refl _) (.cells #[.int .i64 u.1, .int .i64 u.2] 43)))
     have T23:=hid (T22.out.alloc (.cells #[.int .i64 u.1, .int .i64 u.2] 43))
     have t0:=T23.out.cell0
     have t1:=T23.out.cell1
     have tf0:=T23.out.frozen 0
     have tf1:=T23.out.frozen 1
     have F24:=hid ((F23.out.else_ (b:=gt) (Nat.le_trans F23.out.mid (Nat.le_of_lt hgt0)) (by omega) 0 (.int .i64 u.1)).else_ (b:=gt) (Nat.le_trans F23.out.mid (Nat.le_of_lt hgt0)) (by omega) 1 (.int .i64 u.2))
     have T24:=hid (T23.out.set u)
     clear F22 T22 F23 T23
     go_wp2_with fail
     go_meet
     case rel=>exact ⟨u,F24,T24,HTQ⟩
  obtain ⟨t',F25,T25,HTR⟩:=hcut
  clear F21 T21 HV4 HB4t
  obtain ⟨tn,htn⟩: ∃ t,St.M.norm t'=t:=⟨_,rfl⟩
  have HTN:=hid htn
  rw [htn] at HTR
  have HTK:=hid (taken_is NX.out.1 NX.out.2.1 NX.out.2.2 HTR.out)
  have hok:M.kindOf (takenM h names links (rcs rs) ux gx sx tn)=k2:=by
   have n1:M.textR (rcs rs) M.kPath (M.lastOf names (M.nameOf h))=n7:=by rw [HNM1.out,HNL.out];exact HN7.out
   have e1:(if h.kind=55∨h.kind=83 then (48:Int) else h.kind)=k1:=by
    rw [←HK1.out,←HBX.out]
    by_cases hx:h.kind=55∨h.kind=83
    ·rw [if_pos hx,if_pos (by rcases hx with hx|hx<;>simp [hx])]
    ·rw [if_neg hx,if_neg (by simpa using hx)]
   show (if (if h.kind=55∨h.kind=83 then (48:Int) else h.kind)=48∧M.slash (tl (M.textR (rcs rs) M.kPath (M.lastOf names (M.nameOf h))))=true then (53:Int) else if h.kind=55∨h.kind=83 then 48 else h.kind)=k2
   rw [e1,n1,←HK2.out,←HB11.out,←HB4.out,←HBS.out]
   by_cases hx:k1=48<;>by_cases hy:M.slash (tl n7)=true<;>simp [hx,hy]
  have hst:M.strip (takenM h names links (rcs rs) ux gx sx tn)= { mF h n7 us gr lk k2 mj mn ux gx tn (if k2=48 then sx else 0) with real:=if k2=48 then sx else 0 } :=by
   have n1:M.textR (rcs rs) M.kPath (M.lastOf names (M.nameOf h))=n7:=by rw [HNM1.out,HNL.out];exact HN7.out
   have l1:(if M.isLink k2=true then M.textR (rcs rs) M.kLink (M.lastOf links h.link) else ⟨#[]⟩)=lk:=by rw [HBL.out,HLL.out];exact HKL.out
   have l2:(if M.isDev k2=true then h.major else 0)=mj:=by rw [HBD.out];exact HMJ.out
   have l3:(if M.isDev k2=true then h.minor else 0)=mn:=by rw [HBD.out];exact HMN.out
   have u1:M.textR (rcs rs) M.kUser h.user=us:=HUS.out
   have g1:M.textR (rcs rs) M.kGroup h.group=gr:=HGR.out
   unfold M.strip
   rw [hok]
   show ({ name:=M.textR (rcs rs) M.kPath (M.lastOf names (M.nameOf h)),link:=(if M.isLink k2=true then M.textR (rcs rs) M.kLink (M.lastOf links h.link) else ⟨#[]⟩),kind:=k2,mode:=h.mode,uid:=ux,gid:=gx,user:=M.textR (rcs rs) M.kUser h.user,group:=M.textR (rcs rs) M.kGroup h.group,sec:=tn.1,nan:=tn.2,major:=(if M.isDev k2=true then h.major else 0),minor:=(if M.isDev k2=true then h.minor else 0),size:=if k2=48 then sx else 0,real:=if k2=48 then sx else 0 } :M.Met)=_
   rw [n1,l1,l2,l3,u1,g1]
   rfl
  have HST:=hid hst
  have HFT:=hid (show Fit1 (M.strip (takenM h names links (rcs rs) ux gx sx tn)) from fit_strip (fit_taken (rcs_len HF6.out)
   (fit_told hkd hpn HI.out.texts.1 HI.out.texts.2.1 HI.out.texts.2.2 HI.out.tnames.1 HI.out.tnames.2 HI.out.ints.1 HI.out.ints.2.1 HI.out.ints.2.2.1 HI.out.ints.2.2.2.1 HI.out.ints.2.2.2.2.1 HI.out.ints.2.2.2.2.2.1)
   (numR_i64 (by decide) (isI64_clamp HI.out.ints.2.1) NX.out.1) (numR_i64 (by decide) (isI64_clamp HI.out.ints.2.2.1) NX.out.2.1) (numR_i64 (by decide) (isI64_clamp HI.out.ints.2.2.2.2.2.1) NX.out.2.2)
   (by rw [←htn];exact norm_range t')))
  clear hok hst NX HTR HNM1 HNL HN7 HUS HGR HK1 HBX HB4 HBS HB11 HK2 HBL HLL HKL HBD HMJ HMN
  clear htn
  have t0:=T25.out.cell0
  have t1:=T25.out.cell1
  go_wp2_with fail
  refine (St.refNorm_any t'.1 t'.2 wc).mono ?_
  rintro e w26 ⟨rfl,hx⟩
  rw [show St.M.norm (t'.1,t'.2)=tn from HTN.out]
  have F26:=hid (F25.out.later hx)
  clear hx F25 T25 t0 t1 HTN
  dsimp only [St.tv]
  have kc8:=F26.out.met.cell (i:=8) (v:= .int .i64 0) rfl
  have kc9:=F26.out.met.cell (i:=9) (v:= .int .i64 0) rfl
  have fc8:=F26.out.met.frozen 8
  have fc9:=F26.out.met.frozen 9
  have F27:=hid ((F26.out.set 8 (.int .i64 tn.1) (m':=mF h n7 us gr lk k2 mj mn ux gx (tn.1,0) 0) (pv':= .slice none 0 0) (ev':= .slice none 0 0) rfl).set 9 (.int .i64 tn.2) (m':=mF h n7 us gr lk k2 mj mn ux gx tn 0) (pv':= .slice none 0 0) (ev':= .slice none 0 0) rfl)
  go_upto_region 35 with fail
  clear kc8 kc9 fc8 fc9 F26
  generalize World.setCell (World.setCell w26 _ _) _ _=w27 at*
  obtain ⟨bz,hbz⟩: ∃ b,(k2==48)=b:=⟨_,rfl⟩
  have kc2:=F27.out.met.cell (i:=2) (v:= .int .u8 k2) rfl
  go_upto_if 193 with fail
  clear kc2
  go_cut [29,30] from 194 to 207 (fun p q wx=> ∃ md pv,Hid (FD w V1 wx h (.slice Ah h.parts.length ch) g md pv (.slice none 0 0))∧Hid (M.dig (M.strip (takenM h names links (rcs rs) ux gx sx tn)) (M.clampH h) (rcs rs) more=some md)∧Hid (Sp.OwnP wx (g+1) pv md.parts))
  case first=>
   cases bz with
   |false=>
    have hk48: ¬ k2=48:=by simpa using hbz
    have HS0:=hid (show M.strip (takenM h names links (rcs rs) ux gx sx tn)=mF h n7 us gr lk k2 mj mn ux gx tn 0 by rw [HST.out,if_neg hk48];rfl)
    go_wp2_with fail
    go_meet
    case rel=>exact ⟨_,_,F27,hid (by rw [HS0.out];unfold M.dig;exact if_neg hk48),hid (Sp.OwnP.nil _ _)⟩
   |true=>
    obtain rfl:k2=48:=by simpa using hbz
    have HS0:=hid (show M.strip (takenM h names links (rcs rs) ux gx sx tn)= { mF h n7 us gr lk 48 mj mn ux gx tn sx with real:=(mF h n7 us gr lk 48 mj mn ux gx tn sx).size } by rw [HST.out,if_pos rfl];rfl)
    have kc12:=F27.out.met.cell (i:=12) (v:= .int .i64 0) rfl
    have fc12:=F27.out.met.frozen 12
    have F28:=hid (F27.out.set 12 (.int .i64 sx) (m':=mF h n7 us gr lk 48 mj mn ux gx tn sx) (pv':= .slice none 0 0) (ev':= .slice none 0 0) rfl)
    go_upto_region 37 with fail
    clear kc12 fc12 F27
    generalize World.setCell w27 _ _=w28 at*
    obtain ⟨mz,hmz⟩: ∃ m,mF h n7 us gr lk 48 mj mn ux gx tn sx=m:=⟨_,rfl⟩
    have hz1:mz.kind=48:=by rw [←hmz];rfl
    have hz2:mz.parts= []:=by rw [←hmz];rfl
    rw [hmz] at F28 HS0
    clear hmz
    go_wp2_with (first
     |(refine wpList_load_row rfl 45 (.tmp 14) rfl g (by rfl) 45 (mcells mz (.slice none 0 0) (.slice none 0 0)) (0,0) _ F28.out.met Tryz.underlying45 rfl met_size ?_)
     |(refine wpList_load_row rfl 24 (.tmp 5) rfl w.heap.size (by rfl) 24 (hcells h (.slice Ah h.parts.length ch)) (0,0) _ F28.out.hdr Tryz.underlying24 rfl hdr_size ?_))
    refine (refHoles_any mz h rs more A1 Ah Am c1 ch cm w28 B (Nat.le_trans HBB.out F28.out.below.size) (HT.out _ F28.out.below) hz1 hz2 (RS.out _ F28.out.base) hlr HF5.out (HRP.out _ F28.out.below) (HMO.out _ F28.out.below) hn4).mono ?_
    rintro e w29 ⟨m9,P9,n9,c9,rfl,hx,hd⟩
    obtain ⟨od,hod⟩: ∃ o,M.dig (M.strip (takenM h names links (rcs rs) ux gx sx tn)) (M.clampH h) (rcs rs) more=o:=⟨_,rfl⟩
    have hod2:M.dig { mz with real:=mz.size } h (rcs rs) more=od:=by rw [←hod,HS0.out];rfl
    rw [hod2] at hd⊢
    have HOD:=hid hod
    have HD9:=hid hd
    have F29:=hid (F28.out.later hx)
    have hs28:g+1≤w28.heap.size:=F28.out.hi
    clear hx hd hod hod2 F28
    go_upto_region 38 with (refine wpList_store_row rfl 45 (.tmp 29) (.tmp 202) rfl w29.heap.size (mcells m9 (.slice P9 n9 c9) (.slice none 0 0)) (by rfl) (by rfl) 45 (mcells {} (.slice none 0 0) (.slice none 0 0)) (heap_alloc_new w29 _) met_size rfl (mcells_one _ rfl rfl) ?_;rw [World.setRow_alloc_new])
    have X30:=hid (MB.new w29 m9 (.slice P9 n9 c9) (.slice none 0 0))
    have F30:=hid (F29.out.later ((Below.refl w29.heap.size w29).alloc (Nat.le_refl _) (.cells (mcells m9 (.slice P9 n9 c9) (.slice none 0 0)) 45)))
    have HD30:=hid (show ∀ d,od=some d→m9=d∧Sp.OwnP (w29.alloc (.cells (mcells m9 (.slice P9 n9 c9) (.slice none 0 0)) 45)) w28.heap.size (.slice P9 n9 c9) d.parts from fun d hd=>⟨(HD9.out d hd).1,(HD9.out d hd).2.alloc _⟩)
    clear F29 HD9
    generalize World.alloc w29 _=w30 at*
    cases od with
    |none=>
     have HE:=hid (bad34s HM.out HBK.out HTK.out rfl HOD.out)
     go_wp2_with (refine wpList_store_row rfl 45 (.tmp 10) (.tmp 206) rfl (w.heap.size+1) (mcells {} (.slice none 0 0) (.slice none 0 0)) (by rfl) (by rfl) 45 _ F30.out.res met_size rfl (mcells_one _ rfl rfl) ?_)
     refine bodyPost_ret (results_from10 (F30.out.fin {} (.slice none 0 0) (.slice none 0 0)).1 rfl rfl) rfl ?_
     exact from10_none (n:=34) HE.out (by decide) (F30.out.fin {} (.slice none 0 0) (.slice none 0 0)).2
    |some d=>
     obtain ⟨rfl,hop⟩:=HD30.out d rfl
     have OP:=hid ((ownP_setRow hop hs28 (mcells m9 (.slice P9 n9 c9) (.slice none 0 0))).lower hs28)
     have F31:=hid (F30.out.row m9 (.slice P9 n9 c9) (.slice none 0 0))
     clear hop HD30
     go_wp2_with (first
      |(refine wpList_load_row rfl 45 (.tmp 29) rfl w29.heap.size (by rfl) 45 (mcells m9 (.slice P9 n9 c9) (.slice none 0 0)) (0,0) _ X30.out Tryz.underlying45 rfl met_size ?_)
      |(refine wpList_store_row rfl 45 (.tmp 14) (.tmp 207) rfl g (mcells m9 (.slice P9 n9 c9) (.slice none 0 0)) (by rfl) (by rfl) 45 _ F30.out.met met_size rfl (mcells_one _ rfl rfl) ?_))
     go_meet
     case rel=>exact ⟨m9,_,F31,HOD,OP⟩
  obtain ⟨md,pv,F40,HDG,OP⟩:=hcut
  clear F27 hbz
  have HFI:=hid (fit_dig HFT.out rfl HI.out.i64s.1 HI.out.i64s.2 (by have:=hn4;show h.parts.length+more.length≤1048576;omega) HI.out.ints.2.2.2.2.2.2 HDG.out)
  have HGD:=hid (good_is (more:=more) HM.out HBK.out HTK.out rfl HDG.out)
  clear HTK HST HFT HDG
  obtain ⟨P,pc,rfl,hrp,_⟩:=OP.out.rd
  go_wp2_with fail
  refine (refOthers_any A1 c1 rs hlr wc (RS.out _ F40.out.base)).mono ?_
  rintro e w41 ⟨v,rfl,ho,hx⟩
  have hgw:g<wc.heap.size:=F40.out.hi
  have F41:=hid (F40.out.later hx)
  have OP1:=hid (OP.out.later hx)
  obtain ⟨E,ec,rfl,_,_⟩:=ho.rd
  have HO1:=hid (show OwnR w41 wc.heap.size (.slice E (rs.filter other).length ec) (rs.filter other) from ho)
  clear hx F40 OP ho hrp
  rw [show (othersOf rs).length=(rs.filter other).length from rfl]
  obtain ⟨m3,hm3⟩: ∃ m:M.Met, { md with extra:=rs.filter other } =m:=⟨_,rfl⟩
  obtain ⟨ne,hne⟩: ∃ n,(rs.filter other).length=n:=⟨_,rfl⟩
  obtain ⟨np,hnp⟩: ∃ n,md.parts.length=n:=⟨_,rfl⟩
  rw [hne] at HO1⊢
  rw [hnp] at F41 OP1
  have kc:=F41.out.met.cell (i:=16) (v:= .slice none 0 0) rfl
  have fc:=F41.out.met.frozen 16
  have F42:=hid (F41.out.set 16 (.slice E ne ec) (m':=m3) (pv':= .slice P np pc) (ev':= .slice E ne ec) (by rw [←hm3];rfl))
  have OP2:=hid (OP1.out.set (p:=⟨g,16,none⟩) (Nat.lt_succ_self g) (.slice E ne ec))
  have HO2:=hid (show OwnR (w41.setCell ⟨g,16,none⟩ (.slice E ne ec)) wc.heap.size (.slice E ne ec) (rs.filter other) from ownsRow_setCell_below HO1.out (a:=⟨g,16,none⟩) hgw (.slice E ne ec))
  go_upto_region 42 with fail
  clear kc fc F41 OP1 HO1
  generalize World.setCell w41 _ _=w42 at*
  have HMI:=hid (show MIn w42 m3 (.slice P np pc) (.slice E ne ec) by
   have h1:=min_known (A:=E) (c:=ec) ⟨HFI.out.1,HFI.out.2.1,HFI.out.2.2.1⟩ OP2.out (b2:=wc.heap.size) (rs:=rs) (by rw [hne];exact HO2.out) hlr5 HF6.out
   rw [hne,hm3] at h1
   exact h1)
  have HNE:=hid hne
  have HNP:=hid hnp
  have HM3:=hid hm3
  clear hne hnp hm3 HFI
  go_wp2_with (refine wpList_load_row rfl 45 (.tmp 14) rfl g (by rfl) 45 (mcells m3 (.slice P np pc) (.slice E ne ec)) (0,0) _ F42.out.met Tryz.underlying45 rfl met_size ?_)
  refine (to10_any m3 (.slice P np pc) (.slice E ne ec) B w42 HMI.out (Nat.le_trans HBB.out F42.out.below.size) (HT.out _ F42.out.below)).mono ?_
  rintro e w43 ⟨A9,c9,rfl,-,hx⟩
  have F43:=hid (F42.out.later hx)
  have OP3:=hid (OP2.out.later hx)
  have HO3:=hid (HO2.out.below hx)
  clear hx F42 HMI OP2 HO2
  obtain ⟨n,hn⟩: ∃ n,M.toE m3=n:=⟨_,rfl⟩
  rw [hn]
  have HN:=hid hn
  obtain ⟨hh,hhh⟩: ∃ x,M.toH m3=x:=⟨_,rfl⟩
  rw [hhh]
  clear hhh hn
  obtain ⟨nr,hnr⟩: ∃ x,(M.toR m3).length=x:=⟨_,rfl⟩
  rw [hnr]
  clear hnr
  go_upto_region 43 with (refine wpList_store_row rfl 24 (.tmp 31) (.tmp 214) rfl w43.heap.size (hcells hh (.slice none 0 0)) (by rfl) (by rfl) 24 (hcells {} (.slice none 0 0)) (heap_alloc_new w43 _) hdr_size rfl (hcells_one _ rfl) ?_;rw [World.setRow_alloc_new])
  have F44:=hid (F43.out.later ((Below.refl w43.heap.size w43).alloc (Nat.le_refl _) (.cells (hcells hh (.slice none 0 0)) 24)))
  have OP4:=hid (OP3.out.alloc (.cells (hcells hh (.slice none 0 0)) 24))
  have HO4:=hid (Px.OwnR.alloc HO3.out (.cells (hcells hh (.slice none 0 0)) 24))
  clear F43 OP3 HO3
  generalize World.alloc w43 _=w44 at*
  have HG1:=hid (show M.fromE h (rcs l) names links more=n by rw [HGD.out.1,HM3.out];exact HN.out)
  by_cases h0:n=0
  ·have HG2:=hid (show M.fromM h (rcs l) names links more=m3 by rw [HGD.out.2,HM3.out,HN.out,if_pos h0])
   subst h0
   go_wp2_with (first
    |(refine wpList_load_row rfl 45 (.tmp 14) rfl g (by rfl) 45 (mcells m3 (.slice P np pc) (.slice E ne ec)) (0,0) _ F44.out.met Tryz.underlying45 rfl met_size ?_)
    |(refine wpList_store_row rfl 45 (.tmp 10) (.tmp 221) rfl (w.heap.size+1) (mcells m3 (.slice P np pc) (.slice E ne ec)) (by rfl) (by rfl) 45 _ F44.out.res met_size rfl (mcells_one _ rfl rfl) ?_))
   refine bodyPost_ret (results_from10 (F44.out.fin m3 (.slice P np pc) (.slice E ne ec)).1 rfl rfl) rfl ?_
   have hwg:w.heap.size+2≤g:=Nat.le_trans F44.out.lo F44.out.mid
   have hwc:w.heap.size+1<wc.heap.size:=by omega
   obtain ⟨P',p',e1,hrp,_⟩:=(ownP_setRow OP4.out (g:=w.heap.size+1) (by omega) (mcells m3 (.slice P np pc) (.slice E ne ec))).rd
   obtain ⟨E',e',e2,hre,_⟩:=(ownR_row HO4.out (g:=w.heap.size+1) hwc (mcells m3 (.slice P np pc) (.slice E ne ec))).rd
   injection e1 with e3 e4 e5
   injection e2 with e6 e7 e8
   subst e3 e5 e6 e8
   have p1:m3.parts=md.parts:=by rw [←HM3.out]
   have p2:m3.extra=rs.filter other:=by rw [←HM3.out]
   refine ⟨P,pc,E,ec, ?_, ?_, ?_,(F44.out.fin m3 (.slice P np pc) (.slice E ne ec)).2⟩
   ·rw [HG1.out,HG2.out,p1,p2,←e4,←e7];rfl
   ·rw [HG2.out,p1];exact hrp
   ·rw [HG2.out,p2];exact hre
  ·have hnz:((n:Nat):Int)≠0:=by omega
   go_wp2_with (refine wpList_store_row rfl 45 (.tmp 10) (.tmp 219) rfl (w.heap.size+1) (mcells {} (.slice none 0 0) (.slice none 0 0)) (by rfl) (by rfl) 45 _ F44.out.res met_size rfl (mcells_one _ rfl rfl) ?_)
   refine bodyPost_ret (results_from10 (F44.out.fin {} (.slice none 0 0) (.slice none 0 0)).1 rfl rfl) rfl ?_
   exact from10_none (n:=n) HG1.out h0 (F44.out.fin {} (.slice none 0 0) (.slice none 0 0)).2
end Go.Proofs.YtjpmpjbembhldaaGreatDoor
