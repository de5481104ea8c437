/-
  Texts of one chapter, merged.
-/
import Derived.Test.YtgbgngdakkiclaaGreatDoorMtGive
import Derived.Test.YtgbgngdakkiclaaGreatDoorKT
import Derived.Test.YtgbgngdakkiclaaGreatDoorMtTextZ
import Derived.Test.YtgbgngdakkiclaaGreatDoorKS
import Derived.Deep.CutRange
set_option linter.unusedVariables false
set_option linter.unusedSimpArgs false
namespace Go.Proofs.YtgbgngdakkiclaaGreatDoor
open Go.RowKit Go.Lib
open Px (R2 tl)
def TakePost (w:World) (g i:Nat) (v:Value) (ok:Bool) (e:Ending) (w':World):Prop:=
 e= .returned (.bool ok)∧w'.heap[g]?=(w.setCell ⟨g,i,none⟩ v).heap[g]?∧Fg g w w'
theorem Fg.kept0 {g i:Nat} {w w1:World} (hg:g<w.heap.size) (h1:Below w.heap.size w w1) (v:Value) {cs:Array Value} {t:TypeId} (hc:w.heap[g]?=some (.cells cs t (0,0))):
  (w1.setCell ⟨g,i,none⟩ v).heap[g]?=(w.setCell ⟨g,i,none⟩ v).heap[g]?∧Fg g w (w1.setCell ⟨g,i,none⟩ v):=
 Fg.kept hg h1 v i hc (Below.refl _ _)
set_option maxRecDepth 100000 in
set_option maxHeartbeats 2000000 in
theorem takeText_any (b g i:Nat) (s u:ByteArray) (w:World) (hb:BoxP w b g i) (hbg:b≠g) (hc:w.cell? ⟨g,i,none⟩=some (.string u)) (hf:w.frozen? ⟨g,i,none⟩=false):
  Calls Tryz.prog 123 #[.string s, .pointer (some ⟨b,0,none⟩)] w (TakePost w g i (.string s) true):=by
 have hbc:w.cell? ⟨b,0,none⟩=some (.pointer (some ⟨g,i,none⟩)):=hb
 clear hb
 go_enter Tryz.func123,Tryz.ntmps123
 go_wp2
 go_ret
 exact ⟨rfl,rfl,Fg.set w g i _⟩
theorem numV_parts (o:Option Int):Sp.numV o= .tuple #[.int .i64 (o.getD 0), .bool o.isSome]:=by cases o<;>rfl
set_option maxRecDepth 100000 in
set_option maxHeartbeats 2000000 in
theorem takeNumber_any (b k g i:Nat) (s:ByteArray) (u most:Int) (cs:Array Value) (t:TypeId) (B:Nat) (w:World) (hb:BoxP w b g i) (hk:w.cell? ⟨k,0,none⟩=some (.int .i64 most)) (hbg:b≠g) (hh:w.heap[g]?=some (.cells cs t (0,0))) (hc:w.cell? ⟨g,i,none⟩=some (.int .i64 u))
  (hs:s.size≤1048576) (hB:B≤w.heap.size) (ht:Sp.EV B w):
  Calls Tryz.prog 127 #[.string s, .pointer (some ⟨k,0,none⟩), .pointer (some ⟨b,0,none⟩)] w (TakePost w g i (.int .i64 ((M.dec (tl s) most).getD 0)) (M.dec (tl s) most).isSome):=by
 have hbc:w.cell? ⟨b,0,none⟩=some (.pointer (some ⟨g,i,none⟩)):=hb
 have hbl:b<w.heap.size:=World.block_lt_of_cell? _ _ hbc
 have hgl:g<w.heap.size:=World.block_lt_of_cell? _ _ hc
 have HD:=hid (decimal_any s hs most B w hB ht)
 have HH:=hid hh
 rw [numV_parts] at HD
 generalize (M.dec (tl s) most).getD 0=n at*
 generalize (M.dec (tl s) most).isSome=ok at*
 clear hb ht hh hs
 go_enter Tryz.func127,Tryz.ntmps127
 go_wp2_with fail
 refine HD.out.mono ?_
 rintro e w1 ⟨rfl,hb1⟩
 have HB1:=hid hb1
 have c1:w1.cell? ⟨b,0,none⟩=some (.pointer (some ⟨g,i,none⟩)):=(hb1.cell (p:=⟨b,0,none⟩) hbl).trans hbc
 have c2:w1.cell? ⟨g,i,none⟩=some (.int .i64 u):=(hb1.cell (p:=⟨g,i,none⟩) hgl).trans hc
 have f1:w1.frozen? ⟨g,i,none⟩=false:=frozen_of_row w1 g i _ _ ((hb1.block g hgl).trans HH.out)
 clear hb1 hbc hc
 go_wp2
 go_ret
 have K:=Fg.kept0 (i:=i) hgl HB1.out (.int .i64 n) HH.out
 exact ⟨rfl,K.1,K.2⟩
theorem below_of_drew {W w3:World} (h:Below W.drew.heap.size W.drew w3):Below W.heap.size W w3:=⟨h.os,h.tape,h.output,h.size,h.block⟩
theorem Fg.kept2 {g i:Nat} {w w1:World} (hg:g<w.heap.size) (h1:Below w.heap.size w w1) (v v':Value) {cs:Array Value} {t:TypeId} (hc:w.heap[g]?=some (.cells cs t (0,0))):
  ((w1.setCell ⟨g,i,none⟩ v).setCell ⟨g,i+1,none⟩ v').heap[g]?=((w.setCell ⟨g,i,none⟩ v).setCell ⟨g,i+1,none⟩ v').heap[g]?∧Fg g w ((w1.setCell ⟨g,i,none⟩ v).setCell ⟨g,i+1,none⟩ v'):=by
 have e1:w1.heap[g]?=some (.cells cs t (0,0)):=(h1.block g hg).trans hc
 refine ⟨?_,((Fg.of_below h1).trans (Fg.set w1 g i v)).trans (Fg.set _ g (i+1) v')⟩
 rw [heap_setCell_same _ g (i+1) _ _ v' (heap_setCell_same w1 g i _ _ v e1),heap_setCell_same _ g (i+1) _ _ v' (heap_setCell_same w g i _ _ v hc)]
def TakeTime (w:World) (g i:Nat) (S n:Int) (ok:Bool) (e:Ending) (w':World):Prop:=
 e= .returned (.bool ok)∧w'.heap[g]?=((w.setCell ⟨g,i,none⟩ (.int .i64 S)).setCell ⟨g,i+1,none⟩ (.int .i64 n)).heap[g]?∧Fg g w w'
theorem parseV_parts (o:Option St.M.Tm):St.parseV o= .tuple #[.agg #[.int .i64 (o.getD (0,0)).1, .int .i64 (o.getD (0,0)).2], .bool o.isSome]:=by cases o<;>rfl
set_option maxRecDepth 100000 in
set_option maxHeartbeats 2000000 in
theorem takeTime_any (b g i:Nat) (s:ByteArray) (u v:Int) (cs:Array Value) (t:TypeId) (w:World) (hb:BoxP w b g i) (hbg:b≠g) (hh:w.heap[g]?=some (.cells cs t (0,0))) (hc:w.cell? ⟨g,i,none⟩=some (.int .i64 u)) (hc1:w.cell? ⟨g,i+1,none⟩=some (.int .i64 v))
  (hs:s.size≤1048576):
  Calls Tryz.prog 131 #[.string s, .pointer (some ⟨b,0,none⟩)] w (TakeTime w g i (St.M.norm ((St.M.parse (tl s)).getD (0,0))).1 (St.M.norm ((St.M.parse (tl s)).getD (0,0))).2 (St.M.parse (tl s)).isSome):=by
 have hbc:w.cell? ⟨b,0,none⟩=some (.pointer (some ⟨g,i,none⟩)):=hb
 have hbl:b<w.heap.size:=World.block_lt_of_cell? _ _ hbc
 have hgl:g<w.heap.size:=World.block_lt_of_cell? _ _ hc
 have HD:=hid (show Calls Tryz.prog 132 #[.string s] w (fun e w'=>e= .returned (St.parseV (St.M.parse (tl s)))∧Below w.heap.size w w') from St.parse_any s hs w)
 rw [parseV_parts] at HD
 have HH:=hid hh
 generalize (St.M.parse (tl s)).isSome=ok at*
 generalize (St.M.parse (tl s)).getD (0,0)=q at*
 obtain ⟨q1,q2⟩:=q
 have HN:=hid (fun W=>St.norm_any q1 q2 W)
 unfold St.TimeIs St.tv at HN
 generalize St.M.norm (q1,q2)=r at*
 obtain ⟨r1,r2⟩:=r
 dsimp only at HN HD⊢
 clear hb hh hs
 go_enter Tryz.func131,Tryz.ntmps131
 go_wp2_with fail
 refine HD.out.mono ?_
 rintro e w1 ⟨rfl,hb1⟩
 go_upto_region 2 with fail
 have hn:=heap_alloc_new w1 (.cells #[.int .i64 q1, .int .i64 q2] 31)
 have hsz:=World.size_alloc w1 (.cells #[.int .i64 q1, .int .i64 q2] 31)
 have HB1:=hid (hb1.alloc hb1.size (.cells #[.int .i64 q1, .int .i64 q2] 31))
 have hw1:=hb1.size
 generalize World.alloc w1 _=W at*
 have HC:=hid (show ∀ V,Below W.heap.size W V→V.cell? ⟨b,0,none⟩=some (.pointer (some ⟨g,i,none⟩))∧V.cell? ⟨g,i,none⟩=some (.int .i64 u)∧V.cell? ⟨g,i+1,none⟩=some (.int .i64 v)∧V.frozen? ⟨g,i,none⟩=false∧V.frozen? ⟨g,i+1,none⟩=false∧V.cell? ⟨w1.heap.size,0,none⟩=some (.int .i64 q1)∧V.cell? ⟨w1.heap.size,1,none⟩=some (.int .i64 q2) from fun V hV=>by
  have hB:Below w.heap.size w V:=HB1.out.trans (hV.mono HB1.out.size)
  have e:=(hV.block w1.heap.size (by rw [hsz];omega)).trans hn
  refine ⟨(hB.cell (p:=⟨b,0,none⟩) hbl).trans hbc,(hB.cell (p:=⟨g,i,none⟩) hgl).trans hc,(hB.cell (p:=⟨g,i+1,none⟩) hgl).trans hc1,frozen_of_row V g i _ _ ((hB.block g hgl).trans HH.out),frozen_of_row V g (i+1) _ _ ((hB.block g hgl).trans HH.out), ?_, ?_⟩
  ·rw [cell_of_row V w1.heap.size _ _ _ _ e];rfl
  ·rw [cell_of_row V w1.heap.size _ _ _ _ e];rfl)
 obtain ⟨x1,x2,x3,x4,x5,x6,x7⟩:=HC.out W (Below.refl _ _)
 clear hbc hc hc1 hn hb1 HD
 go_region_with (go_at_call 118;(with_reducible refine (HN.out _).mono ?_);rintro e w3 ⟨rfl,hb3⟩;(have HB3:=hid (below_of_drew hb3));obtain ⟨y1,y2,y3,y4,y5,y6,y7⟩:=HC.out w3 HB3.out;clear hb3)
 all_goals
  have HK:=hid (Fg.kept2 (i:=i) hgl (HB1.out.trans (HB3.out.mono HB1.out.size)) (.int .i64 r1) (.int .i64 r2) HH.out)
  clear HC HN HB1 HB3 HH
  go_wp2
  go_ret
  exact ⟨rfl,HK.out.1,HK.out.2⟩
end Go.Proofs.YtgbgngdakkiclaaGreatDoor

namespace Go.Proofs.YtgbgngdakkiclaaGreatDoor
open Go.RowKit Go.Lib
open Px (R2 tl)
def hdrAt (m:M.Met) (i:Nat):M.Hdr:=
 { way:=1,kind:=m.kind,mode:=m.mode,major:=m.major,minor:=m.minor,pre:=if 1≤i then (M.split m.name).1 else ⟨#[]⟩,name:=if 1≤i then (M.split m.name).2.1 else m.name,link:=if 2≤i then m.link.extract 0 100 else m.link,user:=if 3≤i then m.user.extract 0 32 else m.user,group:=if 4≤i then m.group.extract 0 32 else m.group,uid:=if 5≤i then (if M.fits m.uid 8 then m.uid else 0) else m.uid,gid:=if 6≤i then (if M.fits m.gid 8 then m.gid else 0) else m.gid,size:=if 7≤i then (if M.fits m.size 12 then m.size else 0) else m.size,mtime:=if 8≤i then (if M.timeFits m then m.sec else 0) else m.sec }
theorem results_hdr {f:Func} {k:Nat} (hf:f.results= #[ResultVar.cell k 39]) {tmps:Array Value} {g:Nat} {h:M.Hdr} {pv:Value} {w:World} (hk:tmps.getD k undef= .pointer (some ⟨g,0,none⟩)) (hb:HB w g h pv):
  (results f tmps).run Tryz.prog w= .ok (.agg (hcells h pv)) w:=
 results_cell_row hf tmps w g 39 _ (0,0) _ hk hb Tryz.underlying39 rfl hdr_size
set_option maxRecDepth 100000 in
set_option maxHeartbeats 1000000 in
theorem roomy_any (m:M.Met) (pv ev:Value) (w:World):Calls Tryz.prog 66 #[.agg (mcells m pv ev)] w fun e w'=>e= .returned (.agg (hcells (hdrAt m 0) (.slice none 0 0)))∧Below w.heap.size w w':=by
 have B1:=MB.alloc (MB.new w m pv ev) (.cells (hcells {} (.slice none 0 0)) 39)
 have hb1:Below w.heap.size w ((w.alloc (.cells (mcells m pv ev) 35)).alloc (.cells (hcells {} (.slice none 0 0)) 39)):=((Below.refl _ _).alloc (Nat.le_refl _) _).alloc (by simp) _
 have H1:=HB.new (w.alloc (.cells (mcells m pv ev) 35)) {} (.slice none 0 0)
 rw [World.size_alloc] at H1
 have x0:=B1.cell (i:=0) (v:= .string m.name) rfl
 have x1:=B1.cell (i:=1) (v:= .string m.link) rfl
 have x2:=B1.cell (i:=2) (v:= .int .u8 m.kind) rfl
 have x3:=B1.cell (i:=3) (v:= .int .i64 m.mode) rfl
 have x4:=B1.cell (i:=4) (v:= .int .i64 m.uid) rfl
 have x5:=B1.cell (i:=5) (v:= .int .i64 m.gid) rfl
 have x6:=B1.cell (i:=6) (v:= .string m.user) rfl
 have x7:=B1.cell (i:=7) (v:= .string m.group) rfl
 have x8:=B1.cell (i:=8) (v:= .int .i64 m.sec) rfl
 have x10:=B1.cell (i:=10) (v:= .int .i64 m.major) rfl
 have x11:=B1.cell (i:=11) (v:= .int .i64 m.minor) rfl
 have x12:=B1.cell (i:=12) (v:= .int .i64 m.size) rfl
 have HH:=hid H1
 have HW:=hid hb1
 clear B1 H1 hb1
 go_enter Tryz.func66,Tryz.ntmps66
 go_upto_region 1 with fail
 change Code.wp _ _ _ _ ((w.alloc (.cells (mcells m pv ev) 35)).alloc (.cells (hcells {} (.slice none 0 0)) 39))
 generalize World.alloc (World.alloc w _) _=W at*
 have HR:=hid (show HB (W.setRow (w.heap.size+1) (hcells (hdrAt m 0) (.slice none 0 0))) (w.heap.size+1) (hdrAt m 0) (.slice none 0 0) from setRow_heap W _ _ _ _ _ HH.out)
 have HS:=hid (below_setRow (g:=w.heap.size+1) HW.out (Nat.le_succ _) (hcells (hdrAt m 0) (.slice none 0 0)))
 go_wp2_with (refine wpList_store_row rfl 39 (.tmp 2) (.tmp 28) rfl (w.heap.size+1) (hcells (hdrAt m 0) (.slice none 0 0)) (by simp [Act.eval]) (by simp [Act.eval,hcells,hdrAt]) 39 (hcells {} (.slice none 0 0)) HH.out hdr_size rfl (hcells_one _ rfl) ?_)
 refine bodyPost_ret (results_hdr rfl rfl (show HB _ _ (hdrAt m 0) (.slice none 0 0) from HR.out)) rfl ⟨rfl,HS.out⟩
theorem layout_any (A:Option Addr) (n c:Nat) (l:List (Int × Int)) (w:World) (B:Nat) (hr:Sp.RdP w w.heap.size A n l) (hi:Sp.M.i64s l) (hn:n≤3000) (hB:B≤w.heap.size) (ht:Sp.EV B w):
  Calls Tryz.prog 68 #[.slice A n c] w fun e w'=>e= .returned (.string ⟨(M.layout l).toArray⟩)∧Below w.heap.size w w':=by
 have HL:=hid hr.len
 have HP:=hid (Sp.print_any A n c l w B hr hi hn hB ht)
 clear hr hi ht
 by_cases h0:n=0
 ·subst h0
  have HE:=hid (show M.layout l= [48,44,48] by
   have:=List.eq_nil_of_length_eq_zero HL.out
   rw [this];rfl)
  go_enter Tryz.func68,Tryz.ntmps68
  go_wp2
  go_ret
  exact ⟨by rw [HE.out];rfl,Below.refl _ _⟩
 ·have d1:((n:Int)==0)=false:=by rw [beq_eq_false_iff_ne];omega
  have HE:=hid (show M.layout l=Sp.M.print l by
   unfold M.layout
   rw [if_neg]
   rintro rfl
   exact h0 HL.out.symm)
  clear h0
  go_enter Tryz.func68,Tryz.ntmps68
  go_wp2_with (go_at_call 93;(with_reducible refine HP.out.mono ?_);rintro e w1 ⟨rfl,hb1⟩)
  go_ret
  have e:Sp.strOf (Sp.ints (Sp.M.print l))=⟨(Sp.M.print l).toArray⟩:=Px.strOf_ints _
  exact ⟨by rw [HE.out,←e];rfl,hb1⟩
end Go.Proofs.YtgbgngdakkiclaaGreatDoor

namespace Go.Proofs.YtgbgngdakkiclaaGreatDoor
open Go.RowKit Go.Lib
open Px (R2 tl)
open Px.M (Rc)
def piece (m:M.Met):Nat→List Rc
 |0=>M.gName m
 |1=>M.gText M.kLink m.link 100
 |2=>M.gText M.kUser m.user 32
 |3=>M.gText M.kGroup m.group 32
 |4=>M.gNum M.kUid m.uid 8
 |5=>M.gNum M.kGid m.gid 8
 |6=>M.gNum M.kSize m.size 12
 |_=>M.gTime m
def key:Nat→ByteArray
 |0=>M.kPath
 |1=>M.kLink
 |2=>M.kUser
 |3=>M.kGroup
 |4=>M.kUid
 |5=>M.kGid
 |6=>M.kSize
 |_=>M.kTime
def takeM (v:ByteArray) (m:M.Met):Nat→M.Met
 |0=> { m with name:=v }
 |1=> { m with link:=v }
 |2=> { m with user:=v }
 |3=> { m with group:=v }
 |4=> { m with uid:=(M.dec (tl v) 4611686018427387904).getD 0 }
 |5=> { m with gid:=(M.dec (tl v) 4611686018427387904).getD 0 }
 |6=> { m with size:=(M.dec (tl v) 1099511627776).getD 0 }
 |_=> { m with sec:=(St.M.norm ((St.M.parse (tl v)).getD (0,0))).1,nan:=(St.M.norm ((St.M.parse (tl v)).getD (0,0))).2 }
def takeOk (v:ByteArray):Nat→Bool
 |0=>true
 |1=>true
 |2=>true
 |3=>true
 |4=>(M.dec (tl v) 4611686018427387904).isSome
 |5=>(M.dec (tl v) 4611686018427387904).isSome
 |6=>(M.dec (tl v) 1099511627776).isSome
 |_=>(St.M.parse (tl v)).isSome
def Still (lo hi:Nat) (w0 W:World):Prop:=hi≤W.heap.size∧ ∀ k,lo≤k→k<hi→W.heap[k]?=w0.heap[k]?
theorem Still.cell {lo hi:Nat} {w0 W:World} (h:Still lo hi w0 W) {p:Addr} (h1:lo≤p.block) (h2:p.block<hi):W.cell? p=w0.cell? p:=World.cell?_of_block (h.2 p.block h1 h2)
theorem Still.fg {lo hi g:Nat} {w0 W W':World} (h:Still lo hi w0 W) (hf:Fg g W W') (hg:g<lo):Still lo hi w0 W':=
 ⟨Nat.le_trans h.1 hf.size,fun k h1 h2=>(hf.block k (Nat.lt_of_lt_of_le h2 h.1) (by omega)).trans (h.2 k h1 h2)⟩
theorem Still.below {lo hi:Nat} {w0 W W':World} (h:Still lo hi w0 W) (hf:Below W.heap.size W W'):Still lo hi w0 W':=
 ⟨Nat.le_trans h.1 hf.size,fun k h1 h2=>(hf.block k (Nat.lt_of_lt_of_le h2 h.1)).trans (h.2 k h1 h2)⟩
theorem Still.more {lo hi lo' hi':Nat} {w0 w1 W:World} (h:Still lo' hi' w1 W) (h1:Still lo hi w0 w1) (hl:lo'≤lo) (hh:hi≤hi'):Still lo hi w0 W:=
 ⟨Nat.le_trans hh h.1,fun k a b=>(h.2 k (by omega) (by omega)).trans (h1.2 k a b)⟩
theorem set_self {cs:Array Value} {j:Nat} {v:Value} (h:cs[j]?=some v):cs.set! j v=cs:=by
 have hj:=(Array.getElem?_eq_some_iff.1 h).1
 rw [Array.set!_eq_setIfInBounds]
 refine Array.ext_getElem? fun i=> ?_
 rw [Array.getElem?_setIfInBounds]
 by_cases e:j=i
 ·subst e
  rw [if_pos rfl,if_pos hj,h]
 ·rw [if_neg e]
def EntersF (G:Nat):Prop:= ∀ args w,(callFunc G args).run Tryz.prog w= .ok (.enter G args) w
def GivePost (m:M.Met) (i g:Nat) (w:World) (e:Ending) (w':World):Prop:=
 ∃ (s:ByteArray) (ok:Bool),e= .returned (.tuple #[.string s, .bool ok])∧piece m i=(if ok=true then [(tl (key i),tl s)] else [])∧HB w' g (hdrAt m (i+1)) (.slice none 0 0)∧Fg g w w'
def GiveC (lo hi g B:Nat) (w0:World) (m:M.Met) (i:Nat) (fn:Value):Prop:=
 ∃ (G:Nat) (cb:Array Value),fn= .func (.func G) #[] cb∧EntersF G∧ ∀ W,Still lo hi w0 W→HB W g (hdrAt m i) (.slice none 0 0)→B≤W.heap.size→Sp.EV B W→Calls Tryz.prog G cb W (GivePost m i g W)
def TakeIs (v:ByteArray) (m:M.Met) (pv ev:Value) (i g:Nat) (w:World) (e:Ending) (w':World):Prop:=
 e= .returned (.bool (takeOk v i))∧MB w' g (takeM v m i) pv ev∧Fg g w w'
def TakeC (lo hi g B:Nat) (w0:World) (i:Nat) (fn:Value):Prop:=
 ∃ (G:Nat) (cb:Array Value),fn= .func (.func G) #[] cb∧EntersF G∧ ∀ W (v:ByteArray) (m:M.Met) (pv ev:Value),Still lo hi w0 W→MB W g m pv ev→v.size≤1048576→B≤W.heap.size→Sp.EV B W→Calls Tryz.prog G (#[.string v]++cb) W (TakeIs v m pv ev i g W)
section
variable {lo hi g B b k:Nat} {w0:World}
theorem giveC_name {m:M.Met} (hb:BoxP w0 b g 0) (h1:lo≤b) (h2:b<hi) (hg:g<lo) (hs:m.name.size≤1048576):GiveC lo hi g B w0 m 0 (.func (.func 124) #[] #[.pointer (some ⟨b,0,none⟩)]):=
 ⟨_,_,rfl,enters_of Tryz.func124 (by kernel_rfl) rfl,fun W hS hH _ _=>by
  refine (giveName_any b g (hdrAt m 0) (.slice none 0 0) W ((hS.cell (p:=⟨b,0,none⟩) h1 h2).trans hb) (by omega) hH hs).mono ?_
  rintro e w' ⟨rfl,h3,h4⟩
  refine ⟨_,_,rfl, ?_,h3,h4⟩
  show M.gName m=if (!(M.split m.name).2.2)=true then _ else _
  unfold M.gName
  cases (M.split m.name).2.2<;>rfl⟩
theorem giveC_text {m:M.Met} {i j wide:Nat} {s:ByteArray} (hb:BoxP w0 b g j) (hk:w0.cell? ⟨k,0,none⟩=some (.int .i64 wide)) (h1:lo≤b) (h2:b<hi) (h3:lo≤k) (h4:k<hi) (hg:g<lo) (hs:s.size≤1048576) (hw:wide≤1000)
  (hj:(hcells (hdrAt m i) (.slice none 0 0))[j]?=some (.string s)) (hp:piece m i=M.gText (key i) s wide) (he:(hcells (hdrAt m i) (.slice none 0 0)).set! j (.string (s.extract 0 wide))=hcells (hdrAt m (i+1)) (.slice none 0 0)):
  GiveC lo hi g B w0 m i (.func (.func 126) #[] #[.pointer (some ⟨b,0,none⟩), .pointer (some ⟨k,0,none⟩)]):=
 ⟨_,_,rfl,enters_of Tryz.func126 (by kernel_rfl) rfl,fun W hS hH _ _=>by
  refine (giveText_any b k g j s wide W ((hS.cell (p:=⟨b,0,none⟩) h1 h2).trans hb) ((hS.cell (p:=⟨k,0,none⟩) h3 h4).trans hk) (by omega) (by omega) (hH.cell hj) (hH.frozen j) hs hw).mono ?_
  rintro e w' ⟨rfl,h5,h6⟩
  refine ⟨_,_,rfl, ?_,(hH.set j _ he).of_block h5,h6⟩
  rw [hp]
  unfold M.gText
  by_cases h:s.size≤wide
  ·rw [if_pos h,if_neg (by simpa using h)]
  ·rw [if_neg h,if_pos (by simpa using h)]⟩
theorem giveC_num {m:M.Met} {i j:Nat} {n wide:Int} (hb:BoxP w0 b g j) (hk:w0.cell? ⟨k,0,none⟩=some (.int .i64 wide)) (h1:lo≤b) (h2:b<hi) (h3:lo≤k) (h4:k<hi) (hg:g<lo) (hBg:B≤g) (hn: -9223372036854775808≤n∧n≤9223372036854775807)
  (hj:(hcells (hdrAt m i) (.slice none 0 0))[j]?=some (.int .i64 n)) (hp:piece m i=M.gNum (key i) n wide)
  (he:(hcells (hdrAt m i) (.slice none 0 0)).set! j (.int .i64 (if M.fits n wide=true then n else 0))=hcells (hdrAt m (i+1)) (.slice none 0 0)):
  GiveC lo hi g B w0 m i (.func (.func 129) #[] #[.pointer (some ⟨b,0,none⟩), .pointer (some ⟨k,0,none⟩)]):=
 ⟨_,_,rfl,enters_of Tryz.func129 (by kernel_rfl) rfl,fun W hS hH hB hE=>by
  refine (giveNumber_any b k g j n wide _ _ B W ((hS.cell (p:=⟨b,0,none⟩) h1 h2).trans hb) ((hS.cell (p:=⟨k,0,none⟩) h3 h4).trans hk) (by omega) (by omega) hH (hH.cell hj) hn hB hBg hE).mono ?_
  rintro e w' ⟨rfl,h5,h6⟩
  cases hf:M.fits n wide with
  |true=>
   rw [hf] at h5 he
   refine ⟨_,_,rfl, ?_, ?_,h6⟩
   ·rw [hp];unfold M.gNum;rw [hf];rfl
   ·have e0:hcells (hdrAt m i) (.slice none 0 0)=hcells (hdrAt m (i+1)) (.slice none 0 0):=by
     rw [←he,if_pos rfl]
     exact (set_self hj).symm
    have:=hH.of_block (w':=w') h5
    unfold HB at this⊢
    rw [this,e0]
  |false=>
   rw [hf] at h5 he
   refine ⟨_,_,rfl, ?_,(hH.set j _ he).of_block h5,h6⟩
   rw [hp];unfold M.gNum;rw [hf];rfl⟩
theorem giveC_time {m:M.Met} (hb:BoxP w0 b g 5) (hk0:w0.cell? ⟨k,0,none⟩=some (.int .i64 m.sec)) (hk1:w0.cell? ⟨k,1,none⟩=some (.int .i64 m.nan)) (h1:lo≤b) (h2:b<hi) (h3:lo≤k) (h4:k<hi) (hg:g<lo) (hBg:B≤g):
  GiveC lo hi g B w0 m 7 (.func (.func 133) #[] #[.pointer (some ⟨b,0,none⟩), .pointer (some ⟨k,0,none⟩)]):=
 ⟨_,_,rfl,enters_of Tryz.func133 (by kernel_rfl) rfl,fun W hS hH hB hE=>by
  refine (giveTime_any b k g 5 m.sec m.sec m.nan _ _ B W ((hS.cell (p:=⟨b,0,none⟩) h1 h2).trans hb) ((hS.cell (p:=⟨k,0,none⟩) h3 h4).trans hk0) ((hS.cell (p:=⟨k,1,none⟩) h3 h4).trans hk1) (by omega) (by omega) hH (hH.cell (i:=5) rfl) hB hBg hE).mono ?_
  rintro e w' ⟨rfl,h5,h6⟩
  have ht:M.timeFits m=(M.fits m.sec 12&&m.nan==0):=rfl
  have hp:piece m 7=M.gTime m:=rfl
  have he:(hcells (hdrAt m 7) (.slice none 0 0)).set! 5 (.int .i64 (if M.timeFits m=true then m.sec else 0))=hcells (hdrAt m (7+1)) (.slice none 0 0):=rfl
  rw [←ht] at h5⊢
  cases hf:M.timeFits m with
  |true=>
   rw [hf] at h5 he
   refine ⟨_,_,rfl, ?_, ?_,h6⟩
   ·rw [hp];unfold M.gTime;rw [hf];rfl
   ·have e0:hcells (hdrAt m 7) (.slice none 0 0)=hcells (hdrAt m (7+1)) (.slice none 0 0):=by
     rw [←he,if_pos rfl]
     exact (set_self (j:=5) rfl).symm
    have:=hH.of_block (w':=w') h5
    unfold HB at this⊢
    rw [this,e0]
  |false=>
   rw [hf] at h5 he
   refine ⟨_,_,rfl, ?_,(hH.set 5 _ he).of_block h5,h6⟩
   rw [hp];unfold M.gTime;rw [hf];rfl⟩
theorem takeC_text {i j:Nat} (hb:BoxP w0 b g j) (h1:lo≤b) (h2:b<hi) (hg:g<lo) (hok: ∀ v,takeOk v i=true)
  (hj: ∀ (m:M.Met) (pv ev:Value),∃ u,(mcells m pv ev)[j]?=some (.string u)) (he: ∀ (v:ByteArray) (m:M.Met) (pv ev:Value),(mcells m pv ev).set! j (.string v)=mcells (takeM v m i) pv ev):
  TakeC lo hi g B w0 i (.func (.func 123) #[] #[.pointer (some ⟨b,0,none⟩)]):=
 ⟨_,_,rfl,enters_of Tryz.func123 (by kernel_rfl) rfl,fun W v m pv ev hS hM hv _ _=>by
  obtain ⟨u,hu⟩:=hj m pv ev
  refine (takeText_any b g j v u W ((hS.cell (p:=⟨b,0,none⟩) h1 h2).trans hb) (by omega) (hM.cell hu) (hM.frozen j)).mono ?_
  rintro e w' ⟨rfl,h5,h6⟩
  exact ⟨by rw [hok],(hM.set j _ (he v m pv ev)).of_block h5,h6⟩⟩
theorem takeC_num {i j:Nat} {most:Int} (hb:BoxP w0 b g j) (hk:w0.cell? ⟨k,0,none⟩=some (.int .i64 most)) (h1:lo≤b) (h2:b<hi) (h3:lo≤k) (h4:k<hi) (hg:g<lo) (hok: ∀ v,takeOk v i=(M.dec (tl v) most).isSome)
  (hj: ∀ (m:M.Met) (pv ev:Value),∃ u,(mcells m pv ev)[j]?=some (.int .i64 u)) (he: ∀ (v:ByteArray) (m:M.Met) (pv ev:Value),(mcells m pv ev).set! j (.int .i64 ((M.dec (tl v) most).getD 0))=mcells (takeM v m i) pv ev):
  TakeC lo hi g B w0 i (.func (.func 127) #[] #[.pointer (some ⟨k,0,none⟩), .pointer (some ⟨b,0,none⟩)]):=
 ⟨_,_,rfl,enters_of Tryz.func127 (by kernel_rfl) rfl,fun W v m pv ev hS hM hv hB hE=>by
  obtain ⟨u,hu⟩:=hj m pv ev
  refine (takeNumber_any b k g j v u most _ _ B W ((hS.cell (p:=⟨b,0,none⟩) h1 h2).trans hb) ((hS.cell (p:=⟨k,0,none⟩) h3 h4).trans hk) (by omega) hM (hM.cell hu) hv hB hE).mono ?_
  rintro e w' ⟨rfl,h5,h6⟩
  exact ⟨by rw [hok],(hM.set j _ (he v m pv ev)).of_block h5,h6⟩⟩
theorem takeC_time (hb:BoxP w0 b g 8) (h1:lo≤b) (h2:b<hi) (hg:g<lo):
  TakeC lo hi g B w0 7 (.func (.func 131) #[] #[.pointer (some ⟨b,0,none⟩)]):=
 ⟨_,_,rfl,enters_of Tryz.func131 (by kernel_rfl) rfl,fun W v m pv ev hS hM hv _ _=>by
  refine (takeTime_any b g 8 v m.sec m.nan _ _ W ((hS.cell (p:=⟨b,0,none⟩) h1 h2).trans hb) (by omega) hM (hM.cell (i:=8) rfl) (hM.cell (i:=9) rfl) hv).mono ?_
  rintro e w' ⟨rfl,h5,h6⟩
  refine ⟨rfl, ?_,h6⟩
  have e1:(mcells m pv ev).set! 8 (.int .i64 (St.M.norm ((St.M.parse (tl v)).getD (0,0))).1)=mcells { m with sec:=(St.M.norm ((St.M.parse (tl v)).getD (0,0))).1 } pv ev:=rfl
  have e2:(mcells { m with sec:=(St.M.norm ((St.M.parse (tl v)).getD (0,0))).1 } pv ev).set! 9 (.int .i64 (St.M.norm ((St.M.parse (tl v)).getD (0,0))).2)=mcells (takeM v m 7) pv ev:=rfl
  exact ((hM.set 8 _ e1).set 9 _ e2).of_block h5⟩
end
end Go.Proofs.YtgbgngdakkiclaaGreatDoor

namespace Go.Proofs.YtgbgngdakkiclaaGreatDoor
open Go.RowKit Go.Lib
open Px (R2 tl)
structure Made (w w':World) (b:Nat):Prop where
 lo:w.heap.size≤b
 hi:b<w'.heap.size
 below:Below w.heap.size w w'
theorem takeText_new (g i:Nat) (w:World):Calls Tryz.prog 86 #[.pointer (some ⟨g,i,none⟩)] w fun e w'=> ∃ b,e= .returned (.func (.func 123) #[] #[.pointer (some ⟨b,0,none⟩)])∧BoxP w' b g i∧Made w w' b:=by
 go_enter Tryz.func86,Tryz.ntmps86
 go_wp2
 go_ret
 refine ⟨w.heap.size,rfl, ?_,Nat.le_refl _,by simp,(Below.refl _ w).alloc (Nat.le_refl _) _⟩
 unfold BoxP
 rw [cell_of_row _ _ _ _ _ _ (heap_alloc_new w _)];rfl
theorem giveName_new (g:Nat) (w:World):Calls Tryz.prog 87 #[.pointer (some ⟨g,0,none⟩)] w fun e w'=> ∃ b,e= .returned (.func (.func 124) #[] #[.pointer (some ⟨b,0,none⟩)])∧BoxP w' b g 0∧Made w w' b:=by
 go_enter Tryz.func87,Tryz.ntmps87
 go_wp2
 go_ret
 refine ⟨w.heap.size,rfl, ?_,Nat.le_refl _,by simp,(Below.refl _ w).alloc (Nat.le_refl _) _⟩
 unfold BoxP
 rw [cell_of_row _ _ _ _ _ _ (heap_alloc_new w _)];rfl
theorem takeTime_new (g i:Nat) (w:World):Calls Tryz.prog 91 #[.pointer (some ⟨g,i,none⟩)] w fun e w'=> ∃ b,e= .returned (.func (.func 131) #[] #[.pointer (some ⟨b,0,none⟩)])∧BoxP w' b g i∧Made w w' b:=by
 go_enter Tryz.func91,Tryz.ntmps91
 go_wp2
 go_ret
 refine ⟨w.heap.size,rfl, ?_,Nat.le_refl _,by simp,(Below.refl _ w).alloc (Nat.le_refl _) _⟩
 unfold BoxP
 rw [cell_of_row _ _ _ _ _ _ (heap_alloc_new w _)];rfl
theorem two_boxes (w:World) (a c:Array Value) (t u:TypeId):((w.alloc (.cells a t)).alloc (.cells c u)).heap[w.heap.size]?=some (.cells a t (0,0))∧((w.alloc (.cells a t)).alloc (.cells c u)).heap[w.heap.size+1]?=some (.cells c u (0,0)):=by
 have h2:=heap_alloc_new (w.alloc (.cells a t)) (.cells c u)
 rw [World.size_alloc] at h2
 refine ⟨?_,h2⟩
 have h1:=heap_alloc_new w (.cells a t)
 have hb:Below (w.alloc (.cells a t)).heap.size (w.alloc (.cells a t)) ((w.alloc (.cells a t)).alloc (.cells c u)):=(Below.refl _ _).alloc (Nat.le_refl _) _
 rw [hb.block w.heap.size (by simp)]
 exact h1
theorem below2 (w:World) (o o':Obj):Below w.heap.size w ((w.alloc o).alloc o'):=((Below.refl _ w).alloc (Nat.le_refl _) _).alloc (by simp) _
theorem giveText_new (g i:Nat) (n:Int) (w:World):Calls Tryz.prog 88 #[.pointer (some ⟨g,i,none⟩), .int .i64 n] w fun e w'=> ∃ b k,e= .returned (.func (.func 126) #[] #[.pointer (some ⟨b,0,none⟩), .pointer (some ⟨k,0,none⟩)])∧BoxP w' b g i∧w'.cell? ⟨k,0,none⟩=some (.int .i64 n)∧Made w w' b∧Made w w' k:=by
 go_enter Tryz.func88,Tryz.ntmps88
 go_wp2
 go_ret
 obtain ⟨h1,h2⟩:=two_boxes w #[.pointer (some ⟨g,i,none⟩)] #[.int .i64 n] 136 3
 have hb:=below2 w (.cells #[.pointer (some ⟨g,i,none⟩)] 136) (.cells #[.int .i64 n] 3)
 refine ⟨w.heap.size,w.heap.size+1,rfl, ?_, ?_,⟨Nat.le_refl _,by simp only [World.size_alloc];omega,hb⟩,⟨by omega,by simp only [World.size_alloc];omega,hb⟩⟩
 ·unfold BoxP;rw [cell_of_row _ _ _ _ _ _ h1];rfl
 ·rw [cell_of_row _ _ _ _ _ _ h2];rfl
theorem giveNumber_new (g i:Nat) (n:Int) (w:World):Calls Tryz.prog 90 #[.pointer (some ⟨g,i,none⟩), .int .i64 n] w fun e w'=> ∃ b k,e= .returned (.func (.func 129) #[] #[.pointer (some ⟨b,0,none⟩), .pointer (some ⟨k,0,none⟩)])∧BoxP w' b g i∧w'.cell? ⟨k,0,none⟩=some (.int .i64 n)∧Made w w' b∧Made w w' k:=by
 go_enter Tryz.func90,Tryz.ntmps90
 go_wp2
 go_ret
 obtain ⟨h1,h2⟩:=two_boxes w #[.pointer (some ⟨g,i,none⟩)] #[.int .i64 n] 140 3
 have hb:=below2 w (.cells #[.pointer (some ⟨g,i,none⟩)] 140) (.cells #[.int .i64 n] 3)
 refine ⟨w.heap.size,w.heap.size+1,rfl, ?_, ?_,⟨Nat.le_refl _,by simp only [World.size_alloc];omega,hb⟩,⟨by omega,by simp only [World.size_alloc];omega,hb⟩⟩
 ·unfold BoxP;rw [cell_of_row _ _ _ _ _ _ h1];rfl
 ·rw [cell_of_row _ _ _ _ _ _ h2];rfl
theorem takeNumber_new (g i:Nat) (n:Int) (w:World):Calls Tryz.prog 89 #[.pointer (some ⟨g,i,none⟩), .int .i64 n] w fun e w'=> ∃ b k,e= .returned (.func (.func 127) #[] #[.pointer (some ⟨k,0,none⟩), .pointer (some ⟨b,0,none⟩)])∧BoxP w' b g i∧w'.cell? ⟨k,0,none⟩=some (.int .i64 n)∧Made w w' b∧Made w w' k:=by
 go_enter Tryz.func89,Tryz.ntmps89
 go_wp2
 go_ret
 obtain ⟨h1,h2⟩:=two_boxes w #[.pointer (some ⟨g,i,none⟩)] #[.int .i64 n] 140 3
 have hb:=below2 w (.cells #[.pointer (some ⟨g,i,none⟩)] 140) (.cells #[.int .i64 n] 3)
 refine ⟨w.heap.size,w.heap.size+1,rfl, ?_, ?_,⟨Nat.le_refl _,by simp only [World.size_alloc];omega,hb⟩,⟨by omega,by simp only [World.size_alloc];omega,hb⟩⟩
 ·unfold BoxP;rw [cell_of_row _ _ _ _ _ _ h1];rfl
 ·rw [cell_of_row _ _ _ _ _ _ h2];rfl
theorem giveTime_new (g i:Nat) (S n:Int) (w:World):Calls Tryz.prog 92 #[.pointer (some ⟨g,i,none⟩), .agg #[.int .i64 S, .int .i64 n]] w fun e w'=> ∃ b k,e= .returned (.func (.func 133) #[] #[.pointer (some ⟨b,0,none⟩), .pointer (some ⟨k,0,none⟩)])∧BoxP w' b g i∧w'.cell? ⟨k,0,none⟩=some (.int .i64 S)∧w'.cell? ⟨k,1,none⟩=some (.int .i64 n)∧Made w w' b∧Made w w' k:=by
 go_enter Tryz.func92,Tryz.ntmps92
 go_wp2
 go_ret
 obtain ⟨h1,h2⟩:=two_boxes w #[.pointer (some ⟨g,i,none⟩)] #[.int .i64 S, .int .i64 n] 140 31
 have hb:=below2 w (.cells #[.pointer (some ⟨g,i,none⟩)] 140) (.cells #[.int .i64 S, .int .i64 n] 31)
 refine ⟨w.heap.size,w.heap.size+1,rfl, ?_, ?_, ?_,⟨Nat.le_refl _,by simp only [World.size_alloc];omega,hb⟩,⟨by omega,by simp only [World.size_alloc];omega,hb⟩⟩
 ·unfold BoxP;rw [cell_of_row _ _ _ _ _ _ h1];rfl
 ·rw [cell_of_row _ _ _ _ _ _ h2];rfl
 ·rw [cell_of_row _ _ _ _ _ _ h2];rfl
end Go.Proofs.YtgbgngdakkiclaaGreatDoor

namespace Go.Proofs.YtgbgngdakkiclaaGreatDoor
open Go.RowKit Go.Lib
open Px (R2 tl)
structure SI (w wx:World) (g:Nat) (m:M.Met) (pv ev:Value):Prop where
 met:MB wx g m pv ev
 fg:Fg g w wx
theorem SI.set {w wx:World} {g:Nat} {m m':M.Met} {pv ev pv' ev':Value} (I:SI w wx g m pv ev) (i:Nat) (v:Value) (e:(mcells m pv ev).set! i v=mcells m' pv' ev'):SI w (wx.setCell ⟨g,i,none⟩ v) g m' pv' ev':=
 ⟨I.met.set i v e,I.fg.trans (Fg.set wx g i v)⟩
end Go.Proofs.YtgbgngdakkiclaaGreatDoor
