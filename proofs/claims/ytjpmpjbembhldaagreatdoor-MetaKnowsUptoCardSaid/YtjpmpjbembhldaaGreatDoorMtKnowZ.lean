/-
  Texts of one chapter, merged.
-/
import Derived.Test.YtjpmpjbembhldaaGreatDoorStepZ
import Derived.Test.YtjpmpjbembhldaaGreatDoorKhF1
import Derived.Test.YtjpmpjbembhldaaGreatDoorMtKnownZ
import Derived.Test.YtjpmpjbembhldaaGreatDoorMtFromZ
import Derived.Test.YtjpmpjbembhldaaGreatDoorMtMathZ
import Derived.Test.YtjpmpjbembhldaaGreatDoorMtKnR
import Derived.Test.YtjpmpjbembhldaaGreatDoorMtParts
import Derived.Test.YtjpmpjbembhldaaGreatDoorKPr
import Derived.BigQuiet
import Derived.Test.YtjpmpjbembhldaaGreatDoorKS
import Derived.Test.YtjpmpjbembhldaaGreatDoorRows
import Derived.WalkKit
import Derived.ProofKit
import Derived.OpenShut
import Derived.ShutString
import Derived.ChangeOld
import Derived.ChangeSame
import Derived.LaidMore
import Derived.Lib.LaidTab
import Derived.MakeChecks
import Derived.Stop.LaidErr
import Derived.Test.YtjpmpjbembhldaaGreatDoorMtTextZ
import Derived.Test.YtjpmpjbembhldaaGreatDoorKX
import Derived.Deep.SlicePairs
import Derived.Stop.Joined
import Derived.Lib.SmallJoins
import Derived.Deep.Strs
set_option linter.unusedVariables false
set_option linter.unusedSimpArgs false
/-! MtWhatL -/
namespace Go.Proofs.YtjpmpjbembhldaaGreatDoor
open Go.RowKit Go.Lib
open Px (R2 tl)
def um (h:Hd.M.Hdr):M.Hdr:=
 { name:=h.name,mode:=h.mode,uid:=h.uid,gid:=h.gid,size:=h.size,mtime:=h.mtime,kind:=h.kind,link:=h.link,way:=h.way,user:=h.user,group:=h.group,major:=h.major,minor:=h.minor,pre:=h.pre,parts:=h.parts,more:=h.more,real:=h.real }
theorem rdP_of {w:World} {B:Nat} {pv:Value} {l:List (Int × Int)} (h:Hd.PartsB w B pv l): ∃ A c,pv= .slice A l.length c∧Sp.RdP w B A l.length l:=by
 obtain ⟨A,c,rfl,_,h2⟩:=h
 refine ⟨A,c,rfl,rfl,fun hl=> ?_⟩
 obtain ⟨b,off,e,hb,hc⟩:=h2 hl
 exact ⟨b,off,e,hb,fun j p hj=>by have:=hc j p hj;rw [Nat.mul_comm j 2];exact this⟩
end Go.Proofs.YtjpmpjbembhldaaGreatDoor

/-! MtKnows -/
namespace Go.Proofs.YtjpmpjbembhldaaGreatDoor
open Go.RowKit Go.Lib
open Px (R2 tl rcs RdR OwnR)
theorem FIn.later {w w':World} {h:M.Hdr} {hp:Value} {l:List R2} {names links:List ByteArray} {more:List (Int × Int)} {A An Al Am:Option Addr} (p:FIn w h hp l names links more A An Al Am) (hb:Below w.heap.size w w'):FIn w' h hp l names links more A An Al Am where
 rparts:=let ⟨A,c,e,hr⟩:=p.rparts;⟨A,c,e,(hr.below hb).more hb.size⟩
 rrecs:=(p.rrecs.below hb).more hb.size
 rnames:=rdT_later p.rnames hb
 rlinks:=rdT_later p.rlinks hb
 rmore:=(p.rmore.below hb).more hb.size
 nparts:=p.nparts
 nrecs:=p.nrecs
 nnames:=p.nnames
 fits:=p.fits
 kind:=p.kind
 pn:=p.pn
 texts:=p.texts
 tnames:=p.tnames
 ints:=p.ints
 i64s:=p.i64s
theorem sin_of' {w:World} {m:M.Met} {pv ev:Value} (h:MIn w m pv ev): ∃ P p E c,pv= .slice P m.parts.length p∧ev= .slice E m.extra.length c∧SIn w m (.slice P m.parts.length p) (.slice E m.extra.length c):=by
 obtain ⟨P,p,rfl,h1⟩:=h.parts
 obtain ⟨E,c,rfl,h2⟩:=h.extra
 exact ⟨P,p,E,c,rfl,rfl,⟨P,p,rfl,h1⟩,⟨E,c,rfl,h2⟩,Nat.le_trans h.nparts (by decide),Nat.le_trans h.nextra (by decide)⟩
theorem wl_load_row2 {P:Program} {ops:Array Oper} {rest:List Oper} {o:Oper} {a:Act} {w:World} {Q:Exit→Act→World→Prop} (hw:Region.wanted o (yielded ops a.tmps)=true) (ty:TypeId) (x:Operand) (ho:o.op= .load ty x)
  (g:Nat) (hx:a.eval x= .pointer (some ⟨g,0,none⟩)) (t:TypeId) (cs:Array Value) (fr:Nat × Nat) (d:TypeDesc) (hg:w.heap[g]?=some (.cells cs t fr))
  (hu:P.underlying ty=some d) (hd:(match d with| .struct _| .array _ _=>true|_=>false)=true) (hi:(P.info? ty).map (·.size)=some cs.size)
  (h:wpList P ops Q rest (a.put o.dst (.agg cs)) w):wpList P ops Q (o::rest) a w:=by
 unfold wpList
 rw [if_pos hw]
 left
 exact wp_load_row ty x ho g hx t cs fr d hg hu hd hi h
theorem toE_le' (m:M.Met):M.toE m≤34:=by
 unfold M.toE M.wrong Px.M.printE
 split<;>(repeat' split)<;>omega
theorem wrap_fromE {h:M.Hdr} {recs:List Px.M.Rc} {names links:List ByteArray} {more:List (Int × Int)} {n:Nat} (hn:M.fromE h recs names links more=n):wrap64 ((n:Nat):Int)=((n:Nat):Int):=by
 have:n≤34:=by
  subst hn
  unfold M.fromE
  split
  ·omega
  ·split
   ·omega
   ·exact toE_le' _
 unfold wrap64
 omega
set_option maxRecDepth 100000 in
set_option maxHeartbeats 8000000 in
theorem knows_any (h:M.Hdr) (Ah:Option Addr) (ch:Nat) (l:List R2) (names links:List ByteArray) (more:List (Int × Int)) (A An Al Am:Option Addr) (c cn cl cm:Nat) (B:Nat) (w:World)
  (hi:FIn w h (.slice Ah h.parts.length ch) l names links more A An Al Am) (hv5: ∀ r∈l,r.2.size≤100000) (hn4:h.parts.length≤400000∧more.length≤400000) (hl4:l.length≤400000) (hB:B≤w.heap.size) (ht:Sp.EV B w):
  Calls Tryz.prog 7 #[.agg (hcells h (.slice Ah h.parts.length ch)), .slice A l.length c, .slice An names.length cn, .slice Al links.length cl, .slice Am more.length cm] w fun e w'=>e= .returned (.bool true)∧Below w.heap.size w w':=by
 have HT:=hid (fun (V:World) (hV:Below w.heap.size w V)=>And.intro (Nat.le_trans hB hV.size) (ht.on (hV.mono hB)))
 have HI:=hid (fun (V:World) (hV:Below w.heap.size w V)=>hi.later hV)
 have H1:=hid (HB.new w h (.slice Ah h.parts.length ch))
 have HW:=hid ((Below.refl w.heap.size w).alloc (Nat.le_refl _) (.cells (hcells h (.slice Ah h.parts.length ch)) 24))
 have hs0:w.heap.size<(w.alloc (.cells (hcells h (.slice Ah h.parts.length ch)) 24)).heap.size:=by rw [World.size_alloc];exact Nat.lt_succ_self _
 clear hi hB ht
 go_enter Tryz.func7,Tryz.ntmps7
 go_upto_region 1 with fail
 generalize World.alloc w _=W at*
 obtain ⟨E0,hE0⟩: ∃ n,M.fromE h (rcs l) names links more=n:=⟨_,rfl⟩
 obtain ⟨m0,hm0⟩: ∃ m,M.fromM h (rcs l) names links more=m:=⟨_,rfl⟩
 have hwr:=hid (wrap_fromE hE0)
 have HF1:=hid (fun (V:World) (hV:Below w.heap.size w V)=>from_any h (.slice Ah h.parts.length ch) l names links more A An Al Am c cn cl cm B V (HI.out V hV) (HT.out V hV).1 (HT.out V hV).2)
 have HF2:=hid (fun (V:World) (hV:Below w.heap.size w V)=>refFrom_any h Ah ch l names links more A An Al Am c cn cl cm B V (HI.out V hV) hv5 hn4 hl4 (HT.out V hV).1 (HT.out V hV).2)
 unfold FromIs at HF1
 unfold FromIs10 at HF2
 rw [hE0,hm0] at HF1 HF2
 clear hE0 hm0
 go_wp2_with (refine wpList_load_row rfl 24 (.tmp 5) rfl w.heap.size (by rfl) 24 (hcells h (.slice Ah h.parts.length ch)) (0,0) _ H1.out Tryz.underlying24 rfl hdr_size ?_)
 refine (HF1.out W HW.out).mono ?_
 rintro e w1 ⟨pv,ev,rfl,hmi,hb1⟩
 obtain ⟨P1,p1,E1,c1,rfl,rfl,hs1⟩:=sin_of' hmi
 have S1:=hid hs1
 have HW1:=hid (HW.out.trans (hb1.mono HW.out.size))
 have H2:=hid (H1.out.below hb1 hs0)
 have hs01:w.heap.size<w1.heap.size:=Nat.lt_of_lt_of_le hs0 hb1.size
 clear HW H1 hs0 hb1 hmi hs1 HF1
 go_upto_region 2 with (refine wpList_store_row rfl 45 (.tmp 11) (.tmp 23) rfl w1.heap.size (mcells m0 (.slice P1 m0.parts.length p1) (.slice E1 m0.extra.length c1)) (by rfl) (by rfl) 45 (mcells {} (.slice none 0 0) (.slice none 0 0)) (heap_alloc_new w1 _) met_size rfl (mcells_one _ rfl rfl) ?_;rw [World.setRow_alloc_new])
 have G2:=(Below.refl w1.heap.size w1).alloc (Nat.le_refl _) (.cells (mcells m0 (.slice P1 m0.parts.length p1) (.slice E1 m0.extra.length c1)) 45)
 have S2:=hid (S1.out.later G2)
 have M2:=hid (MB.new w1 m0 (.slice P1 m0.parts.length p1) (.slice E1 m0.extra.length c1))
 have HW2:=hid (HW1.out.trans (G2.mono HW1.out.size))
 have H3:=hid (H2.out.below G2 hs01)
 have hs2:w1.heap.size<(w1.alloc (.cells (mcells m0 (.slice P1 m0.parts.length p1) (.slice E1 m0.extra.length c1)) 45)).heap.size:=by rw [World.size_alloc];exact Nat.lt_succ_self _
 clear G2 S1 HW1 H2
 generalize World.alloc w1 _=w2 at*
 obtain ⟨g1,hg1⟩: ∃ g,w1.heap.size=g:=⟨_,rfl⟩
 rw [hg1] at M2 hs2 hs01⊢
 clear hg1
 go_wp2_with (refine wpList_load_row rfl 24 (.tmp 5) rfl w.heap.size (by rfl) 24 (hcells h (.slice Ah h.parts.length ch)) (0,0) _ H3.out Tryz.underlying24 rfl hdr_size ?_)
 refine (HF2.out w2 HW2.out).mono ?_
 rintro e w3 ⟨P3,p3,E3,c3,rfl,hrp,hre,hb3⟩
 have S3:=hid (S2.out.later hb3)
 have T3:=hid (show SIn w3 m0 (.slice P3 m0.parts.length p3) (.slice E3 m0.extra.length c3) from ⟨⟨P3,p3,rfl,hrp⟩,⟨E3,c3,rfl,hre⟩,S2.out.nparts,S2.out.nextra⟩)
 have M3:=hid (M2.out.below hb3 hs2)
 have HW3:=hid (HW2.out.trans (hb3.mono HW2.out.size))
 have hs3:g1<w3.heap.size:=Nat.lt_of_lt_of_le hs2 hb3.size
 clear hrp hre hb3 S2 M2 HW2 H3 hs2 HF2 hs01
 go_upto_region 3 with (refine wpList_store_row rfl 45 (.tmp 13) (.tmp 32) rfl w3.heap.size (mcells m0 (.slice P3 m0.parts.length p3) (.slice E3 m0.extra.length c3)) (by rfl) (by rfl) 45 (mcells {} (.slice none 0 0) (.slice none 0 0)) (heap_alloc_new w3 _) met_size rfl (mcells_one _ rfl rfl) ?_;rw [World.setRow_alloc_new])
 have G4:=(Below.refl w3.heap.size w3).alloc (Nat.le_refl _) (.cells (mcells m0 (.slice P3 m0.parts.length p3) (.slice E3 m0.extra.length c3)) 45)
 have S4:=hid (fun (V:World) (hV:Below (w3.alloc (.cells (mcells m0 (.slice P3 m0.parts.length p3) (.slice E3 m0.extra.length c3)) 45)).heap.size (w3.alloc (.cells (mcells m0 (.slice P3 m0.parts.length p3) (.slice E3 m0.extra.length c3)) 45)) V)=>(S3.out.later G4).later hV)
 have T4:=hid (fun (V:World) (hV:Below (w3.alloc (.cells (mcells m0 (.slice P3 m0.parts.length p3) (.slice E3 m0.extra.length c3)) 45)).heap.size (w3.alloc (.cells (mcells m0 (.slice P3 m0.parts.length p3) (.slice E3 m0.extra.length c3)) 45)) V)=>(T3.out.later G4).later hV)
 have M4:=hid (M3.out.below G4 hs3)
 have N4:=hid (MB.new w3 m0 (.slice P3 m0.parts.length p3) (.slice E3 m0.extra.length c3))
 have hs4:w3.heap.size<(w3.alloc (.cells (mcells m0 (.slice P3 m0.parts.length p3) (.slice E3 m0.extra.length c3)) 45)).heap.size:=by rw [World.size_alloc];exact Nat.lt_succ_self _
 have HW4:=hid (HW3.out.trans (G4.mono HW3.out.size))
 clear G4 S3 T3 M3 HW3
 generalize World.alloc w3 _=w4 at*
 obtain ⟨g2,hg2⟩: ∃ g,w3.heap.size=g:=⟨_,rfl⟩
 rw [hg2] at N4 hs4 hs3⊢
 clear hg2
 go_wp2_with (first
  |(refine wpList_load_row rfl 45 (.tmp 11) rfl g1 (by rfl) 45 (mcells m0 (.slice P1 m0.parts.length p1) (.slice E1 m0.extra.length c1)) (0,0) _ M4.out Tryz.underlying45 rfl met_size ?_)
  |(refine wpList_load_row rfl 45 (.tmp 13) rfl g2 (by rfl) 45 (mcells m0 (.slice P3 m0.parts.length p3) (.slice E3 m0.extra.length c3)) (0,0) _ N4.out Tryz.underlying45 rfl met_size ?_))
 refine (refSelfM m0 P1 P3 E1 E3 p1 p3 c1 c3 w4 (S4.out w4 (Below.refl _ _)) (T4.out w4 (Below.refl _ _))).mono ?_
 rintro e w5 ⟨rfl,hb5⟩
 have M5:=hid (M4.out.below hb5 (by omega))
 have N5:=hid (N4.out.below hb5 hs4)
 have B5:=hid hb5
 clear hb5 M4 N4 hs4 hs3
 have eq0:(((E0:Nat):Int)==((E0:Nat):Int))=true:=by simp
 go_wp2_with (first
  |(rw [hwr.out])
  |(refine wl_load_row2 (by rfl) 45 (.tmp 11) rfl g1 (by rfl) 45 (mcells m0 (.slice P1 m0.parts.length p1) (.slice E1 m0.extra.length c1)) (0,0) _ M5.out Tryz.underlying45 rfl met_size ?_)
  |(refine wl_load_row2 (by rfl) 45 (.tmp 13) rfl g2 (by rfl) 45 (mcells m0 (.slice P3 m0.parts.length p3) (.slice E3 m0.extra.length c3)) (0,0) _ N5.out Tryz.underlying45 rfl met_size ?_))
 refine (selfM m0 P1 P3 E1 E3 p1 p3 c1 c3 w5 (S4.out w5 B5.out) (T4.out w5 B5.out)).mono ?_
 rintro e w6 ⟨rfl,hb6⟩
 go_wp2_with fail
 go_ret
 exact ⟨rfl,HW4.out.trans ((B5.out.trans (hb6.mono B5.out.size)).mono HW4.out.size)⟩
end Go.Proofs.YtjpmpjbembhldaaGreatDoor

/-! MtKnowA -/
namespace Go.Proofs.YtjpmpjbembhldaaGreatDoor
open Go.RowKit Go.Lib
open Px (R2 tl rcs RdR OwnR)
attribute [local go_sem ↓] add_plain
def amS (l:List R2):Nat:=(l.map fun r=>r.1.size+r.2.size).sum
theorem amS_take {l:List R2} {i:Nat} (h:i<l.length):amS (l.take (i+1))=amS (l.take i)+((l[i]).1.size+(l[i]).2.size):=by
 unfold amS
 have e:l.take (i+1)=l.take i++ [l[i]]:=by rw [List.take_add_one,List.getElem?_eq_getElem h];rfl
 rw [e,List.map_append,List.sum_append]
 simp
theorem amS_le: ∀ (l:List R2) (i:Nat),amS (l.take i)≤amS l
 | [],i=>by simp [amS]
 |r::l,0=>by simp [amS]
 |r::l,i+1=>by
  have:=amS_le l i
  unfold amS at*
  simp only [List.take_succ_cons,List.map_cons,List.sum_cons]
  omega
theorem amS_one: ∀ {l:List R2} {r:R2},r∈l→r.1.size+r.2.size≤amS l
 | [],r,h=>by cases h
 |q::l,r,h=>by
  have e:amS (q::l)=(q.1.size+q.2.size)+amS l:=by unfold amS;simp
  rw [e]
  rcases List.mem_cons.1 h with rfl|h
  ·omega
  ·have:=amS_one h
   omega
structure HRaw (w:World) (h:M.Hdr) (hp:Value):Prop where
 parts: ∃ A c,hp= .slice A h.parts.length c∧Sp.RdP w w.heap.size A h.parts.length h.parts
 i64s:Sp.M.i64s h.parts
 kind:0≤h.kind∧h.kind≤255
 ints:isI64 h.mode∧isI64 h.uid∧isI64 h.gid∧isI64 h.major∧isI64 h.minor∧isI64 h.size∧isI64 h.real
theorem fin_of {w0 w:World} {gh:Hd.M.Hdr} {pv0 pv:Value} {rs:List R2} {names links:List ByteArray} {lp:List (Int × Int)} {A An Al Ap:Option Addr} (hi:Hd.HIn w0 gh pv0) (hf:gh.parts.length≤1000)
  (hp: ∃ A c,pv= .slice A gh.parts.length c∧Sp.RdP w w.heap.size A gh.parts.length gh.parts) (hr:RdR w w.heap.size A rs) (h1:rs.length≤12) (h3: ∀ r∈rs,r.1.size≤1048576∧r.2.size≤1048576)
  (hn:RdT w w.heap.size An names) (hl:RdT w w.heap.size Al links) (hnn:names.length≤1048576∧links.length≤1048576) (htn:(∀ x∈names,x.size≤1048576)∧(∀ x∈links,x.size≤1048576)) (hm:Sp.RdP w w.heap.size Ap lp.length lp) (hlp:lp.length≤8) (hip:Sp.M.i64s lp):
  FIn w (um gh) pv rs names links lp A An Al Ap where
 rparts:=hp
 rrecs:=hr
 rnames:=hn
 rlinks:=hl
 rmore:=hm
 nparts:=⟨by show gh.parts.length≤500000;omega,by omega⟩
 nrecs:=by omega
 nnames:=hnn
 fits:=h3
 kind:=hi.kind
 pn:=by show gh.pre.size+gh.name.size<1000000;have:=hi.texts;omega
 texts:=by show gh.link.size≤1048576∧gh.user.size≤1048576∧gh.group.size≤1048576;have:=hi.texts;omega
 tnames:=htn
 ints:=⟨hi.ints.1,hi.ints.2.1,hi.ints.2.2.1,hi.ints.2.2.2.2.2.1,hi.ints.2.2.2.2.2.2.1,hi.ints.2.2.2.1,hi.ints.2.2.2.2.2.2.2⟩
 i64s:=⟨hi.nums,hip⟩
theorem rdT_nil' (w:World) (B:Nat):RdT w B none []:=fun hn=>absurd hn (by simp)
theorem fits_good {rs:List R2} (h:Px.Good rs): ∀ r∈rs,r.1.size≤1048576∧r.2.size≤1048576:=fun r hr=>by
 have:=(h r hr).2.1
 omega
theorem good_v {rs:List R2} (h:Px.Good rs): ∀ r∈rs,r.2.size≤100000:=fun r hr=>by
 have:=(h r hr).2.1
 omega
theorem rdP_nil (w:World) (B:Nat):Sp.RdP w B none 0 []:=by
 exact ⟨rfl,fun h=>absurd h (by omega)⟩
end Go.Proofs.YtjpmpjbembhldaaGreatDoor

/-! MtKnowl -/
namespace Go.Proofs.YtjpmpjbembhldaaGreatDoor
open Go.RowKit Go.Lib
open Px (R2 tl rcs RdR OwnR)
attribute [local go_sem ↓] add_plain
set_option maxRecDepth 100000 in
set_option maxHeartbeats 8000000 in
theorem metaKnows_any (h:M.Hdr) (hp:Value) (A1:Option Addr) (c1:Nat) (l:List R2) (A2 A3 A4:Option Addr) (n2 c2 n3 c3 n4 c4:Nat) (z2 z3 z4:List Int) (A5 A6:Option Addr) (c5 c6:Nat) (names links:List ByteArray) (B:Nat) (w:World)
  (hh:HRaw w h hp) (hr1:RdR w w.heap.size A1 l) (hr2:Hd.Rd w w.heap.size A2 n2 z2) (hc2:n2≤c2) (hcm2:c2≤maxLen) (hr3:Sp.Rd w w.heap.size A3 n3 z3) (hn3:n3≤maxLen) (hr4:Sp.Rd w w.heap.size A4 n4 z4) (hn4:n4≤maxLen)
  (hr5:RdT w w.heap.size A5 names) (hr6:RdT w w.heap.size A6 links) (ht5: ∀ x∈names,x.size≤1048576) (ht6: ∀ x∈links,x.size≤1048576)
  (hamt:l.length+names.length+links.length+h.parts.length+amS l+(h.name.size+h.link.size+h.pre.size+h.user.size+h.group.size)≤4611686018427387904) (hB:B≤w.heap.size) (ht:Sp.EV B w):
  Calls Tryz.prog 3 #[.agg (hcells h hp), .slice A1 l.length c1, .slice A2 n2 c2, .slice A3 n3 c3, .slice A4 n4 c4, .slice A5 names.length c5, .slice A6 links.length c6] w fun e w'=>e= .returned (.bool true)∧Below w.heap.size w w':=by
 obtain ⟨Ah,ch,rfl,hrp⟩:=hh.parts
 have HT:=hid (fun (V:World) (hV:Below w.heap.size w V)=>And.intro (Nat.le_trans hB hV.size) (ht.on (hV.mono hB)))
 have HR1:=hid (fun (V:World) (hV:Below w.heap.size w V)=>(hr1.below hV).more hV.size)
 have HR2:=hid (fun (V:World) (hV:Below w.heap.size w V)=>(hr2.below hV).more hV.size)
 have HR3:=hid (fun (V:World) (hV:Below w.heap.size w V)=>(hr3.below hV).more hV.size)
 have HR4:=hid (fun (V:World) (hV:Below w.heap.size w V)=>(hr4.below hV).more hV.size)
 have HR5:=hid (fun (V:World) (hV:Below w.heap.size w V)=>rdT_later hr5 hV)
 have HR6:=hid (fun (V:World) (hV:Below w.heap.size w V)=>rdT_later hr6 hV)
 have HRP:=hid (fun (V:World) (hV:Below w.heap.size w V)=>(hrp.below hV).more hV.size)
 have HH:=hid hh
 have H1:=hid (HB.new w h (.slice Ah h.parts.length ch))
 have HW:=hid ((Below.refl w.heap.size w).alloc (Nat.le_refl _) (.cells (hcells h (.slice Ah h.parts.length ch)) 24))
 have hs0:w.heap.size<(w.alloc (.cells (hcells h (.slice Ah h.parts.length ch)) 24)).heap.size:=by rw [World.size_alloc];exact Nat.lt_succ_self _
 clear hh hr1 hr2 hr3 hr4 hr5 hr6 hrp hB ht
 go_enter Tryz.func3,Tryz.ntmps3
 go_upto_region 1 with fail
 generalize World.alloc w _=W at*
 have k14:=H1.out.cell (i:=14) (v:= .slice Ah h.parts.length ch) rfl
 obtain ⟨S,hS⟩: ∃ S,l.length+names.length+links.length+h.parts.length=S:=⟨_,rfl⟩
 obtain ⟨X,hX⟩: ∃ X,h.name.size+h.link.size+h.pre.size+h.user.size+h.group.size=X:=⟨_,rfl⟩
 have hSa:S+amS l≤4611686018427387904:=by omega
 have hXa:X≤4611686018427387904:=by omega
 go_upto_region 2 with fail
 have HSS:=hid hS
 have HXX:=hid hX
 clear k14 hamt
 go_wp2_with fail
 go_loopw [15,16] (fun v5 iv wr=> ∃ i:Nat,iv= .int .i64 i∧v5= .int .i64 ((S+amS (l.take i):Nat):Int)∧i≤l.length∧Hid (Below W.heap.size W wr)) (fun _ iv _=>l.length - (intOf iv).toNat)
 case atStart=>exact ⟨0,rfl,by have h:=HSS.out;show _=Value.int .i64 ((S+0:Nat):Int);rw [←h];simp,Nat.zero_le _,hid (Below.refl _ _)⟩
 case round=>
  obtain ⟨i,rfl,rfl,hi,HB⟩:=hrel
  have htk:=amS_le l i
  by_cases hlt:i<l.length
  ·obtain ⟨b,off,rfl,hbb,hc1,hc2⟩:=(HR1.out W HW.out).at_ hlt
   have hnx:=amS_take hlt
   have htk2:=amS_le l (i+1)
   obtain ⟨r,hr⟩: ∃ r,l[i]=r:=⟨_,rfl⟩
   rw [hr] at hc1 hc2 hnx
   obtain ⟨a0,ha0⟩: ∃ a,amS (l.take i)=a:=⟨_,rfl⟩
   rw [hnx,ha0] at htk2
   have HNX:=hid hnx
   have HA0:=hid ha0
   rw [ha0] at htk⊢
   have x1:=(HB.out.cell (p:=⟨b,off+i*2,none⟩) hbb).trans hc1
   have x2:=(HB.out.cell (p:=⟨b,off+i*2+1,none⟩) hbb).trans hc2
   obtain ⟨q1,hq1⟩: ∃ n,r.1.size=n:=⟨_,rfl⟩
   obtain ⟨q2,hq2⟩: ∃ n,r.2.size=n:=⟨_,rfl⟩
   clear hnx ha0 hr hc1 hc2
   go_wp2_with fail
   go_quiet (fail)
   go_wp2_with fail
   go_roundw
   case rel=>exact ⟨i+1,by go_num,by rw [HNX.out,HA0.out];go_num,by omega,hid (Px.below_drewN' HB.out _)⟩
   case measure=>simp [intOf];omega
  ·obtain rfl:i=l.length:=by omega
   rw [List.take_length]
   rw [List.take_length] at htk
   have HWB:=hid (HW.out.trans (HB.out.mono HW.out.size))
   have HMB:=hid (H1.out.below HB.out hs0)
   have hwr:w.heap.size<wr.heap.size:=Nat.lt_of_lt_of_le hs0 HB.out.size
   obtain ⟨N,hN⟩: ∃ N,S+amS l=N:=⟨_,rfl⟩
   rw [hN] at hSa⊢
   have HNN:=hid hN
   clear hN htk hs0 HB H1 HW hlt
   have k0:=HMB.out.cell (i:=0) (v:= .string h.name) rfl
   have k7:=HMB.out.cell (i:=7) (v:= .string h.link) rfl
   have k13:=HMB.out.cell (i:=13) (v:= .string h.pre) rfl
   have k9:=HMB.out.cell (i:=9) (v:= .string h.user) rfl
   have k10:=HMB.out.cell (i:=10) (v:= .string h.group) rfl
   by_cases h6:300<N
   ·have d6:decide (300<N)=true:=by rw [decide_eq_true_eq];exact h6
    have d7:decide ((N:Int)>300)=true:=by rw [decide_eq_true_eq];omega
    clear h6
    go_wp2_with fail
    (with_reducible refine (known_any B wr (HT.out _ HWB.out).1 (HT.out _ HWB.out).2).mono ?_)
    rintro e w2 ⟨rfl,b2⟩
    go_wp2_with fail
    go_ret
    exact ⟨rfl,HWB.out.trans (b2.mono HWB.out.size)⟩
   ·have d6:decide (300<N)=false:=by rw [decide_eq_false_iff_not];exact h6
    have d7:decide ((N:Int)>300)=false:=by rw [decide_eq_false_iff_not];omega
    by_cases h7:600<X
    ·have y6:decide (600<X)=true:=by rw [decide_eq_true_eq];exact h7
     have y7:decide ((X:Int)>600)=true:=by rw [decide_eq_true_eq];omega
     go_wp2_with fail
     all_goals (try (exfalso;have hx3:=HXX.out;omega))
     (with_reducible refine (known_any B wr (HT.out _ HWB.out).1 (HT.out _ HWB.out).2).mono ?_)
     rintro e w2 ⟨rfl,b2⟩
     go_wp2_with fail
     go_ret
     exact ⟨rfl,HWB.out.trans (b2.mono HWB.out.size)⟩
    ·have y6:decide (600<X)=false:=by rw [decide_eq_false_iff_not];exact h7
     have y7:decide ((X:Int)>600)=false:=by rw [decide_eq_false_iff_not];omega
     have hs1:=HSS.out
     have hs2:=HNN.out
     have hs3:=HXX.out
     have hx300:l.length≤300∧names.length≤300∧links.length≤300∧h.parts.length≤300∧amS l≤300:=by omega
     have hx600:h.name.size≤600∧h.link.size≤600∧h.pre.size≤600∧h.user.size≤600∧h.group.size≤600:=by omega
     have hfit: ∀ r∈l,r.1.size≤300∧r.2.size≤300:=fun r hr=>by have:=amS_one hr;omega
     have H300:=hid hx300
     have H600:=hid hx600
     have HFT:=hid hfit
     clear h6 hs1 hs2 hs3 hx300 hx600 hfit HSS HNN hSa hXa
     go_wp2_with fail
     all_goals (try (exfalso;have hx3:=HXX.out;omega))
     (with_reducible refine (known_any B wr (HT.out _ HWB.out).1 (HT.out _ HWB.out).2).mono ?_)
     rintro e w2 ⟨rfl,b2⟩
     have HW2:=hid (HWB.out.trans (b2.mono HWB.out.size))
     have HM2:=hid (HMB.out.below b2 hwr)
     have hs2:w.heap.size<w2.heap.size:=Nat.lt_of_lt_of_le hwr b2.size
     clear HWB HMB b2 hwr
     go_wp2_with fail
     all_goals (try (exfalso;have hx3:=HXX.out;omega))
     clear k0 k7 k13 k9 k10 h7 HXX y6 y7
     refine (Hd.header_any A2 n2 c2 z2 w2 (HR2.out w2 HW2.out) hc2 hcm2).mono ?_
     rintro e w3 ⟨gh,pv,rfl,hin,hfew,hway,b3⟩
     obtain ⟨Ag,cg,rfl,hpg⟩:=rdP_of hin.parts
     have HIN:=hid hin
     have HPG:=hid hpg
     have HW3:=hid (HW2.out.trans (b3.mono HW2.out.size))
     have HM3:=hid (HM2.out.below b3 hs2)
     have hs3:w.heap.size<w3.heap.size:=Nat.lt_of_lt_of_le hs2 b3.size
     clear b3 HW2 HM2 hs2 hin hpg hway HR2
     go_upto_region 9 with (refine wpList_store_row rfl 24 (.tmp 17) (.tmp 84) rfl w3.heap.size (hcells (um gh) (.slice Ag gh.parts.length cg)) (by rfl) (by rfl) 24 (hcells {} (.slice none 0 0)) (heap_alloc_new w3 _) hdr_size rfl (hcells_one _ rfl) ?_;rw [World.setRow_alloc_new])
     have G4:=(Below.refl w3.heap.size w3).alloc (Nat.le_refl _) (.cells (hcells (um gh) (.slice Ag gh.parts.length cg)) 24)
     have HPG4:=hid ((HPG.out.below G4).more G4.size)
     have HW4:=hid (HW3.out.trans (G4.mono HW3.out.size))
     have HM4:=hid (HM3.out.below G4 hs3)
     have X4:=hid (HB.new w3 (um gh) (.slice Ag gh.parts.length cg))
     have hs4:w3.heap.size<(w3.alloc (.cells (hcells (um gh) (.slice Ag gh.parts.length cg)) 24)).heap.size:=by rw [World.size_alloc];exact Nat.lt_succ_self _
     clear G4 HPG HW3 HM3
     generalize World.alloc w3 _=w4 at*
     obtain ⟨gk,hgk⟩: ∃ g,w3.heap.size=g:=⟨_,rfl⟩
     rw [hgk] at X4 hs4 hs3⊢
     clear hgk
     go_wp2_with fail
     refine (Sp.lawParts_any A4 n4 c4 z4 w4 (HR4.out w4 HW4.out) hn4).mono ?_
     rintro e w5 ⟨v5,lp,np,ap,rfl,ho5,hfw,b5⟩
     obtain ⟨Ap,cp,rfl,hrp5,_⟩:=ho5.rd
     have HLP:=hid hrp5
     have HPG5:=hid ((HPG4.out.below b5).more b5.size)
     have HW5:=hid (HW4.out.trans (b5.mono HW4.out.size))
     have HM5:=hid (HM4.out.below b5 (by omega))
     have X5:=hid (X4.out.below b5 hs4)
     have hs5:gk<w5.heap.size:=Nat.lt_of_lt_of_le hs4 b5.size
     have hs6:w.heap.size<w5.heap.size:=Nat.lt_trans hs3 hs5
     have HLN:=hid (And.intro hfw.len hfw.i64)
     clear b5 HPG4 HW4 HM4 X4 hs4 hs3 ho5 hrp5 hfw HR4
     have D0:=hid (fun (V:World) (hV:Below w5.heap.size w5 V)=>HM5.out.below hV hs6)
     have D1:=hid (fun (V:World) (hV:Below w5.heap.size w5 V)=>X5.out.below hV hs5)
     have DN:=hid (fun (V:World) (hV:Below w5.heap.size w5 V)=>HW5.out.trans (hV.mono HW5.out.size))
     have DP:=hid (fun (V:World) (hV:Below w5.heap.size w5 V)=>(HLP.out.below hV).more hV.size)
     have DG:=hid (fun (V:World) (hV:Below w5.heap.size w5 V)=>(show ∃ A c,(Value.slice Ag gh.parts.length cg)= .slice A gh.parts.length c∧Sp.RdP V V.heap.size A gh.parts.length gh.parts from ⟨Ag,cg,rfl,(HPG5.out.below hV).more hV.size⟩))
     have K1:=hid (fun (V:World) (hV:Below w5.heap.size w5 V)=>knows_any h Ah ch l names links lp A1 A5 A6 Ap c1 c5 c6 cp B V
      ⟨⟨Ah,ch,rfl,HRP.out V (DN.out V hV)⟩,HR1.out V (DN.out V hV),HR5.out V (DN.out V hV),HR6.out V (DN.out V hV),DP.out V hV,⟨by have:=H300.out;omega,by have:=HLN.out.1;omega⟩,by have:=H300.out;omega,by have:=H300.out;omega,
        fun r hr=>(by have:=HFT.out r hr;omega),HH.out.kind,by have:=H600.out;omega,by have:=H600.out;omega,⟨ht5,ht6⟩,HH.out.ints,⟨HH.out.i64s,HLN.out.2⟩⟩
      (fun r hr=>(by have:=HFT.out r hr;omega)) ⟨by have:=H300.out;omega,by have:=HLN.out.1;omega⟩ (by have:=H300.out;omega) (HT.out V (DN.out V hV)).1 (HT.out V (DN.out V hV)).2)
     go_upto_region 10 with fail
     refine wp_region_held_drew (S:=fun V=>Below w5.heap.size w5 V) (by kernel_rfl) (below_drew' (Below.refl _ _)) (fun hS=> ?_)
     refine tkH 0 hS ?_ (v:= .agg (hcells h (.slice Ah h.parts.length ch))) (hy:=fun W hW=>by exact run_row 24 (.tmp 7) rfl w.heap.size (by rfl) 24 _ (0,0) _ (D0.out W hW) Tryz.underlying24 rfl hdr_size)
     refine tkH 1 hS ?_
     refine tkH 2 hS ?_
     refine tkH 3 hS ?_
     refine tkH 4 hS ?_
     generalize hV6:w5.drew=V6 at*
     refine loneH (i:=5) 96 rfl rfl (by kernel_rfl) (by rfl) (fun K hK=> ?_)
     go_simp
     go_at_call 7
     refine (K1.out _ hS).mono ?_
     rintro e w7 ⟨rfl,b7⟩
     have B7:=hid (hS.trans (b7.mono hS.size))
     clear hS
     refine hK.out _ _ B7.out (fun hS=> ?_)
     clear hK K
     try simp only [NM]
     clear K1
     refine tkH 6 hS ?_
     refine tkH 7 hS ?_ (v:= .agg (hcells (um gh) (.slice Ag gh.parts.length cg))) (hy:=fun W hW=>by exact run_row 24 (.tmp 17) rfl gk (by rfl) 24 _ (0,0) _ (D1.out W hW) Tryz.underlying24 rfl hdr_size)
     refine tkH 8 hS ?_
     refine tkH 10 hS ?_
     refine loneH (i:=9) 100 rfl rfl (by kernel_rfl) (by rfl) (fun K hK=> ?_)
     go_simp
     go_at_call 8
     refine (recs_any A3 n3 c3 z3 hn3 _ (HR3.out _ (DN.out _ hS))).mono ?_
     rintro e w8 ⟨Ar,cr,rs,rfl,hrr,hrc,hr12,hr100,b8⟩
     have B8:=hid (hS.trans (b8.mono hS.size))
     have HRR:=hid hrr
     have HRS:=hid hr100
     clear hS hrr hr100 b8
     refine hK.out _ _ B8.out (fun hS=> ?_)
     clear hK K
     try simp only [NM]
     refine wpAnyH_narrow (S':=fun V=>Below w8.heap.size w8 V) (fun V h=>B8.out.trans (h.mono B8.out.size)) _ _ _ _ ?_
     clear hS
     have hS:=(Below.refl w8.heap.size w8)
     refine loneH (i:=11) 102 rfl rfl (by kernel_rfl) (by rfl) (fun K hK=> ?_)
     go_simp
     go_at_call 7
     refine (knows_any (um gh) Ag cg rs [] [] lp Ar none none Ap cr 0 0 cp B w8
      (fin_of HIN.out hfew (DG.out w8 B8.out) HRR.out hr12 (fun r hr=>(by have:=HRS.out r hr;omega)) (rdT_nil' _ _) (rdT_nil' _ _) ⟨Nat.zero_le _,Nat.zero_le _⟩ ⟨(fun x hx=>nomatch hx),(fun x hx=>nomatch hx)⟩ (DP.out w8 B8.out) HLN.out.1 HLN.out.2)
      (fun r hr=>(by have:=HRS.out r hr;omega)) ⟨Nat.le_trans hfew (by decide),by have:=HLN.out.1;omega⟩ (by omega) (HT.out w8 (DN.out w8 B8.out)).1 (HT.out w8 (DN.out w8 B8.out)).2).mono ?_
     rintro e w9 ⟨rfl,b9⟩
     have B9:=hid b9
     have C9:=hid (B8.out.trans (b9.mono B8.out.size))
     clear hS b9
     refine hK.out _ _ B9.out (fun hS=> ?_)
     clear hK K
     try simp only [NM]
     refine tkH 12 hS ?_
     refine tkH 13 hS ?_
     refine wpAnyH_narrow (S':=fun V=>Below w9.heap.size w9 V) (fun V h=>B9.out.trans (h.mono B9.out.size)) _ _ _ _ ?_
     clear hS
     have hS:=(Below.refl w9.heap.size w9)
     refine tkH 14 hS ?_ (v:= .agg (hcells (um gh) (.slice Ag gh.parts.length cg))) (hy:=fun W hW=>by exact run_row 24 (.tmp 17) rfl gk (by rfl) 24 _ (0,0) _ (D1.out W (C9.out.trans (hW.mono C9.out.size))) Tryz.underlying24 rfl hdr_size)
     refine tkH 15 hS ?_
     refine tkH 17 hS ?_
     refine tkH 18 hS ?_
     refine loneH (i:=16) 107 rfl rfl (by kernel_rfl) (by rfl) (fun K hK=> ?_)
     go_simp
     go_at_call 9
     refine (Px.recs_any A3 n3 c3 z3 4 (by decide) hn3 w9 (HR3.out _ (DN.out _ C9.out))).mono ?_
     rintro e w10 ⟨As,cs,ss,rfl,hss,hsc,hscm,hs4,hgood,b10,hown⟩
     have B10:=hid b10
     have C10:=hid (C9.out.trans (b10.mono C9.out.size))
     have HSS2:=hid hss
     have HGS:=hid (fits_good hgood)
     have HG5:=hid (good_v hgood)
     clear hS hss hown b10 hgood
     refine hK.out _ _ B10.out (fun hS=> ?_)
     clear hK K
     try simp only [NM]
     refine wpAnyH_narrow (S':=fun V=>Below w10.heap.size w10 V) (fun V h=>B10.out.trans (h.mono B10.out.size)) _ _ _ _ ?_
     clear hS
     have hS:=(Below.refl w10.heap.size w10)
     refine loneH (i:=19) 110 rfl rfl (by kernel_rfl) (by rfl) (fun K hK=> ?_)
     go_simp
     go_at_call 7
     refine (knows_any (um gh) Ag cg ss names links [] As A5 A6 none cs c5 c6 0 B w10
      (fin_of HIN.out hfew (DG.out w10 C10.out) HSS2.out (by omega) HGS.out (HR5.out w10 (DN.out w10 C10.out)) (HR6.out w10 (DN.out w10 C10.out)) (by have:=H300.out;omega) ⟨ht5,ht6⟩ (rdP_nil w10 _) (Nat.zero_le _) (fun q hq=>nomatch hq))
      HG5.out ⟨Nat.le_trans hfew (by decide),Nat.zero_le _⟩ (by omega) (HT.out w10 (DN.out w10 C10.out)).1 (HT.out w10 (DN.out w10 C10.out)).2).mono ?_
     rintro e w11 ⟨rfl,b11⟩
     have B11:=hid b11
     have C11:=hid (C10.out.trans (b11.mono C10.out.size))
     clear hS b11
     refine hK.out _ _ B11.out (fun hS=> ?_)
     clear hK K
     try simp only [NM]
     refine tkH 20 hS ?_
     refine tkH 21 hS ?_
     refine wpAnyH_done (by kernel_rfl) ?_ _
     try simp only [NM]
     go_wp2_with fail
     go_ret
     exact ⟨rfl,DN.out _ C11.out⟩
end Go.Proofs.YtjpmpjbembhldaaGreatDoor

/-! MtRowM -/
namespace Go.Proofs.YtjpmpjbembhldaaGreatDoor
open Go.RowKit Go.WideShapes Go.ChangeShapes
section
variable {H:Type} {enc:TypeId × Value→H} {P:Program}
theorem post_of_below {f:Func} {s:ChangeSpec} {apart fresh handsOn again:Bool} {W W':World} {args:Array Value} {v:Value} {ds gs:List (DataW H)} {before pa pv:List MemPlace}
  (hW:DataW.Whole enc P f.params.toList s.vars apart W args.toList ds gs before)
  (hres: ∀ (b:Nat) (sp:Nat→Bool) (hd:Bool),DataW.TrodAll enc P W' b sp hd f.resultTypes.toList (v.resultList f.resultTypes.size) (s.fn H (ds++gs)).results [])
  (hargs: ∀ sp:Nat→Bool,(∀ p∈before,sp p.block=true)→DataW.TrodAll enc P W' 0 sp true f.params.toList args.toList (s.fn H (ds++gs)).args pa)
  (hvars: ∀ sp:Nat→Bool,(∀ p∈before,sp p.block=true)→DataW.TrodVars enc P W' sp s.vars (s.fn H (ds++gs)).vars pv)
  (hps:before=pa++pv) (hb:Below W.heap.size W W')
  (hok: ∀ (j:Nat) (t:TypeId) (r:Value),f.resultTypes[j]?=some t→(v.resultList f.resultTypes.size)[j]?=some r→Value.okWide P W' .any 0 t r):
  s.post enc P f apart fresh handsOn again W args v W':=by
 have hlt: ∀ p∈before,p.block<W.heap.size:=fun p hp=>hW.lt p hp
 have hold: ∀ p∈before,(fun b=>decide (b<W.heap.size)) p.block=true:=fun p hp=>by simpa using hlt p hp
 refine ⟨ds,gs,before, [],pa,pv,hW,hres _ _ _,hargs _ hold,hvars _ hold,World.keptBut_mono (fun p hp=>⟨hp, ?_⟩) (hb.frame (·∈before)),fun _=> ?_⟩
 ·rw [hps,List.mem_append] at hp
  exact Or.inr hp
 ·obtain ⟨_,_,_,_,_,hz,hn⟩:=hW
  refine ⟨hok,_,_,([]++pa)++pv,⟨[]++pa,pv,trodAll_append (hargs _ (fun _ _=>rfl)) (hres _ _ _),hvars _ (fun _ _=>rfl),rfl, ?_, ?_⟩, ?_⟩
  ·intro b off hp
   have hin:MemPlace.cell b off∈before:=by rw [hps];simpa using hp
   rw [hb.frozen (hlt _ hin)]
   exact hz b off hin
  ·intro ha
   have:=hn ha
   rw [hps] at this
   simpa using this
  ·intro p hp _
   rw [hps]
   simpa using hp
end
theorem rd_of_row {w:World} {a:Option Addr} {len cap:Nat} {zs:List Int}
  (h:(a=none∧len=0∧cap=0∧zs= [])∨
   ∃ x,a=some x∧len≤cap∧cap≤maxLen∧zs.length=cap∧(∀ i,i<zs.length→w.cell? (x.add i)=some (.int .u8 (zs.getD i 0)))∧ ∀ n∈zs,(Lit.int .u8 n).wf=true):
  Sp.Rd w w.heap.size a len (zs.take len)∧len≤cap∧cap≤maxLen:=by
 rcases h with ⟨rfl,rfl,rfl,rfl⟩|⟨x,rfl,hl,hm,hz,hcell,hwz⟩
 ·exact ⟨Sp.Rd.none_,Nat.le_refl _,Nat.zero_le _⟩
 ·refine ⟨⟨by rw [List.length_take];omega,fun z hz'=>bounds_u8 (hwz z (List.mem_of_mem_take hz')),fun hn=> ?_⟩,hl,hm⟩
  obtain ⟨b,off,spot⟩:=x
  have hc:=hcell 0 (by omega)
  have hspot:spot=none:=by simpa [Addr.add] using World.cell?_spot hc
  subst hspot
  have hb:b<w.heap.size:=by
   have hc':=hc
   rw [show (⟨b,off,none⟩:Addr).add 0=⟨b,off,none⟩ from by simp [Addr.add]] at hc'
   exact World.block_lt_of_cell? _ _ hc'
  refine ⟨b,off,rfl,hb,fun j z hj=> ?_⟩
  rw [List.getElem?_take] at hj
  split at hj
  ·rename_i hjl
   have hjz:j<zs.length:=by omega
   have hcj:=hcell j hjz
   have e:(⟨b,off,none⟩:Addr).add j=⟨b,off+j,none⟩:=by
    unfold Addr.add
    split
    ·rename_i h0
     subst h0
     rfl
    ·rfl
   rw [e,List.getD_eq_getElem?_getD,hj] at hcj
   exact hcj
  ·cases hj
abbrev EV (B:Nat) (w:World):Prop:=Sp.EV B w
theorem star_: "*" ++ "errors.errorString" = "*errors.errorString" :=by decide
theorem ev_of (w:World) (laid:List (String × DataW Unit)) (a b c:String × DataW Unit) (t1 t2:List UInt8) (rest:List (String × DataW Unit))
  (hl:laid=a::b::("internal/strconv.uint64pow10",Lib.tabData .u64 Lib.pow10Tab)::c::("strconv.ErrRange", .iface "*errors.errorString" (.ptr (.agg [.lit (.string t1)])))::("strconv.ErrSyntax", .iface "*errors.errorString" (.ptr (.agg [.lit (.string t2)])))::rest)
  (hn:(laid.all fun x=>x.2.handleName?.isNone)=true) (h:laidMetH Tryz.prog laid w):EV w.heap.size w:=by
 rw [MakeChecks.laidMetH_plain _ _ _ hn,hl] at h
 have h2:=laidMet.tail (laidMet.tail h)
 have h4:=laidMet.tail (laidMet.tail h2)
 have h5:=laidMet.tail h4
 have hrow: ∀ u,Tryz.prog.typeName? 3 u=some "*errors.errorString" →u=238:=fun u h=>
  typeName_ptr_named (nm:= "errors.errorString") (by rw [star_];kernel_rfl) (by kernel_rfl) (by decide) u (by rw [star_];exact h)
 obtain ⟨a1,s1,hv1,_⟩:=laid_sentinel h4 (g:=3) (ti:=152) (tp:=238) (te:=240) (ts:=9) (by kernel_rfl) (by kernel_rfl) Tryz.underlying152 hrow Tryz.underlying238 Tryz.underlying240 rfl rfl Tryz.underlying9 (by kernel_rfl) (by kernel_rfl)
 obtain ⟨a2,s2,hv2,_⟩:=laid_sentinel h5 (g:=2) (ti:=152) (tp:=238) (te:=240) (ts:=9) (by kernel_rfl) (by kernel_rfl) Tryz.underlying152 hrow Tryz.underlying238 Tryz.underlying240 rfl rfl Tryz.underlying9 (by kernel_rfl) (by kernel_rfl)
 have c1:=World.var?_cell (g:=3) (by kernel_rfl) hv1 0
 have c2:=World.var?_cell (g:=2) (by kernel_rfl) hv2 0
 exact ⟨Lib.tabBelow_of_tabIs (Lib.tabIs_of_head (g:=0) (by kernel_rfl) (by kernel_rfl) Tryz.underlying194 Tryz.underlying174 (by kernel_rfl) (by kernel_rfl) h2),
  ⟨World.block_lt_of_cell? _ _ c2,_,_,c2⟩,⟨World.block_lt_of_cell? _ _ c1,_,_,c1⟩⟩
end Go.Proofs.YtjpmpjbembhldaaGreatDoor
namespace Go.Proofs.YtjpmpjbembhldaaGreatDoor
open Go.RowKit Go.WideShapes Go.ChangeShapes Go.Deep Go.Joins
open Px (R2)
theorem add_plain' (b off n:Nat):Addr.add ⟨b,off,none⟩ n=⟨b,off+n,none⟩:=by
 unfold Addr.add
 split
 ·rename_i h;subst h;rfl
 ·rfl
theorem open_parts {H:Type} {enc:TypeId × Value→H} {W:World} {A:Option Addr} {n c:Nat} {d:DataW H} {p:List MemPlace} (h:DataW.Trod enc Tryz.prog W 0 (fun _=>true) true 22 (.slice A n c) d p):
  ∃ l:List (Int × Int),Sp.RdP W W.heap.size A n l∧Sp.M.i64s l∧n≤maxLen:=by
 obtain ⟨fuel,hf⟩:=h
 rcases open_slice_pairs Tryz.underlying22 Tryz.underlying52 (by kernel_rfl) rfl rfl (by kernel_rfl) (by kernel_rfl) hf with ⟨hcs,hx⟩|⟨a,len,cap,m,n',V0,V1,D0,D1,P0,P1,hcs,_,hl,hm,hmm,hx,hi⟩
 ·simp [Value.cells] at hcs
  obtain ⟨rfl,rfl,rfl⟩:=hcs
  exact ⟨[],Sp.RdP.none_,(fun p hp=>absurd hp (by simp)),Nat.zero_le _⟩
 ·simp [Value.cells] at hcs
  obtain ⟨rfl,rfl,rfl⟩:=hcs
  have hm':m=c:=by simpa using hmm
  have hs: ∀ i,i<n→ ∃ q:Int × Int,W.cell? (a.add (i*2))=some (.int .i64 q.1)∧W.cell? (a.add (i*2+1))=some (.int .i64 q.2)∧(Lit.int .i64 q.1).wf=true∧(Lit.int .i64 q.2).wf=true:=by
   intro i hin
   obtain ⟨hc0,hc1,ht0,ht1⟩:=hi i (by omega)
   obtain ⟨s,e0,_,w0⟩:=DataW.trod_int Tryz.underlying3 ht0
   obtain ⟨t,e1,_,w1⟩:=DataW.trod_int Tryz.underlying3 ht1
   injection e0 with e0
   injection e1 with e1
   exact ⟨(s,t),by rw [hc0,e0],by rw [hc1,e1],w0,w1⟩
  obtain ⟨S,hS⟩:=choose_lt hs
  refine ⟨(List.range n).map S,⟨by simp,fun hn=> ?_⟩, ?_,Nat.le_trans hl hm⟩
  ·obtain ⟨b,off,spot⟩:=a
   have hc:=(hS 0 hn).1
   have hspot:spot=none:=by simpa [Addr.add] using World.cell?_spot hc
   subst hspot
   have hadd: ∀ k:Nat,(⟨b,off,none⟩:Addr).add k=⟨b,off+k,none⟩:=by
    intro k
    unfold Addr.add
    split
    ·rename_i h0;subst h0;rfl
    ·rfl
   have hb:b<W.heap.size:=by
    have hc':=hc
    rw [hadd] at hc'
    exact World.block_lt_of_cell? _ _ hc'
   refine ⟨b,off,rfl,hb,fun k r hr=> ?_⟩
   obtain ⟨hk,hr⟩:=List.getElem?_eq_some_iff.1 hr
   have hkn:k<n:=by simpa using hk
   simp only [List.getElem_map,List.getElem_range] at hr
   subst hr
   obtain ⟨g0,g1,_,_⟩:=hS k hkn
   rw [hadd] at g0 g1
   exact ⟨g0,by rw [Nat.add_assoc];exact g1⟩
  ·intro q hq
   obtain ⟨i,hin,rfl⟩:=List.mem_map.1 hq
   obtain ⟨_,_,w0,w1⟩:=hS i (List.mem_range.1 hin)
   exact ⟨bounds_i64 w0,bounds_i64 w1⟩
theorem open_recs {H:Type} {enc:TypeId × Value→H} {W:World} {A:Option Addr} {n c:Nat} {d:DataW H} {p:List MemPlace} (h:DataW.Trod enc Tryz.prog W 0 (fun _=>true) true 25 (.slice A n c) d p):
  ∃ l:List R2,l.length=n∧Px.RdR W W.heap.size A l∧n≤maxLen:=by
 obtain ⟨fuel,hf⟩:=h
 rcases open_slice_pairs Tryz.underlying25 Tryz.underlying29 (by kernel_rfl) rfl rfl (by kernel_rfl) (by kernel_rfl) hf with ⟨hcs,hx⟩|⟨a,len,cap,m,n',V0,V1,D0,D1,P0,P1,hcs,_,hl,hm,hmm,hx,hi⟩
 ·simp [Value.cells] at hcs
  obtain ⟨rfl,rfl,rfl⟩:=hcs
  exact ⟨[],rfl,Px.RdR.none_,Nat.zero_le _⟩
 ·simp [Value.cells] at hcs
  obtain ⟨rfl,rfl,rfl⟩:=hcs
  have hm':m=c:=by simpa using hmm
  have hs: ∀ i,i<n→ ∃ q:ByteArray × ByteArray,W.cell? (a.add (i*2))=some (.string q.1)∧W.cell? (a.add (i*2+1))=some (.string q.2)∧D0 i= .lit (.string q.1.data.toList)∧D1 i= .lit (.string q.2.data.toList):=by
   intro i hin
   obtain ⟨hc0,hc1,ht0,ht1⟩:=hi i (by omega)
   obtain ⟨s,e0,x0,_⟩:=DataW.trod_string Tryz.underlying9 ht0
   obtain ⟨t,e1,x1,_⟩:=DataW.trod_string Tryz.underlying9 ht1
   injection e0 with e0
   injection e1 with e1
   simp only [Prod.mk.injEq] at x0 x1
   exact ⟨(s,t),by rw [hc0,e0],by rw [hc1,e1],x0.1,x1.1⟩
  obtain ⟨S,hS⟩:=choose_lt hs
  refine ⟨(List.range n).map fun i=>((S i).1,(S i).2),by simp,fun hn=> ?_, ?_⟩
  ·have hn':0<n:=by simpa using hn
   obtain ⟨b,off,spot⟩:=a
   have hc:=(hS 0 hn').1
   have hspot:spot=none:=by simpa [Addr.add] using World.cell?_spot hc
   subst hspot
   have hb:b<W.heap.size:=by
    have hc':=hc
    rw [add_plain'] at hc'
    exact World.block_lt_of_cell? _ _ hc'
   refine ⟨b,off,rfl,hb,fun k r hr=> ?_⟩
   obtain ⟨hk,hr⟩:=List.getElem?_eq_some_iff.1 hr
   have hkn:k<n:=by simpa using hk
   simp only [List.getElem_map,List.getElem_range] at hr
   subst hr
   obtain ⟨g0,g1,_,_⟩:=hS k hkn
   rw [add_plain'] at g0 g1
   exact ⟨g0,by rw [Nat.add_assoc];exact g1⟩
  ·exact Nat.le_trans hl hm
theorem array17 {α:Type} {cs:Array α} (h:cs.size=17): ∃ c0 c1 c2 c3 c4 c5 c6 c7 c8 c9 c10 c11 c12 c13 c14 c15 c16,cs= #[c0,c1,c2,c3,c4,c5,c6,c7,c8,c9,c10,c11,c12,c13,c14,c15,c16]:=by
 obtain ⟨l⟩:=cs
 match l,h with
 | [c0,c1,c2,c3,c4,c5,c6,c7,c8,c9,c10,c11,c12,c13,c14,c15,c16],_=>exact ⟨c0,c1,c2,c3,c4,c5,c6,c7,c8,c9,c10,c11,c12,c13,c14,c15,c16,rfl⟩
theorem cells_meta:Tryz.prog.cellsOf 45=17:=by kernel_rfl
theorem cells_str:Tryz.prog.cellsOf 9=1:=by kernel_rfl
theorem cells_int:Tryz.prog.cellsOf 3=1:=by kernel_rfl
theorem cells_u8:Tryz.prog.cellsOf 5=1:=by kernel_rfl
theorem cells_bool:Tryz.prog.cellsOf 4=1:=by kernel_rfl
theorem cells_time:Tryz.prog.cellsOf 43=2:=by kernel_rfl
theorem cells_parts:Tryz.prog.cellsOf 22=1:=by kernel_rfl
theorem cells_recs:Tryz.prog.cellsOf 25=1:=by kernel_rfl
set_option maxRecDepth 100000 in
set_option maxHeartbeats 4000000 in
theorem open_meta {H:Type} {enc:TypeId × Value→H} {W:World} {b0:Nat} {v:Value} {d:DataW H} {p:List MemPlace} (hv:Value.okWide Tryz.prog W .any b0 45 v) (h:DataW.Trod enc Tryz.prog W 0 (fun _=>true) true 45 v d p):
  ∃ (m:M.Met) (P E:Option Addr) (pc ec:Nat),v= .agg (mcells m (.slice P m.parts.length pc) (.slice E m.extra.length ec))∧Sp.RdP W W.heap.size P m.parts.length m.parts∧Px.RdR W W.heap.size E m.extra∧m.parts.length≤maxLen∧m.extra.length≤maxLen:=by
 obtain ⟨cs,rfl,hsz⟩:=okWide_struct Tryz.underlying45 hv
 obtain ⟨c0,c1,c2,c3,c4,c5,c6,c7,c8,c9,c10,c11,c12,c13,c14,c15,c16,rfl⟩:=array17 (hsz.trans cells_meta)
 obtain ⟨fuel,hf⟩:=h
 obtain ⟨xs,n,_,hx,_,hlen,hf⟩:=DataW.trod_struct Tryz.underlying45 hf
 have at_: ∀ i (hi:i<16),∃ y,xs[i]?=some y:=fun i hi=>⟨xs[i]'(by rw [hlen];exact hi),List.getElem?_eq_getElem _⟩
 obtain ⟨y0,hy0⟩:=at_ 0 (by decide)
 have h0:DataW.trod enc Tryz.prog W 0 (fun _=>true) true n 9 (([c0,c1,c2,c3,c4,c5,c6,c7,c8,c9,c10,c11,c12,c13,c14,c15,c16].drop 0).take (Tryz.prog.cellsOf 9))=some y0:=(hf 0 _ rfl).trans hy0
 rw [cells_str] at h0
 replace h0:DataW.trod enc Tryz.prog W 0 (fun _=>true) true n 9 [c0]=some y0:=h0
 obtain ⟨y1,hy1⟩:=at_ 1 (by decide)
 have h1:DataW.trod enc Tryz.prog W 0 (fun _=>true) true n 9 (([c0,c1,c2,c3,c4,c5,c6,c7,c8,c9,c10,c11,c12,c13,c14,c15,c16].drop 1).take (Tryz.prog.cellsOf 9))=some y1:=(hf 1 _ rfl).trans hy1
 rw [cells_str] at h1
 replace h1:DataW.trod enc Tryz.prog W 0 (fun _=>true) true n 9 [c1]=some y1:=h1
 obtain ⟨y2,hy2⟩:=at_ 2 (by decide)
 have h2:DataW.trod enc Tryz.prog W 0 (fun _=>true) true n 5 (([c0,c1,c2,c3,c4,c5,c6,c7,c8,c9,c10,c11,c12,c13,c14,c15,c16].drop 2).take (Tryz.prog.cellsOf 5))=some y2:=(hf 2 _ rfl).trans hy2
 rw [cells_u8] at h2
 replace h2:DataW.trod enc Tryz.prog W 0 (fun _=>true) true n 5 [c2]=some y2:=h2
 obtain ⟨y3,hy3⟩:=at_ 3 (by decide)
 have h3:DataW.trod enc Tryz.prog W 0 (fun _=>true) true n 3 (([c0,c1,c2,c3,c4,c5,c6,c7,c8,c9,c10,c11,c12,c13,c14,c15,c16].drop 3).take (Tryz.prog.cellsOf 3))=some y3:=(hf 3 _ rfl).trans hy3
 rw [cells_int] at h3
 replace h3:DataW.trod enc Tryz.prog W 0 (fun _=>true) true n 3 [c3]=some y3:=h3
 obtain ⟨y4,hy4⟩:=at_ 4 (by decide)
 have h4:DataW.trod enc Tryz.prog W 0 (fun _=>true) true n 3 (([c0,c1,c2,c3,c4,c5,c6,c7,c8,c9,c10,c11,c12,c13,c14,c15,c16].drop 4).take (Tryz.prog.cellsOf 3))=some y4:=(hf 4 _ rfl).trans hy4
 rw [cells_int] at h4
 replace h4:DataW.trod enc Tryz.prog W 0 (fun _=>true) true n 3 [c4]=some y4:=h4
 obtain ⟨y5,hy5⟩:=at_ 5 (by decide)
 have h5:DataW.trod enc Tryz.prog W 0 (fun _=>true) true n 3 (([c0,c1,c2,c3,c4,c5,c6,c7,c8,c9,c10,c11,c12,c13,c14,c15,c16].drop 5).take (Tryz.prog.cellsOf 3))=some y5:=(hf 5 _ rfl).trans hy5
 rw [cells_int] at h5
 replace h5:DataW.trod enc Tryz.prog W 0 (fun _=>true) true n 3 [c5]=some y5:=h5
 obtain ⟨y6,hy6⟩:=at_ 6 (by decide)
 have h6:DataW.trod enc Tryz.prog W 0 (fun _=>true) true n 9 (([c0,c1,c2,c3,c4,c5,c6,c7,c8,c9,c10,c11,c12,c13,c14,c15,c16].drop 6).take (Tryz.prog.cellsOf 9))=some y6:=(hf 6 _ rfl).trans hy6
 rw [cells_str] at h6
 replace h6:DataW.trod enc Tryz.prog W 0 (fun _=>true) true n 9 [c6]=some y6:=h6
 obtain ⟨y7,hy7⟩:=at_ 7 (by decide)
 have h7:DataW.trod enc Tryz.prog W 0 (fun _=>true) true n 9 (([c0,c1,c2,c3,c4,c5,c6,c7,c8,c9,c10,c11,c12,c13,c14,c15,c16].drop 7).take (Tryz.prog.cellsOf 9))=some y7:=(hf 7 _ rfl).trans hy7
 rw [cells_str] at h7
 replace h7:DataW.trod enc Tryz.prog W 0 (fun _=>true) true n 9 [c7]=some y7:=h7
 obtain ⟨y8,hy8⟩:=at_ 8 (by decide)
 have h8:DataW.trod enc Tryz.prog W 0 (fun _=>true) true n 43 (([c0,c1,c2,c3,c4,c5,c6,c7,c8,c9,c10,c11,c12,c13,c14,c15,c16].drop 8).take (Tryz.prog.cellsOf 43))=some y8:=(hf 8 _ rfl).trans hy8
 rw [cells_time] at h8
 replace h8:DataW.trod enc Tryz.prog W 0 (fun _=>true) true n 43 [c8,c9]=some y8:=h8
 obtain ⟨y9,hy9⟩:=at_ 9 (by decide)
 have h9:DataW.trod enc Tryz.prog W 0 (fun _=>true) true n 3 (([c0,c1,c2,c3,c4,c5,c6,c7,c8,c9,c10,c11,c12,c13,c14,c15,c16].drop 10).take (Tryz.prog.cellsOf 3))=some y9:=(hf 9 _ rfl).trans hy9
 rw [cells_int] at h9
 replace h9:DataW.trod enc Tryz.prog W 0 (fun _=>true) true n 3 [c10]=some y9:=h9
 obtain ⟨y10,hy10⟩:=at_ 10 (by decide)
 have h10:DataW.trod enc Tryz.prog W 0 (fun _=>true) true n 3 (([c0,c1,c2,c3,c4,c5,c6,c7,c8,c9,c10,c11,c12,c13,c14,c15,c16].drop 11).take (Tryz.prog.cellsOf 3))=some y10:=(hf 10 _ rfl).trans hy10
 rw [cells_int] at h10
 replace h10:DataW.trod enc Tryz.prog W 0 (fun _=>true) true n 3 [c11]=some y10:=h10
 obtain ⟨y11,hy11⟩:=at_ 11 (by decide)
 have h11:DataW.trod enc Tryz.prog W 0 (fun _=>true) true n 3 (([c0,c1,c2,c3,c4,c5,c6,c7,c8,c9,c10,c11,c12,c13,c14,c15,c16].drop 12).take (Tryz.prog.cellsOf 3))=some y11:=(hf 11 _ rfl).trans hy11
 rw [cells_int] at h11
 replace h11:DataW.trod enc Tryz.prog W 0 (fun _=>true) true n 3 [c12]=some y11:=h11
 obtain ⟨y12,hy12⟩:=at_ 12 (by decide)
 have h12:DataW.trod enc Tryz.prog W 0 (fun _=>true) true n 3 (([c0,c1,c2,c3,c4,c5,c6,c7,c8,c9,c10,c11,c12,c13,c14,c15,c16].drop 13).take (Tryz.prog.cellsOf 3))=some y12:=(hf 12 _ rfl).trans hy12
 rw [cells_int] at h12
 replace h12:DataW.trod enc Tryz.prog W 0 (fun _=>true) true n 3 [c13]=some y12:=h12
 obtain ⟨y13,hy13⟩:=at_ 13 (by decide)
 have h13:DataW.trod enc Tryz.prog W 0 (fun _=>true) true n 4 (([c0,c1,c2,c3,c4,c5,c6,c7,c8,c9,c10,c11,c12,c13,c14,c15,c16].drop 14).take (Tryz.prog.cellsOf 4))=some y13:=(hf 13 _ rfl).trans hy13
 rw [cells_bool] at h13
 replace h13:DataW.trod enc Tryz.prog W 0 (fun _=>true) true n 4 [c14]=some y13:=h13
 obtain ⟨y14,hy14⟩:=at_ 14 (by decide)
 have h14:DataW.trod enc Tryz.prog W 0 (fun _=>true) true n 22 (([c0,c1,c2,c3,c4,c5,c6,c7,c8,c9,c10,c11,c12,c13,c14,c15,c16].drop 15).take (Tryz.prog.cellsOf 22))=some y14:=(hf 14 _ rfl).trans hy14
 rw [cells_parts] at h14
 replace h14:DataW.trod enc Tryz.prog W 0 (fun _=>true) true n 22 [c15]=some y14:=h14
 obtain ⟨y15,hy15⟩:=at_ 15 (by decide)
 have h15:DataW.trod enc Tryz.prog W 0 (fun _=>true) true n 25 (([c0,c1,c2,c3,c4,c5,c6,c7,c8,c9,c10,c11,c12,c13,c14,c15,c16].drop 16).take (Tryz.prog.cellsOf 25))=some y15:=(hf 15 _ rfl).trans hy15
 rw [cells_recs] at h15
 replace h15:DataW.trod enc Tryz.prog W 0 (fun _=>true) true n 25 [c16]=some y15:=h15
 clear hf at_
 obtain ⟨v0,e0,_,_⟩:=DataW.trod_string Tryz.underlying9 h0
 injection e0 with e0
 subst e0
 obtain ⟨v1,e1,_,_⟩:=DataW.trod_string Tryz.underlying9 h1
 injection e1 with e1
 subst e1
 obtain ⟨v2,e2,_,_⟩:=DataW.trod_int Tryz.underlying5 h2
 injection e2 with e2
 subst e2
 obtain ⟨v3,e3,_,_⟩:=DataW.trod_int Tryz.underlying3 h3
 injection e3 with e3
 subst e3
 obtain ⟨v4,e4,_,_⟩:=DataW.trod_int Tryz.underlying3 h4
 injection e4 with e4
 subst e4
 obtain ⟨v5,e5,_,_⟩:=DataW.trod_int Tryz.underlying3 h5
 injection e5 with e5
 subst e5
 obtain ⟨v6,e6,_,_⟩:=DataW.trod_string Tryz.underlying9 h6
 injection e6 with e6
 subst e6
 obtain ⟨v7,e7,_,_⟩:=DataW.trod_string Tryz.underlying9 h7
 injection e7 with e7
 subst e7
 obtain ⟨z0,z1,nn,_,_,g0,g1⟩:=trod_struct2 Tryz.underlying43 h8
 replace g0:DataW.trod enc Tryz.prog W 0 (fun _=>true) true nn 3 ([c8,c9].take (Tryz.prog.cellsOf 3))=some z0:=g0
 replace g1:DataW.trod enc Tryz.prog W 0 (fun _=>true) true nn 3 ([c9].take (Tryz.prog.cellsOf 3))=some z1:=g1
 rw [cells_int] at g0 g1
 obtain ⟨v8,e8,_,_⟩:=DataW.trod_int Tryz.underlying3 (show DataW.trod enc Tryz.prog W 0 (fun _=>true) true nn 3 [c8]=some z0 from g0)
 obtain ⟨v9,e9,_,_⟩:=DataW.trod_int Tryz.underlying3 (show DataW.trod enc Tryz.prog W 0 (fun _=>true) true nn 3 [c9]=some z1 from g1)
 injection e8 with e8
 injection e9 with e9
 subst e8 e9
 obtain ⟨v10,e10,_,_⟩:=DataW.trod_int Tryz.underlying3 h9
 injection e10 with e10
 subst e10
 obtain ⟨v11,e11,_,_⟩:=DataW.trod_int Tryz.underlying3 h10
 injection e11 with e11
 subst e11
 obtain ⟨v12,e12,_,_⟩:=DataW.trod_int Tryz.underlying3 h11
 injection e12 with e12
 subst e12
 obtain ⟨v13,e13,_,_⟩:=DataW.trod_int Tryz.underlying3 h12
 injection e13 with e13
 subst e13
 obtain ⟨v14,e14,_⟩:=DataW.trod_bool Tryz.underlying4 h13
 injection e14 with e14
 subst e14
 obtain ⟨A15,l15,k15,e15⟩:=slice_form Tryz.underlying22 h14
 obtain ⟨A16,l16,k16,e16⟩:=slice_form Tryz.underlying25 h15
 injection e15 with e15
 injection e16 with e16
 subst e15 e16
 obtain ⟨P,hP,_,hPn⟩:=open_parts ⟨n,(show DataW.trod enc Tryz.prog W 0 (fun _=>true) true n 22 (Value.slice A15 l15 k15).cells.toList=some y14 from h14)⟩
 obtain ⟨R,hl,hR,hRn⟩:=open_recs ⟨n,(show DataW.trod enc Tryz.prog W 0 (fun _=>true) true n 25 (Value.slice A16 l16 k16).cells.toList=some y15 from h15)⟩
 have hPl:=hP.len
 subst hPl hl
 exact ⟨⟨v0,v1,v2,v3,v4,v5,v6,v7,v8,v9,v10,v11,v12,v13,v14,P,R⟩,A15,A16,k15,k16,rfl,hP,hR,hPn,hRn⟩
end Go.Proofs.YtjpmpjbembhldaaGreatDoor

/-! MtRowK -/
namespace Go.Proofs.YtjpmpjbembhldaaGreatDoor
open Go.RowKit Go.WideShapes Go.ChangeShapes Go.Deep Go.Joins
open Px (R2)
def amR (l:List R2):Nat:=(l.map fun r=>1+(r.1.size+r.2.size)).sum
theorem amR_cons (r:R2) (l:List R2):amR (r::l)=1+(r.1.size+r.2.size)+amR l:=by
 unfold amR
 rw [List.map_cons,List.sum_cons]
theorem aggs_bulk {H:Type} (D0 D1:Nat→DataW H): ∀ is:List Nat,is.length≤Rows.uptoBulkAll (is.map fun i=>DataW.agg [D0 i,D1 i])
 | []=>Nat.zero_le _
 |i::is=>by
  have:=aggs_bulk D0 D1 is
  simp only [List.map_cons,List.length_cons,Rows.uptoBulkAll,Rows.uptoBulk]
  omega
theorem parts_bulk {H:Type} {enc:TypeId × Value→H} {W:World} {A:Option Addr} {n c:Nat} {d:DataW H} {p:List MemPlace} (h:DataW.Trod enc Tryz.prog W 0 (fun _=>true) true 22 (.slice A n c) d p):n≤Rows.uptoBulk d:=by
 obtain ⟨fuel,hf⟩:=h
 rcases open_slice_pairs Tryz.underlying22 Tryz.underlying52 (by kernel_rfl) rfl rfl (by kernel_rfl) (by kernel_rfl) hf with ⟨hcs,hx⟩|⟨a,len,cap,m,n',V0,V1,D0,D1,P0,P1,hcs,_,hl,hm,hmm,hx,hi⟩
 ·simp [Value.cells] at hcs
  obtain ⟨rfl,rfl,rfl⟩:=hcs
  exact Nat.zero_le _
 ·simp [Value.cells] at hcs
  obtain ⟨rfl,rfl,rfl⟩:=hcs
  simp only [Prod.mk.injEq] at hx
  rw [hx.1]
  have hb:=aggs_bulk D0 D1 (List.range n)
  rw [List.length_range] at hb
  simp only [Rows.uptoBulk]
  omega
theorem amR_bulk {H:Type} (S0 S1:Nat→ByteArray) (D0 D1:Nat→DataW H): ∀ is:List Nat,(∀ i∈is,D0 i= .lit (.string (S0 i).data.toList)∧D1 i= .lit (.string (S1 i).data.toList))→
  amR (is.map fun i=>(S0 i,S1 i))≤Rows.uptoBulkAll (is.map fun i=>DataW.agg [D0 i,D1 i])
 | [],_=>by simp [amR]
 |i::is,h=>by
  have ih:=amR_bulk S0 S1 D0 D1 is fun j hj=>h j (List.mem_cons_of_mem _ hj)
  obtain ⟨h0,h1⟩:=h i (by simp)
  rw [List.map_cons,List.map_cons,amR_cons]
  simp only [Rows.uptoBulkAll,Rows.uptoBulk,h0,h1]
  have e0:(S0 i).data.toList.length=(S0 i).size:=rfl
  have e1:(S1 i).data.toList.length=(S1 i).size:=rfl
  rw [e0,e1]
  omega
theorem open_recsU {H:Type} {enc:TypeId × Value→H} {W:World} {A:Option Addr} {n c:Nat} {d:DataW H} {p:List MemPlace} (h:DataW.Trod enc Tryz.prog W 0 (fun _=>true) true 25 (.slice A n c) d p):
  ∃ l:List R2,l.length=n∧Px.RdR W W.heap.size A l∧amR l≤Rows.uptoBulk d:=by
 obtain ⟨fuel,hf⟩:=h
 rcases open_slice_pairs Tryz.underlying25 Tryz.underlying29 (by kernel_rfl) rfl rfl (by kernel_rfl) (by kernel_rfl) hf with ⟨hcs,hx⟩|⟨a,len,cap,m,n',V0,V1,D0,D1,P0,P1,hcs,_,hl,hm,hmm,hx,hi⟩
 ·simp [Value.cells] at hcs
  obtain ⟨rfl,rfl,rfl⟩:=hcs
  exact ⟨[],rfl,Px.RdR.none_,by simp [amR]⟩
 ·simp [Value.cells] at hcs
  obtain ⟨rfl,rfl,rfl⟩:=hcs
  have hm':m=c:=by simpa using hmm
  have hs: ∀ i,i<n→ ∃ q:ByteArray × ByteArray,W.cell? (a.add (i*2))=some (.string q.1)∧W.cell? (a.add (i*2+1))=some (.string q.2)∧D0 i= .lit (.string q.1.data.toList)∧D1 i= .lit (.string q.2.data.toList):=by
   intro i hin
   obtain ⟨hc0,hc1,ht0,ht1⟩:=hi i (by omega)
   obtain ⟨s,e0,x0,_⟩:=DataW.trod_string Tryz.underlying9 ht0
   obtain ⟨t,e1,x1,_⟩:=DataW.trod_string Tryz.underlying9 ht1
   injection e0 with e0
   injection e1 with e1
   simp only [Prod.mk.injEq] at x0 x1
   exact ⟨(s,t),by rw [hc0,e0],by rw [hc1,e1],x0.1,x1.1⟩
  obtain ⟨S,hS⟩:=choose_lt hs
  refine ⟨(List.range n).map fun i=>((S i).1,(S i).2),by simp,fun hn=> ?_, ?_⟩
  ·have hn':0<n:=by simpa using hn
   obtain ⟨b,off,spot⟩:=a
   have hc:=(hS 0 hn').1
   have hspot:spot=none:=by simpa [Addr.add] using World.cell?_spot hc
   subst hspot
   have hb:b<W.heap.size:=by
    have hc':=hc
    rw [add_plain'] at hc'
    exact World.block_lt_of_cell? _ _ hc'
   refine ⟨b,off,rfl,hb,fun k r hr=> ?_⟩
   obtain ⟨hk,hr⟩:=List.getElem?_eq_some_iff.1 hr
   have hkn:k<n:=by simpa using hk
   simp only [List.getElem_map,List.getElem_range] at hr
   subst hr
   obtain ⟨g0,g1,_,_⟩:=hS k hkn
   rw [add_plain'] at g0 g1
   exact ⟨g0,by rw [Nat.add_assoc];exact g1⟩
  ·simp only [Prod.mk.injEq] at hx
   rw [hx.1]
   have hb:=amR_bulk (fun i=>(S i).1) (fun i=>(S i).2) D0 D1 (List.range n) fun i hin=>by
    obtain ⟨_,_,h0,h1⟩:=hS i (List.mem_range.1 hin)
    exact ⟨h0,h1⟩
   simp only [Rows.uptoBulk]
   omega
theorem strs_bulk {H:Type} (S:Nat→ByteArray): ∀ is:List Nat,is.length≤Rows.uptoBulkAll (H:=H) (is.map fun i=> .lit (.string (S i).data.toList))∧ ∀ i∈is,(S i).size≤Rows.uptoBulkAll (H:=H) (is.map fun i=> .lit (.string (S i).data.toList))
 | []=>⟨Nat.zero_le _,fun i hi=>by cases hi⟩
 |i::is=>by
  obtain ⟨h1,h2⟩:=strs_bulk (H:=H) S is
  have e:(S i).data.toList.length=(S i).size:=rfl
  simp only [List.map_cons,List.length_cons,Rows.uptoBulkAll,Rows.uptoBulk,e]
  refine ⟨by omega,fun j hj=> ?_⟩
  rcases List.mem_cons.1 hj with rfl|hj
  ·omega
  ·have:=h2 j hj
   omega
theorem open_texts {H:Type} {enc:TypeId × Value→H} {W:World} {A:Option Addr} {n c:Nat} {d:DataW H} {p:List MemPlace} (h:DataW.Trod enc Tryz.prog W 0 (fun _=>true) true 27 (.slice A n c) d p):
  ∃ l:List ByteArray,l.length=n∧RdT W W.heap.size A l∧l.length≤Rows.uptoBulk d∧ ∀ x∈l,x.size≤Rows.uptoBulk d:=by
 obtain ⟨fuel,hf⟩:=h
 rcases open_strs Tryz.underlying27 Tryz.underlying9 (by kernel_rfl) hf with ⟨hcs,hx⟩|⟨a,len,cap,m,S,hcs,_,hl,hm,hmm,hx,hi⟩
 ·simp [Value.cells] at hcs
  obtain ⟨rfl,rfl,rfl⟩:=hcs
  exact ⟨[],rfl,fun hn=>absurd hn (by simp),Nat.zero_le _,fun x hx=>by cases hx⟩
 ·simp [Value.cells] at hcs
  obtain ⟨rfl,rfl,rfl⟩:=hcs
  have hm':m=c:=by simpa using hmm
  have hd:d=_:=congrArg Prod.fst hx
  have hb:=strs_bulk (H:=H) S (List.range n)
  rw [List.length_range] at hb
  have hk:Rows.uptoBulkAll (H:=H) ((List.range n).map fun i=> .lit (.string (S i).data.toList))≤Rows.uptoBulk d:=by
   rw [hd]
   simp only [Rows.uptoBulk]
   omega
  refine ⟨(List.range n).map S,by simp,fun hn=> ?_,by simp;omega,fun x hx=> ?_⟩
  ·have hn':0<n:=by simpa using hn
   obtain ⟨b,off,spot⟩:=a
   have hc:=(hi 0 (by omega)).1
   have hspot:spot=none:=by simpa [Addr.add] using World.cell?_spot hc
   subst hspot
   have hb2:b<W.heap.size:=by
    have hc':=hc
    rw [add_plain'] at hc'
    exact World.block_lt_of_cell? _ _ hc'
   refine ⟨b,off,rfl,hb2,fun k s hs=> ?_⟩
   obtain ⟨hk1,hs⟩:=List.getElem?_eq_some_iff.1 hs
   have hkn:k<n:=by simpa using hk1
   simp only [List.getElem_map,List.getElem_range] at hs
   subst hs
   have h1:=(hi k (by omega)).1
   rw [add_plain'] at h1
   exact h1
  ·obtain ⟨i,hin,rfl⟩:=List.mem_map.1 hx
   exact Nat.le_trans (hb.2 i hin) hk
theorem amR_amS: ∀ l:List R2,amR l=l.length+amS l
 | []=>rfl
 |r::l=>by
  have h1:=amR_cons r l
  have h2:=amR_amS l
  have h3:amS (r::l)=(r.1.size+r.2.size)+amS l:=by unfold amS;simp
  rw [h1,h2,h3,List.length_cons]
  omega
theorem cells_hdr:Tryz.prog.cellsOf 24=17:=by kernel_rfl
set_option maxRecDepth 100000 in
set_option maxHeartbeats 4000000 in
theorem open_hdrU {H:Type} {enc:TypeId × Value→H} {W:World} {b0:Nat} {v:Value} {d:DataW H} {p:List MemPlace} (hv:Value.okWide Tryz.prog W .any b0 24 v) (h:DataW.Trod enc Tryz.prog W 0 (fun _=>true) true 24 v d p):
  ∃ (h:M.Hdr) (P:Option Addr) (pc:Nat),v= .agg (hcells h (.slice P h.parts.length pc))∧HRaw W h (.slice P h.parts.length pc)∧h.parts.length+(h.name.size+h.link.size+h.pre.size+h.user.size+h.group.size)≤Rows.uptoBulk d:=by
 obtain ⟨cs,rfl,hsz⟩:=okWide_struct Tryz.underlying24 hv
 obtain ⟨c0,c1,c2,c3,c4,c5,c6,c7,c8,c9,c10,c11,c12,c13,c14,c15,c16,rfl⟩:=array17 (hsz.trans cells_hdr)
 obtain ⟨fuel,hf⟩:=h
 obtain ⟨xs,n,_,hx,_,hlen,hf⟩:=DataW.trod_struct Tryz.underlying24 hf
 have at_: ∀ i (hi:i<17),∃ y,xs[i]?=some y:=fun i hi=>⟨xs[i]'(by rw [hlen];exact hi),List.getElem?_eq_getElem _⟩
 obtain ⟨y0,hy0⟩:=at_ 0 (by decide)
 have h0:DataW.trod enc Tryz.prog W 0 (fun _=>true) true n 9 (([c0,c1,c2,c3,c4,c5,c6,c7,c8,c9,c10,c11,c12,c13,c14,c15,c16].drop 0).take (Tryz.prog.cellsOf 9))=some y0:=(hf 0 _ rfl).trans hy0
 rw [cells_str] at h0
 replace h0:DataW.trod enc Tryz.prog W 0 (fun _=>true) true n 9 [c0]=some y0:=h0
 obtain ⟨y1,hy1⟩:=at_ 1 (by decide)
 have h1:DataW.trod enc Tryz.prog W 0 (fun _=>true) true n 3 (([c0,c1,c2,c3,c4,c5,c6,c7,c8,c9,c10,c11,c12,c13,c14,c15,c16].drop 1).take (Tryz.prog.cellsOf 3))=some y1:=(hf 1 _ rfl).trans hy1
 rw [cells_int] at h1
 replace h1:DataW.trod enc Tryz.prog W 0 (fun _=>true) true n 3 [c1]=some y1:=h1
 obtain ⟨y2,hy2⟩:=at_ 2 (by decide)
 have h2:DataW.trod enc Tryz.prog W 0 (fun _=>true) true n 3 (([c0,c1,c2,c3,c4,c5,c6,c7,c8,c9,c10,c11,c12,c13,c14,c15,c16].drop 2).take (Tryz.prog.cellsOf 3))=some y2:=(hf 2 _ rfl).trans hy2
 rw [cells_int] at h2
 replace h2:DataW.trod enc Tryz.prog W 0 (fun _=>true) true n 3 [c2]=some y2:=h2
 obtain ⟨y3,hy3⟩:=at_ 3 (by decide)
 have h3:DataW.trod enc Tryz.prog W 0 (fun _=>true) true n 3 (([c0,c1,c2,c3,c4,c5,c6,c7,c8,c9,c10,c11,c12,c13,c14,c15,c16].drop 3).take (Tryz.prog.cellsOf 3))=some y3:=(hf 3 _ rfl).trans hy3
 rw [cells_int] at h3
 replace h3:DataW.trod enc Tryz.prog W 0 (fun _=>true) true n 3 [c3]=some y3:=h3
 obtain ⟨y4,hy4⟩:=at_ 4 (by decide)
 have h4:DataW.trod enc Tryz.prog W 0 (fun _=>true) true n 3 (([c0,c1,c2,c3,c4,c5,c6,c7,c8,c9,c10,c11,c12,c13,c14,c15,c16].drop 4).take (Tryz.prog.cellsOf 3))=some y4:=(hf 4 _ rfl).trans hy4
 rw [cells_int] at h4
 replace h4:DataW.trod enc Tryz.prog W 0 (fun _=>true) true n 3 [c4]=some y4:=h4
 obtain ⟨y5,hy5⟩:=at_ 5 (by decide)
 have h5:DataW.trod enc Tryz.prog W 0 (fun _=>true) true n 3 (([c0,c1,c2,c3,c4,c5,c6,c7,c8,c9,c10,c11,c12,c13,c14,c15,c16].drop 5).take (Tryz.prog.cellsOf 3))=some y5:=(hf 5 _ rfl).trans hy5
 rw [cells_int] at h5
 replace h5:DataW.trod enc Tryz.prog W 0 (fun _=>true) true n 3 [c5]=some y5:=h5
 obtain ⟨y6,hy6⟩:=at_ 6 (by decide)
 have h6:DataW.trod enc Tryz.prog W 0 (fun _=>true) true n 5 (([c0,c1,c2,c3,c4,c5,c6,c7,c8,c9,c10,c11,c12,c13,c14,c15,c16].drop 6).take (Tryz.prog.cellsOf 5))=some y6:=(hf 6 _ rfl).trans hy6
 rw [cells_u8] at h6
 replace h6:DataW.trod enc Tryz.prog W 0 (fun _=>true) true n 5 [c6]=some y6:=h6
 obtain ⟨y7,hy7⟩:=at_ 7 (by decide)
 have h7:DataW.trod enc Tryz.prog W 0 (fun _=>true) true n 9 (([c0,c1,c2,c3,c4,c5,c6,c7,c8,c9,c10,c11,c12,c13,c14,c15,c16].drop 7).take (Tryz.prog.cellsOf 9))=some y7:=(hf 7 _ rfl).trans hy7
 rw [cells_str] at h7
 replace h7:DataW.trod enc Tryz.prog W 0 (fun _=>true) true n 9 [c7]=some y7:=h7
 obtain ⟨y8,hy8⟩:=at_ 8 (by decide)
 have h8:DataW.trod enc Tryz.prog W 0 (fun _=>true) true n 3 (([c0,c1,c2,c3,c4,c5,c6,c7,c8,c9,c10,c11,c12,c13,c14,c15,c16].drop 8).take (Tryz.prog.cellsOf 3))=some y8:=(hf 8 _ rfl).trans hy8
 rw [cells_int] at h8
 replace h8:DataW.trod enc Tryz.prog W 0 (fun _=>true) true n 3 [c8]=some y8:=h8
 obtain ⟨y9,hy9⟩:=at_ 9 (by decide)
 have h9:DataW.trod enc Tryz.prog W 0 (fun _=>true) true n 9 (([c0,c1,c2,c3,c4,c5,c6,c7,c8,c9,c10,c11,c12,c13,c14,c15,c16].drop 9).take (Tryz.prog.cellsOf 9))=some y9:=(hf 9 _ rfl).trans hy9
 rw [cells_str] at h9
 replace h9:DataW.trod enc Tryz.prog W 0 (fun _=>true) true n 9 [c9]=some y9:=h9
 obtain ⟨y10,hy10⟩:=at_ 10 (by decide)
 have h10:DataW.trod enc Tryz.prog W 0 (fun _=>true) true n 9 (([c0,c1,c2,c3,c4,c5,c6,c7,c8,c9,c10,c11,c12,c13,c14,c15,c16].drop 10).take (Tryz.prog.cellsOf 9))=some y10:=(hf 10 _ rfl).trans hy10
 rw [cells_str] at h10
 replace h10:DataW.trod enc Tryz.prog W 0 (fun _=>true) true n 9 [c10]=some y10:=h10
 obtain ⟨y11,hy11⟩:=at_ 11 (by decide)
 have h11:DataW.trod enc Tryz.prog W 0 (fun _=>true) true n 3 (([c0,c1,c2,c3,c4,c5,c6,c7,c8,c9,c10,c11,c12,c13,c14,c15,c16].drop 11).take (Tryz.prog.cellsOf 3))=some y11:=(hf 11 _ rfl).trans hy11
 rw [cells_int] at h11
 replace h11:DataW.trod enc Tryz.prog W 0 (fun _=>true) true n 3 [c11]=some y11:=h11
 obtain ⟨y12,hy12⟩:=at_ 12 (by decide)
 have h12:DataW.trod enc Tryz.prog W 0 (fun _=>true) true n 3 (([c0,c1,c2,c3,c4,c5,c6,c7,c8,c9,c10,c11,c12,c13,c14,c15,c16].drop 12).take (Tryz.prog.cellsOf 3))=some y12:=(hf 12 _ rfl).trans hy12
 rw [cells_int] at h12
 replace h12:DataW.trod enc Tryz.prog W 0 (fun _=>true) true n 3 [c12]=some y12:=h12
 obtain ⟨y13,hy13⟩:=at_ 13 (by decide)
 have h13:DataW.trod enc Tryz.prog W 0 (fun _=>true) true n 9 (([c0,c1,c2,c3,c4,c5,c6,c7,c8,c9,c10,c11,c12,c13,c14,c15,c16].drop 13).take (Tryz.prog.cellsOf 9))=some y13:=(hf 13 _ rfl).trans hy13
 rw [cells_str] at h13
 replace h13:DataW.trod enc Tryz.prog W 0 (fun _=>true) true n 9 [c13]=some y13:=h13
 obtain ⟨y14,hy14⟩:=at_ 14 (by decide)
 have h14:DataW.trod enc Tryz.prog W 0 (fun _=>true) true n 22 (([c0,c1,c2,c3,c4,c5,c6,c7,c8,c9,c10,c11,c12,c13,c14,c15,c16].drop 14).take (Tryz.prog.cellsOf 22))=some y14:=(hf 14 _ rfl).trans hy14
 rw [cells_parts] at h14
 replace h14:DataW.trod enc Tryz.prog W 0 (fun _=>true) true n 22 [c14]=some y14:=h14
 obtain ⟨y15,hy15⟩:=at_ 15 (by decide)
 have h15:DataW.trod enc Tryz.prog W 0 (fun _=>true) true n 4 (([c0,c1,c2,c3,c4,c5,c6,c7,c8,c9,c10,c11,c12,c13,c14,c15,c16].drop 15).take (Tryz.prog.cellsOf 4))=some y15:=(hf 15 _ rfl).trans hy15
 rw [cells_bool] at h15
 replace h15:DataW.trod enc Tryz.prog W 0 (fun _=>true) true n 4 [c15]=some y15:=h15
 obtain ⟨y16,hy16⟩:=at_ 16 (by decide)
 have h16:DataW.trod enc Tryz.prog W 0 (fun _=>true) true n 3 (([c0,c1,c2,c3,c4,c5,c6,c7,c8,c9,c10,c11,c12,c13,c14,c15,c16].drop 16).take (Tryz.prog.cellsOf 3))=some y16:=(hf 16 _ rfl).trans hy16
 rw [cells_int] at h16
 replace h16:DataW.trod enc Tryz.prog W 0 (fun _=>true) true n 3 [c16]=some y16:=h16
 clear hf at_
 obtain ⟨v0,e0,x0,_⟩:=DataW.trod_string Tryz.underlying9 h0
 injection e0 with e0
 subst e0
 obtain ⟨v1,e1,_,w1⟩:=DataW.trod_int Tryz.underlying3 h1
 injection e1 with e1
 subst e1
 obtain ⟨v2,e2,_,w2⟩:=DataW.trod_int Tryz.underlying3 h2
 injection e2 with e2
 subst e2
 obtain ⟨v3,e3,_,w3⟩:=DataW.trod_int Tryz.underlying3 h3
 injection e3 with e3
 subst e3
 obtain ⟨v4,e4,_,w4⟩:=DataW.trod_int Tryz.underlying3 h4
 injection e4 with e4
 subst e4
 obtain ⟨v5,e5,_,w5⟩:=DataW.trod_int Tryz.underlying3 h5
 injection e5 with e5
 subst e5
 obtain ⟨v6,e6,_,w6⟩:=DataW.trod_int Tryz.underlying5 h6
 injection e6 with e6
 subst e6
 obtain ⟨v7,e7,x7,_⟩:=DataW.trod_string Tryz.underlying9 h7
 injection e7 with e7
 subst e7
 obtain ⟨v8,e8,_,w8⟩:=DataW.trod_int Tryz.underlying3 h8
 injection e8 with e8
 subst e8
 obtain ⟨v9,e9,x9,_⟩:=DataW.trod_string Tryz.underlying9 h9
 injection e9 with e9
 subst e9
 obtain ⟨v10,e10,x10,_⟩:=DataW.trod_string Tryz.underlying9 h10
 injection e10 with e10
 subst e10
 obtain ⟨v11,e11,_,w11⟩:=DataW.trod_int Tryz.underlying3 h11
 injection e11 with e11
 subst e11
 obtain ⟨v12,e12,_,w12⟩:=DataW.trod_int Tryz.underlying3 h12
 injection e12 with e12
 subst e12
 obtain ⟨v13,e13,x13,_⟩:=DataW.trod_string Tryz.underlying9 h13
 injection e13 with e13
 subst e13
 obtain ⟨P,pn,pc,e14⟩:=slice_form Tryz.underlying22 h14
 injection e14 with e14
 subst e14
 obtain ⟨v15,e15,_⟩:=DataW.trod_bool Tryz.underlying4 h15
 injection e15 with e15
 subst e15
 obtain ⟨v16,e16,_,w16⟩:=DataW.trod_int Tryz.underlying3 h16
 injection e16 with e16
 subst e16
 have hq14:=parts_bulk ⟨n,(show DataW.trod enc Tryz.prog W 0 (fun _=>true) true n 22 (Value.slice P pn pc).cells.toList=some y14 from h14)⟩
 obtain ⟨L,hP,hPi,_⟩:=open_parts ⟨n,(show DataW.trod enc Tryz.prog W 0 (fun _=>true) true n 22 (Value.slice P pn pc).cells.toList=some y14 from h14)⟩
 have hPl:=hP.len
 subst hPl
 refine ⟨{ name:=v0,mode:=v1,uid:=v2,gid:=v3,size:=v4,mtime:=v5,kind:=v6,link:=v7,way:=v8,user:=v9,group:=v10,major:=v11,minor:=v12,pre:=v13,parts:=L,more:=v15,real:=v16 },P,pc,rfl, ?_, ?_⟩
 ·exact ⟨⟨_,_,rfl,hP⟩,hPi,bounds_u8 w6,bounds_i64 w1,bounds_i64 w2,bounds_i64 w3,bounds_i64 w11,bounds_i64 w12,bounds_i64 w4,bounds_i64 w16⟩
 ·have hxe:xs= [y0,y1,y2,y3,y4,y5,y6,y7,y8,y9,y10,y11,y12,y13,y14,y15,y16]:=by
   apply List.ext_getElem?
   intro k
   rcases Nat.lt_or_ge k 17 with hk|hk
   ·have:k=0∨k=1∨k=2∨k=3∨k=4∨k=5∨k=6∨k=7∨k=8∨k=9∨k=10∨k=11∨k=12∨k=13∨k=14∨k=15∨k=16:=by omega
    rcases this with rfl|rfl|rfl|rfl|rfl|rfl|rfl|rfl|rfl|rfl|rfl|rfl|rfl|rfl|rfl|rfl|rfl<;>assumption
   ·rw [List.getElem?_eq_none (by rw [hlen];exact hk),List.getElem?_eq_none (by exact hk)]
  have hd:d= .agg (xs.map (·.1)):=congrArg Prod.fst hx
  rw [hd,hxe]
  subst x0 x7 x9 x10 x13
  simp only [List.map_cons,List.map_nil,Rows.uptoBulk,Rows.uptoBulkAll]
  have s0:v0.data.toList.length=v0.size:=rfl
  have s7:v7.data.toList.length=v7.size:=rfl
  have s9:v9.data.toList.length=v9.size:=rfl
  have s10:v10.data.toList.length=v10.size:=rfl
  have s13:v13.data.toList.length=v13.size:=rfl
  rw [s0,s7,s9,s10,s13]
  show L.length+(v0.size+v7.size+v13.size+v9.size+v10.size)≤_
  omega
end Go.Proofs.YtjpmpjbembhldaaGreatDoor
