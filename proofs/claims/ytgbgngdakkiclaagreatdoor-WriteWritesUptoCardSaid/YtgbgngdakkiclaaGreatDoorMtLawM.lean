import Derived.Test.YtgbgngdakkiclaaGreatDoorMtName
import Derived.Test.YtgbgngdakkiclaaGreatDoorMtTextZ
import Derived.Test.YtgbgngdakkiclaaGreatDoorMtParts
import Derived.Test.YtgbgngdakkiclaaGreatDoorStepZ
import Derived.Deep.CutRange
import Derived.Deep.CutBlock
set_option linter.unusedVariables false
set_option linter.unusedSimpArgs false
namespace Go.Proofs.YtgbgngdakkiclaaGreatDoor
open Go.RowKit Go.Lib
open Px (R2 tl)
structure MBut (g r:Nat) (w w':World):Prop where
 os:w'.os=w.os
 tape:w'.tape=w.tape
 output:w'.output=w.output
 size:w.heap.size≤w'.heap.size
 block: ∀ k,k<w.heap.size→k≠g→k≠r→w'.heap[k]?=w.heap[k]?
theorem MBut.refl (g r:Nat) (w:World):MBut g r w w:=⟨rfl,rfl,rfl,Nat.le_refl _,fun _ _ _ _=>rfl⟩
theorem MBut.trans {g r:Nat} {a b c:World} (h:MBut g r a b) (k:MBut g r b c):MBut g r a c:=
 ⟨k.os.trans h.os,k.tape.trans h.tape,k.output.trans h.output,Nat.le_trans h.size k.size,fun i hi hg hr=>(k.block i (Nat.lt_of_lt_of_le hi h.size) hg hr).trans (h.block i hi hg hr)⟩
theorem MBut.of_below {g r:Nat} {w w':World} (h:Below w.heap.size w w'):MBut g r w w':=⟨h.os,h.tape,h.output,h.size,fun k hk _ _=>h.block k hk⟩
theorem MBut.set (g:Nat) {r:Nat} (w:World) (i:Nat) (v:Value):MBut g r w (w.setCell ⟨g,i,none⟩ v):=⟨rfl,rfl,rfl,by simp [World.setCell],fun k _ hk _=>Below.heap_setCell _ _ _ _ hk⟩
theorem MBut.row (g r:Nat) (w:World) (cs:Array Value):MBut g r w (w.setRow r cs):=⟨rfl,rfl,rfl,by simp,fun k _ _ hk=>setRow_other w r k cs hk⟩
def NewV (lo:Nat) (v:Value):Prop:= ∀ a n c,v= .slice (some a) n c→lo≤a.block
structure MQ (nb:Nat) (w W:World) (g:Nat):Prop where
 ex: ∃ m pv ev,MB W g m pv ev∧(∀ W',MBut g w.heap.size W W'→MIn W' m pv ev)∧(1≤m.name.size∧m.name.size≤nb)∧NewV w.heap.size pv∧NewV w.heap.size ev
 res:MB W w.heap.size {} (.slice none 0 0) (.slice none 0 0)
 low:w.heap.size<g
 below:Below w.heap.size w W
theorem MQ.lt {nb:Nat} {w W:World} {g:Nat} (q:MQ nb w W g):g<W.heap.size:=by obtain ⟨m,pv,ev,h,_⟩:=q.ex;exact h.lt
theorem MQ.later {nb:Nat} {w W W':World} {g:Nat} (q:MQ nb w W g) (hb:Below W.heap.size W W'):MQ nb w W' g:=by
 obtain ⟨m,pv,ev,h1,h2,h3⟩:=q.ex
 exact ⟨⟨m,pv,ev,h1.below hb h1.lt,fun W2 h=>h2 W2 ((MBut.of_below hb).trans h),h3⟩,q.res.below hb q.res.lt,q.low,q.below.trans (hb.mono q.below.size)⟩
theorem MQ.set {nb:Nat} {w W:World} {g:Nat} (q:MQ nb w W g) (i:Nat) (v:Value) (up:M.Met→M.Met) (e: ∀ m pv ev,(mcells m pv ev).set! i v=mcells (up m) pv ev) (hup: ∀ W m pv ev,MIn W m pv ev→MIn W (up m) pv ev)
  (hn: ∀ m:M.Met,1≤m.name.size∧m.name.size≤nb→1≤(up m).name.size∧(up m).name.size≤nb):MQ nb w (W.setCell ⟨g,i,none⟩ v) g:=by
 obtain ⟨m,pv,ev,h1,h2,h3⟩:=q.ex
 refine ⟨⟨up m,pv,ev,h1.set i v (e m pv ev),fun W2 h=>hup _ _ _ _ (h2 W2 ((MBut.set g W i v).trans h)),⟨hn m h3.1,h3.2⟩⟩,q.res.other (by have:=q.low;show w.heap.size≠g;omega) v,q.low,q.below.setCell (p:=⟨g,i,none⟩) (Nat.le_of_lt q.low) v⟩
theorem MQ.size {nb:Nat} {w W:World} {g:Nat} (q:MQ nb w W g):w.heap.size≤W.heap.size:=q.below.size
theorem MQ.at_ {nb:Nat} {w W:World} {g:Nat} (q:MQ nb w W g) (i:Nat) (hi:i<17): ∃ v,W.cell? ⟨g,i,none⟩=some v∧W.frozen? ⟨g,i,none⟩=false:=by
 obtain ⟨m,pv,ev,h1,_⟩:=q.ex
 have hs:i<(mcells m pv ev).size:=hi
 exact ⟨(mcells m pv ev)[i],h1.cell (Array.getElem?_eq_getElem hs),h1.frozen i⟩
theorem MQ.kind {nb:Nat} {w W:World} {g:Nat} (q:MQ nb w W g): ∃ z:Int,W.cell? ⟨g,2,none⟩=some (.int .u8 z):=by
 obtain ⟨m,pv,ev,h1,_⟩:=q.ex
 exact ⟨m.kind,h1.cell rfl⟩
theorem MQ.name {nb:Nat} {w W:World} {g:Nat} (q:MQ nb w W g): ∃ s:ByteArray,W.cell? ⟨g,0,none⟩=some (.string s)∧W.frozen? ⟨g,0,none⟩=false∧1≤s.size∧s.size≤nb:=by
 obtain ⟨m,pv,ev,h1,_,h3⟩:=q.ex
 exact ⟨m.name,h1.cell rfl,h1.frozen 0,h3.1⟩
section
variable {W:World} {m:M.Met} {pv ev:Value}
theorem MIn.nan_ {x:Int} (hx: -9223372036854775808≤x∧x≤9223372036854775807) (h:MIn W m pv ev):MIn W { m with nan:=x } pv ev:=
 ⟨h.parts,h.extra,h.nparts,h.nextra,h.i64s,h.fits,h.kind,h.texts,⟨h.ints.1,h.ints.2.1,h.ints.2.2.1,h.ints.2.2.2.1,hx,h.ints.2.2.2.2.2⟩⟩
theorem MIn.mode_ {x:Int} (hx: -9223372036854775808≤x∧x≤9223372036854775807) (h:MIn W m pv ev):MIn W { m with mode:=x } pv ev:=
 ⟨h.parts,h.extra,h.nparts,h.nextra,h.i64s,h.fits,h.kind,h.texts,⟨hx,h.ints.2⟩⟩
theorem MIn.major_ {x:Int} (hx: -9223372036854775808≤x∧x≤9223372036854775807) (h:MIn W m pv ev):MIn W { m with major:=x } pv ev:=
 ⟨h.parts,h.extra,h.nparts,h.nextra,h.i64s,h.fits,h.kind,h.texts,⟨h.ints.1,h.ints.2.1,h.ints.2.2.1,h.ints.2.2.2.1,h.ints.2.2.2.2.1,hx,h.ints.2.2.2.2.2.2⟩⟩
theorem MIn.minor_ {x:Int} (hx: -9223372036854775808≤x∧x≤9223372036854775807) (h:MIn W m pv ev):MIn W { m with minor:=x } pv ev:=
 ⟨h.parts,h.extra,h.nparts,h.nextra,h.i64s,h.fits,h.kind,h.texts,⟨h.ints.1,h.ints.2.1,h.ints.2.2.1,h.ints.2.2.2.1,h.ints.2.2.2.2.1,h.ints.2.2.2.2.2.1,hx,h.ints.2.2.2.2.2.2.2⟩⟩
theorem MIn.size_ {x:Int} (hx: -9223372036854775808≤x∧x≤9223372036854775807) (h:MIn W m pv ev):MIn W { m with size:=x } pv ev:=
 ⟨h.parts,h.extra,h.nparts,h.nextra,h.i64s,h.fits,h.kind,h.texts,⟨h.ints.1,h.ints.2.1,h.ints.2.2.1,h.ints.2.2.2.1,h.ints.2.2.2.2.1,h.ints.2.2.2.2.2.1,h.ints.2.2.2.2.2.2.1,hx,h.ints.2.2.2.2.2.2.2.2⟩⟩
theorem MIn.real_ {x:Int} (hx: -9223372036854775808≤x∧x≤9223372036854775807) (h:MIn W m pv ev):MIn W { m with real:=x } pv ev:=
 ⟨h.parts,h.extra,h.nparts,h.nextra,h.i64s,h.fits,h.kind,h.texts,⟨h.ints.1,h.ints.2.1,h.ints.2.2.1,h.ints.2.2.2.1,h.ints.2.2.2.2.1,h.ints.2.2.2.2.2.1,h.ints.2.2.2.2.2.2.1,h.ints.2.2.2.2.2.2.2.1,hx⟩⟩
theorem MIn.name_ {s:ByteArray} (hx:s.size≤1048576) (h:MIn W m pv ev):MIn W { m with name:=s } pv ev:=
 ⟨h.parts,h.extra,h.nparts,h.nextra,h.i64s,h.fits,h.kind,⟨hx,h.texts.2⟩,h.ints⟩
theorem MIn.link_ {s:ByteArray} (hx:s.size≤1048576) (h:MIn W m pv ev):MIn W { m with link:=s } pv ev:=
 ⟨h.parts,h.extra,h.nparts,h.nextra,h.i64s,h.fits,h.kind,⟨h.texts.1,hx,h.texts.2.2⟩,h.ints⟩
theorem MIn.holes_ (b:Bool) (h:MIn W m pv ev):MIn W { m with holes:=b } pv ev:=
 ⟨h.parts,h.extra,h.nparts,h.nextra,h.i64s,h.fits,h.kind,h.texts,h.ints⟩
theorem oneP (h:MIn W m pv ev):pv.oneCell'=true∧ev.oneCell'=true:=by
 obtain ⟨A,c,e1,_⟩:=h.parts
 obtain ⟨A',c',e2,_⟩:=h.extra
 rw [e1,e2];exact ⟨rfl,rfl⟩
end
theorem results_law {tmps:Array Value} {g:Nat} {m:M.Met} {pv ev:Value} {w:World} (hb:MB w g m pv ev) (h2:tmps.getD 2 undef= .pointer (some ⟨g,0,none⟩)):
  (results Tryz.f16 tmps).run Tryz.prog w= .ok (.agg (mcells m pv ev)) w:=by
 rw [Array.getD_eq_getD_getElem?] at h2
 have hl:=run_loadVar_row (P:=Tryz.prog) w g 35 35 (mcells m pv ev) (0,0) _ hb Tryz.underlying35 rfl met_size
 simp [results,Tryz.results16,h2,asAddr,hl]
theorem MQ.weak {nb nc:Nat} {w W:World} {g:Nat} (q:MQ nb w W g) (h:nb≤nc):MQ nc w W g:=by
 obtain ⟨m,pv,ev,h1,h2,h3⟩:=q.ex
 exact ⟨⟨m,pv,ev,h1,h2,⟨h3.1.1,Nat.le_trans h3.1.2 h⟩,h3.2⟩,q.res,q.low,q.below⟩
theorem MQ.rename {nb:Nat} {w W:World} {g:Nat} (q:MQ nb w W g) (nc:Nat) (s:ByteArray) (h:1≤s.size∧s.size≤nc) (hc:nc≤1048576):MQ nc w (W.setCell ⟨g,0,none⟩ (.string s)) g:=by
 obtain ⟨m,pv,ev,h1,h2,h3⟩:=q.ex
 refine ⟨⟨{ m with name:=s },pv,ev,h1.set 0 (.string s) rfl,fun W2 hW=>(h2 W2 ((MBut.set g W 0 (.string s)).trans hW)).name_ (Nat.le_trans h.2 hc),h,h3.2⟩,q.res.other (by have:=q.low;show w.heap.size≠g;omega) (.string s),q.low,q.below.setCell (p:=⟨g,0,none⟩) (Nat.le_of_lt q.low) (.string s)⟩
theorem MQ.sz {nb:Nat} {w W:World} {g:Nat} (q:MQ nb w W g): ∃ z:Int,W.cell? ⟨g,12,none⟩=some (.int .i64 z)∧ -9223372036854775808≤z∧z≤9223372036854775807:=by
 obtain ⟨m,pv,ev,h1,h2,h3⟩:=q.ex
 exact ⟨m.size,h1.cell rfl,(h2 W (MBut.refl _ _ _)).ints.2.2.2.2.2.2.2.1⟩
theorem own_but {g:Nat} {W W':World} {base:Nat} {e:TypeId} {size:Nat} {v:Value} {n:Nat} {xs:List Value} (h:W.ownsRow base e size v n xs) (hb:g<base) {r:Nat} (hr:r<base) (hw:MBut g r W W'):W'.ownsRow base e size v n xs:=by
 refine ⟨h.1, ?_⟩
 rcases h.2 with hn|⟨k,cap,cur,hv,hbk,hh,rest⟩
 ·exact .inl hn
 ·exact .inr ⟨k,cap,cur,hv,hbk,(hw.block k (Array.getElem?_eq_some_iff.1 hh).1 (by omega) (by omega)).trans hh,rest⟩
theorem MQ.parts {nb:Nat} {w W:World} {g:Nat} (q:MQ nb w W g) (A:Option Addr) (c:Nat) (l:List Sp.M.Pt) (b:Nat) (ho:Sp.OwnP W b (.slice A l.length c) l) (hb:g<b) (hl:l.length≤1048576) (hi:Sp.M.i64s l):
  MQ nb w (W.setCell ⟨g,15,none⟩ (.slice A l.length c)) g:=by
 obtain ⟨m,pv,ev,h1,h2,h3⟩:=q.ex
 refine ⟨⟨{ m with parts:=l }, .slice A l.length c,ev,h1.set 15 (.slice A l.length c) rfl,fun W2 hW=> ?_,h3.1,(fun a n' c' hv=>by
  injection hv with e1 _ _
  subst e1
  have h4:=(World.ownsRow.lt ho a.block rfl).1
  have:=q.low
  omega),h3.2.2⟩,q.res.other (by have:=q.low;show w.heap.size≠g;omega) _,q.low,q.below.setCell (p:=⟨g,15,none⟩) (Nat.le_of_lt q.low) _⟩
 have hB:=(MBut.set g W 15 (.slice A l.length c)).trans hW
 have h:=h2 W2 hB
 have ho2:Sp.OwnP W2 b (.slice A l.length c) l:=own_but ho hb (Nat.lt_trans q.low hb) hB
 obtain ⟨A',c',hv,hr,_⟩:=ho2.rd
 injection hv with a1 a2 a3
 exact ⟨⟨A,c,rfl,by rw [a1];exact hr⟩,h.extra,hl,h.nextra,hi,h.fits,h.kind,h.texts,h.ints⟩
theorem MQ.extra {nb:Nat} {w W:World} {g:Nat} (q:MQ nb w W g) (b:Nat) (t:TypeId) (s1 s2 s3 s4:ByteArray) (hh:W.heap[b]?=some (.cells #[.string s1, .string s2, .string s3, .string s4] t (0,0))) (hb:g<b)
  (hs:(s1.size≤1048576∧s2.size≤1048576)∧s3.size≤1048576∧s4.size≤1048576):MQ nb w (W.setCell ⟨g,16,none⟩ (.slice (some ⟨b,0,none⟩) 2 2)) g:=by
 obtain ⟨m,pv,ev,h1,h2,h3⟩:=q.ex
 refine ⟨⟨{ m with extra:= [(s1,s2),(s3,s4)] },pv, .slice (some ⟨b,0,none⟩) 2 2,h1.set 16 _ rfl,fun W2 hW=> ?_,h3.1,h3.2.1,(fun a n' c' hv=>by
  injection hv with e1 _ _
  injection e1 with e1
  subst e1
  have:=q.low
  show w.heap.size≤b
  omega)⟩,q.res.other (by have:=q.low;show w.heap.size≠g;omega) _,q.low,q.below.setCell (p:=⟨g,16,none⟩) (Nat.le_of_lt q.low) _⟩
 have hB:=(MBut.set g W 16 (.slice (some ⟨b,0,none⟩) 2 2)).trans hW
 have h:=h2 W2 hB
 have hlt:=(Array.getElem?_eq_some_iff.1 hh).1
 have hh2:=(hB.block b hlt (by omega) (by have:=q.low;omega)).trans hh
 refine ⟨h.parts,⟨some ⟨b,0,none⟩,2,rfl,fun _=>⟨b,0,rfl,Nat.lt_of_lt_of_le hlt hB.size,fun k r hr=> ?_⟩⟩,h.nparts,by show (2:Nat)≤500000;decide,h.i64s, ?_,h.kind,h.texts,h.ints⟩
 ·match k,hr with
  |0,hr=>cases hr;exact ⟨(cell_of_row _ _ _ _ _ (0,0) hh2).trans rfl,(cell_of_row _ _ _ _ _ (0,0) hh2).trans rfl⟩
  |1,hr=>cases hr;exact ⟨(cell_of_row _ _ _ _ _ (0,0) hh2).trans rfl,(cell_of_row _ _ _ _ _ (0,0) hh2).trans rfl⟩
  |k+2,hr=>simp at hr
 ·intro r hr
  rcases List.mem_cons.1 hr with rfl|hr
  ·exact hs.1
  ·rcases List.mem_singleton.1 hr with rfl
   exact hs.2
set_option maxRecDepth 100000 in
set_option maxHeartbeats 4000000 in
theorem lawMeta_new (A:Option Addr) (n c:Nat) (zs:List Int) (w:World) (hr:Sp.Rd w w.heap.size A n zs) (hc:n≤c) (hcm:c≤maxLen):
  Calls Tryz.prog 16 #[.slice A n c] w fun e w'=> ∃ m pv ev,e= .returned (.agg (mcells m pv ev))∧MIn w' m pv ev∧Below w.heap.size w w'∧NewV w.heap.size pv∧NewV w.heap.size ev:=by
 have HPt:=hid (fun (A2:Option Addr) (n2 c2:Nat) (zs2:List Int) (W:World) (hW:Below w.heap.size w W) (h2:Sp.Rd w w.heap.size A2 n2 zs2) (h3:n2≤maxLen)=>Sp.lawParts_any A2 n2 c2 zs2 W ((h2.below hW).more hW.size) h3)
 have HC1:=hid hr
 have HC2:=hid (show 10<n→Sp.Rd w w.heap.size (A.map (·.add 10)) (n - 10) (zs.drop 10) from fun h=>by have:=hr.cut (c:=c) (k:=10) (by omega) hc;unfold Sp.cutA at this;rwa [if_neg (by omega)] at this)
 have HC3:=hid (show n≤maxLen from Nat.le_trans hc hcm)
 unfold maxLen at hcm
 have HG:=hid (fun (i:Nat) (hi:i≤1000)=>(⟨(gz zs i).toNat,by have:=gz_bd hr.2.1 i;omega,fun (W:World) (hW:Below w.heap.size w W)=>by
  have h:=g_any A n c zs i (by omega) hi W w.heap.size (hr.below hW)
  rwa [show gz zs i=(((gz zs i).toNat:Nat):Int) by have:=gz_bd hr.2.1 i;omega] at h⟩: ∃ k:Nat,k≤255∧ ∀ W,Below w.heap.size w W→Calls Tryz.prog 30 #[.slice A n c, .int .i64 i] W (fun e w'=>e= .returned (.int .i64 (k:Int))∧Below W.heap.size W w')))
 obtain ⟨k0,hk0,g0⟩:=HG.out 0 (by decide)
 have G0:=hid (show ∀ W,Below w.heap.size w W→Calls Tryz.prog 30 #[.slice A n c, .int .i64 0] W (fun e w'=>e= .returned (.int .i64 (k0:Int))∧Below W.heap.size W w') from g0)
 clear g0
 obtain ⟨k1,hk1,g1⟩:=HG.out 1 (by decide)
 have G1:=hid (show ∀ W,Below w.heap.size w W→Calls Tryz.prog 30 #[.slice A n c, .int .i64 1] W (fun e w'=>e= .returned (.int .i64 (k1:Int))∧Below W.heap.size W w') from g1)
 clear g1
 obtain ⟨k2,hk2,g2⟩:=HG.out 2 (by decide)
 have G2:=hid (show ∀ W,Below w.heap.size w W→Calls Tryz.prog 30 #[.slice A n c, .int .i64 2] W (fun e w'=>e= .returned (.int .i64 (k2:Int))∧Below W.heap.size W w') from g2)
 clear g2
 obtain ⟨k3,hk3,g3⟩:=HG.out 3 (by decide)
 have G3:=hid (show ∀ W,Below w.heap.size w W→Calls Tryz.prog 30 #[.slice A n c, .int .i64 3] W (fun e w'=>e= .returned (.int .i64 (k3:Int))∧Below W.heap.size W w') from g3)
 clear g3
 obtain ⟨k4,hk4,g4⟩:=HG.out 4 (by decide)
 have G4:=hid (show ∀ W,Below w.heap.size w W→Calls Tryz.prog 30 #[.slice A n c, .int .i64 4] W (fun e w'=>e= .returned (.int .i64 (k4:Int))∧Below W.heap.size W w') from g4)
 clear g4
 obtain ⟨k5,hk5,g5⟩:=HG.out 5 (by decide)
 have G5:=hid (show ∀ W,Below w.heap.size w W→Calls Tryz.prog 30 #[.slice A n c, .int .i64 5] W (fun e w'=>e= .returned (.int .i64 (k5:Int))∧Below W.heap.size W w') from g5)
 clear g5
 obtain ⟨k6,hk6,g6⟩:=HG.out 6 (by decide)
 have G6:=hid (show ∀ W,Below w.heap.size w W→Calls Tryz.prog 30 #[.slice A n c, .int .i64 6] W (fun e w'=>e= .returned (.int .i64 (k6:Int))∧Below W.heap.size W w') from g6)
 clear g6
 obtain ⟨k7,hk7,g7⟩:=HG.out 7 (by decide)
 have G7:=hid (show ∀ W,Below w.heap.size w W→Calls Tryz.prog 30 #[.slice A n c, .int .i64 7] W (fun e w'=>e= .returned (.int .i64 (k7:Int))∧Below W.heap.size W w') from g7)
 clear g7
 obtain ⟨k8,hk8,g8⟩:=HG.out 8 (by decide)
 have G8:=hid (show ∀ W,Below w.heap.size w W→Calls Tryz.prog 30 #[.slice A n c, .int .i64 8] W (fun e w'=>e= .returned (.int .i64 (k8:Int))∧Below W.heap.size W w') from g8)
 clear g8
 obtain ⟨k9,hk9,g9⟩:=HG.out 9 (by decide)
 have G9:=hid (show ∀ W,Below w.heap.size w W→Calls Tryz.prog 30 #[.slice A n c, .int .i64 9] W (fun e w'=>e= .returned (.int .i64 (k9:Int))∧Below W.heap.size W w') from g9)
 clear g9
 obtain ⟨j1,hj1⟩: ∃ j:Nat,j=k1%8:=⟨_,rfl⟩
 obtain ⟨j5,hj5⟩: ∃ j:Nat,j=k5%40:=⟨_,rfl⟩
 have hj18:j1<8:=by omega
 have hj54:j5<40:=by omega
 have hj1i:(j1:Int)<8:=by omega
 have e1a:(k1:Int)%8=(j1:Int):=by omega
 have e1b:(k1:Int).tmod 8=(j1:Int):=by rw [Int.tmod_eq_emod_of_nonneg (by omega)];exact e1a
 have e5a:(k5:Int)%40=(j5:Int):=by omega
 have e5b:(k5:Int).tmod 40=(j5:Int):=by rw [Int.tmod_eq_emod_of_nonneg (by omega)];exact e5a
 obtain ⟨kk,hkk,hkl⟩: ∃ kk:Int,(0≤kk∧kk≤255)∧(#[.int .u8 48, .int .u8 48, .int .u8 48, .int .u8 53, .int .u8 50, .int .u8 49, .int .u8 51, .int .u8 54]:Array Value)[j1]?=some (.int .u8 kk):=by
  have:j1=0∨j1=1∨j1=2∨j1=3∨j1=4∨j1=5∨j1=6∨j1=7:=by omega
  rcases this with h|h|h|h|h|h|h|h<;>rw [h]<;>exact ⟨_,by decide,rfl⟩
 have HNm:=hid (fun W=>name_any k0 hk0 W)
 have HTx:=hid (fun W=>textX_any j5 (by omega) W)
 have HNm8:=hid (fun W=>name_any k8 hk8 W)
 have HS8:=hid (show (nameT k8).size≤1048576 by have:=(nameT_size k8 hk8).2;omega)
 have HTx7:=hid (fun W=>textX_any k7 (by omega) W)
 clear hj1 hj5
 go_enter Tryz.func16,Tryz.ntmps16
 go_wp2_with fail
 generalize hw0:World.alloc w _=w0
 have B0:=hid (show Below w.heap.size w w0 by rw [←hw0];exact (Below.refl _ w).alloc (Nat.le_refl _) _)
 have HRes:=hid (show MB w0 w.heap.size {} (.slice none 0 0) (.slice none 0 0) by rw [←hw0];exact MB.new w {} (.slice none 0 0) (.slice none 0 0))
 clear hw0
 refine wp_region_rows [8,9,10,11,12,13,14,15,16,17,18,19,20,21,22,23,24,25,26,27,28,29,30,31,32,3] (by kernel_rfl) (by kernel_rfl) (by kernel_rfl) (fun (i:Nat) (v:Value) (W:World)=>match i with
  |0=>v= .slice A n c
  |1=>v= .int .i64 (k0:Int)
  |2=>v= .string (nameT k0)
  |3=> ∃ b:Nat,v= .slice (some ⟨b,0,none⟩) 8 8∧b<W.heap.size∧W.heap[b]?=some (.cells #[.int .u8 48, .int .u8 48, .int .u8 48, .int .u8 53, .int .u8 50, .int .u8 49, .int .u8 51, .int .u8 54] 5 (0,0))
  |4=>v= .slice A n c
  |5=>v= .int .i64 (k1:Int)
  |6=>v= .int .i64 (j1:Int)
  |7=> ∃ b:Nat,v= .pointer (some ⟨b,j1,none⟩)∧b<W.heap.size∧W.cell? ⟨b,j1,none⟩=some (.int .u8 kk)
  |8=>v= .int .u8 kk
  |9=>v= .slice A n c
  |10=>v= .int .i64 (k2:Int)
  |11=>v= .slice A n c
  |12=>v= .int .i64 (k3:Int)
  |13=>v= .slice A n c
  |14=>v= .int .i64 (k4:Int)
  |15=>v= .int .i64 ((k4:Int)*20000)
  |16=>v= .slice A n c
  |17=>v= .int .i64 (k5:Int)
  |18=>v= .int .i64 (j5:Int)
  |19=>v= .string (wordT j5 j5)
  |20=>v= .slice A n c
  |21=>v= .int .i64 (k6:Int)
  |22=>v= .int .i64 ((k6:Int) - 3)
  |23=>v= .agg #[.int .i64 ((k6:Int) - 3), .int .i64 0]
  |24=>v= .agg (mcells { name:=nameT k0,kind:=kk,mode:=k2,uid:=k3,gid:=(k4:Int)*20000,user:=wordT j5 j5,group:=⟨#[103]⟩,sec:=(k6:Int) - 3 } (.slice none 0 0) (.slice none 0 0))
  |_=> ∃ g:Nat,v= .pointer (some ⟨g,0,none⟩)∧w0.heap.size≤g∧g<W.heap.size∧MB W g {} (.slice none 0 0) (.slice none 0 0)) ?_ ?_ ?_
 ·intro i hi v w1 w2 hb hR
  have h26:i<26:=hi
  have hi':i=0∨i=1∨i=2∨i=3∨i=4∨i=5∨i=6∨i=7∨i=8∨i=9∨i=10∨i=11∨i=12∨i=13∨i=14∨i=15∨i=16∨i=17∨i=18∨i=19∨i=20∨i=21∨i=22∨i=23∨i=24∨i=25:=by omega
  clear h26 hi
  rcases hi' with rfl|rfl|rfl|rfl|rfl|rfl|rfl|rfl|rfl|rfl|rfl|rfl|rfl|rfl|rfl|rfl|rfl|rfl|rfl|rfl|rfl|rfl|rfl|rfl|rfl|rfl
  ·exact hR
  ·exact hR
  ·exact hR
  ·obtain ⟨b,h1,h2,h3⟩:=hR
   exact ⟨b,h1,Nat.lt_of_lt_of_le h2 hb.size,(hb.block b h2).trans h3⟩
  ·exact hR
  ·exact hR
  ·exact hR
  ·obtain ⟨b,h1,h2,h3⟩:=hR
   exact ⟨b,h1,Nat.lt_of_lt_of_le h2 hb.size,(hb.cell (p:=⟨b,j1,none⟩) h2).trans h3⟩
  ·exact hR
  ·exact hR
  ·exact hR
  ·exact hR
  ·exact hR
  ·exact hR
  ·exact hR
  ·exact hR
  ·exact hR
  ·exact hR
  ·exact hR
  ·exact hR
  ·exact hR
  ·exact hR
  ·exact hR
  ·exact hR
  ·exact hR
  ·obtain ⟨b,h1,h2,h3,h4⟩:=hR
   exact ⟨b,h1,h2,Nat.lt_of_lt_of_le h3 hb.size,h4.below hb h3⟩
 ·intro i hi o ho a w1 hw hpar hp
  have h26:i<26:=hi
  have hsl:a.eval (.tmp 0)= .slice A n c:=hpar 0 (by decide)
  have hB1:=B0.out.trans (hw.mono B0.out.size)
  have hi':i=0∨i=1∨i=2∨i=3∨i=4∨i=5∨i=6∨i=7∨i=8∨i=9∨i=10∨i=11∨i=12∨i=13∨i=14∨i=15∨i=16∨i=17∨i=18∨i=19∨i=20∨i=21∨i=22∨i=23∨i=24∨i=25:=by omega
  clear h26 hi
  rcases hi' with rfl|rfl|rfl|rfl|rfl|rfl|rfl|rfl|rfl|rfl|rfl|rfl|rfl|rfl|rfl|rfl|rfl|rfl|rfl|rfl|rfl|rfl|rfl|rfl|rfl|rfl
  ·simp only [List.getElem?_toArray,List.getElem?_cons_zero,List.getElem?_cons_succ,Option.some.injEq] at ho
   subst ho
   have hs0:=(eval_getD a 0).symm.trans hsl
   clear hp hpar hsl
   go_simp
   exact ⟨_,rfl,rfl,Below.refl _ _⟩
  ·simp only [List.getElem?_toArray,List.getElem?_cons_zero,List.getElem?_cons_succ,Option.some.injEq] at ho
   subst ho
   have h0:a.tmps[8]?.getD undef= .slice A n c:=(eval_getD a 8).symm.trans (hp ⟨0, .data⟩ (by simp) rfl)
   clear hp hpar hsl
   go_simp
   (with_reducible refine (G0.out w1 hB1).mono ?_)
   rintro e w2 ⟨rfl,h2⟩
   exact ⟨_,rfl,rfl,h2⟩
  ·simp only [List.getElem?_toArray,List.getElem?_cons_zero,List.getElem?_cons_succ,Option.some.injEq] at ho
   subst ho
   have h1:a.tmps[9]?.getD undef= .int .i64 (k0:Int):=(eval_getD a 9).symm.trans (hp ⟨1, .data⟩ (by simp) rfl)
   clear hp hpar hsl
   go_simp
   (with_reducible refine (HNm.out w1).mono ?_)
   rintro e w2 ⟨rfl,h2⟩
   exact ⟨_,rfl,rfl,h2⟩
  ·simp only [List.getElem?_toArray,List.getElem?_cons_zero,List.getElem?_cons_succ,Option.some.injEq] at ho
   subst ho
   clear hp hpar hsl
   go_simp
   exact ⟨_,rfl,⟨w1.heap.size,rfl,Nat.lt_succ_self _,heap_alloc_new w1 _⟩,(Below.refl _ _).alloc (Nat.le_refl _) _⟩
  ·simp only [List.getElem?_toArray,List.getElem?_cons_zero,List.getElem?_cons_succ,Option.some.injEq] at ho
   subst ho
   have hs0:=(eval_getD a 0).symm.trans hsl
   clear hp hpar hsl
   go_simp
   exact ⟨_,rfl,rfl,Below.refl _ _⟩
  ·simp only [List.getElem?_toArray,List.getElem?_cons_zero,List.getElem?_cons_succ,Option.some.injEq] at ho
   subst ho
   have h4:a.tmps[12]?.getD undef= .slice A n c:=(eval_getD a 12).symm.trans (hp ⟨4, .data⟩ (by simp) rfl)
   clear hp hpar hsl
   go_simp
   (with_reducible refine (G1.out w1 hB1).mono ?_)
   rintro e w2 ⟨rfl,h2⟩
   exact ⟨_,rfl,rfl,h2⟩
  ·simp only [List.getElem?_toArray,List.getElem?_cons_zero,List.getElem?_cons_succ,Option.some.injEq] at ho
   subst ho
   have h5:a.tmps[13]?.getD undef= .int .i64 (k1:Int):=(eval_getD a 13).symm.trans (hp ⟨5, .data⟩ (by simp) rfl)
   clear hp hpar hsl
   go_simp
   exact ⟨_,rfl,rfl,Below.refl _ _⟩
  ·simp only [List.getElem?_toArray,List.getElem?_cons_zero,List.getElem?_cons_succ,Option.some.injEq] at ho
   subst ho
   obtain ⟨b3,h3,hb3,hc3⟩: ∃ b:Nat,a.eval (.tmp 11)= .slice (some ⟨b,0,none⟩) 8 8∧b<w1.heap.size∧w1.heap[b]?=some (.cells #[.int .u8 48, .int .u8 48, .int .u8 48, .int .u8 53, .int .u8 50, .int .u8 49, .int .u8 51, .int .u8 54] 5 (0,0)):=hp ⟨3, .data⟩ (by simp) rfl
   rw [eval_getD] at h3
   have h6:a.tmps[14]?.getD undef= .int .i64 (j1:Int):=(eval_getD a 14).symm.trans (hp ⟨6, .data⟩ (by simp) rfl)
   clear hp hpar hsl
   go_simp
   refine ⟨_,rfl,⟨b3, ?_,hb3, ?_⟩,Below.refl _ _⟩
   ·first|rfl|simp
   ·rw [cell_of_row _ _ _ _ _ (0,0) hc3];exact hkl
  ·simp only [List.getElem?_toArray,List.getElem?_cons_zero,List.getElem?_cons_succ,Option.some.injEq] at ho
   subst ho
   obtain ⟨b7,h7,hb7,hc7⟩: ∃ b:Nat,a.eval (.tmp 15)= .pointer (some ⟨b,j1,none⟩)∧b<w1.heap.size∧w1.cell? ⟨b,j1,none⟩=some (.int .u8 kk):=hp ⟨7, .data⟩ (by simp) rfl
   rw [eval_getD] at h7
   clear hp hpar hsl
   go_simp
   exact ⟨_,rfl,rfl,Below.refl _ _⟩
  ·simp only [List.getElem?_toArray,List.getElem?_cons_zero,List.getElem?_cons_succ,Option.some.injEq] at ho
   subst ho
   have hs0:=(eval_getD a 0).symm.trans hsl
   clear hp hpar hsl
   go_simp
   exact ⟨_,rfl,rfl,Below.refl _ _⟩
  ·simp only [List.getElem?_toArray,List.getElem?_cons_zero,List.getElem?_cons_succ,Option.some.injEq] at ho
   subst ho
   have h9:a.tmps[17]?.getD undef= .slice A n c:=(eval_getD a 17).symm.trans (hp ⟨9, .data⟩ (by simp) rfl)
   clear hp hpar hsl
   go_simp
   (with_reducible refine (G2.out w1 hB1).mono ?_)
   rintro e w2 ⟨rfl,h2⟩
   exact ⟨_,rfl,rfl,h2⟩
  ·simp only [List.getElem?_toArray,List.getElem?_cons_zero,List.getElem?_cons_succ,Option.some.injEq] at ho
   subst ho
   have hs0:=(eval_getD a 0).symm.trans hsl
   clear hp hpar hsl
   go_simp
   exact ⟨_,rfl,rfl,Below.refl _ _⟩
  ·simp only [List.getElem?_toArray,List.getElem?_cons_zero,List.getElem?_cons_succ,Option.some.injEq] at ho
   subst ho
   have h11:a.tmps[19]?.getD undef= .slice A n c:=(eval_getD a 19).symm.trans (hp ⟨11, .data⟩ (by simp) rfl)
   clear hp hpar hsl
   go_simp
   (with_reducible refine (G3.out w1 hB1).mono ?_)
   rintro e w2 ⟨rfl,h2⟩
   exact ⟨_,rfl,rfl,h2⟩
  ·simp only [List.getElem?_toArray,List.getElem?_cons_zero,List.getElem?_cons_succ,Option.some.injEq] at ho
   subst ho
   have hs0:=(eval_getD a 0).symm.trans hsl
   clear hp hpar hsl
   go_simp
   exact ⟨_,rfl,rfl,Below.refl _ _⟩
  ·simp only [List.getElem?_toArray,List.getElem?_cons_zero,List.getElem?_cons_succ,Option.some.injEq] at ho
   subst ho
   have h13:a.tmps[21]?.getD undef= .slice A n c:=(eval_getD a 21).symm.trans (hp ⟨13, .data⟩ (by simp) rfl)
   clear hp hpar hsl
   go_simp
   (with_reducible refine (G4.out w1 hB1).mono ?_)
   rintro e w2 ⟨rfl,h2⟩
   exact ⟨_,rfl,rfl,h2⟩
  ·simp only [List.getElem?_toArray,List.getElem?_cons_zero,List.getElem?_cons_succ,Option.some.injEq] at ho
   subst ho
   have h14:a.tmps[22]?.getD undef= .int .i64 (k4:Int):=(eval_getD a 22).symm.trans (hp ⟨14, .data⟩ (by simp) rfl)
   clear hp hpar hsl
   go_simp
   first|exact ⟨_,rfl,rfl,Below.refl _ _⟩|exact ⟨_,rfl,congrArg (Value.int .i64) (IntWalk.i64_in _ (by omega)),Below.refl _ _⟩
  ·simp only [List.getElem?_toArray,List.getElem?_cons_zero,List.getElem?_cons_succ,Option.some.injEq] at ho
   subst ho
   have hs0:=(eval_getD a 0).symm.trans hsl
   clear hp hpar hsl
   go_simp
   exact ⟨_,rfl,rfl,Below.refl _ _⟩
  ·simp only [List.getElem?_toArray,List.getElem?_cons_zero,List.getElem?_cons_succ,Option.some.injEq] at ho
   subst ho
   have h16:a.tmps[24]?.getD undef= .slice A n c:=(eval_getD a 24).symm.trans (hp ⟨16, .data⟩ (by simp) rfl)
   clear hp hpar hsl
   go_simp
   (with_reducible refine (G5.out w1 hB1).mono ?_)
   rintro e w2 ⟨rfl,h2⟩
   exact ⟨_,rfl,rfl,h2⟩
  ·simp only [List.getElem?_toArray,List.getElem?_cons_zero,List.getElem?_cons_succ,Option.some.injEq] at ho
   subst ho
   have h17:a.tmps[25]?.getD undef= .int .i64 (k5:Int):=(eval_getD a 25).symm.trans (hp ⟨17, .data⟩ (by simp) rfl)
   clear hp hpar hsl
   go_simp
   exact ⟨_,rfl,rfl,Below.refl _ _⟩
  ·simp only [List.getElem?_toArray,List.getElem?_cons_zero,List.getElem?_cons_succ,Option.some.injEq] at ho
   subst ho
   have h18:a.tmps[26]?.getD undef= .int .i64 (j5:Int):=(eval_getD a 26).symm.trans (hp ⟨18, .data⟩ (by simp) rfl)
   clear hp hpar hsl
   go_simp
   (with_reducible refine (HTx.out w1).mono ?_)
   rintro e w2 ⟨rfl,h2⟩
   exact ⟨_,rfl,rfl,h2⟩
  ·simp only [List.getElem?_toArray,List.getElem?_cons_zero,List.getElem?_cons_succ,Option.some.injEq] at ho
   subst ho
   have hs0:=(eval_getD a 0).symm.trans hsl
   clear hp hpar hsl
   go_simp
   exact ⟨_,rfl,rfl,Below.refl _ _⟩
  ·simp only [List.getElem?_toArray,List.getElem?_cons_zero,List.getElem?_cons_succ,Option.some.injEq] at ho
   subst ho
   have h20:a.tmps[28]?.getD undef= .slice A n c:=(eval_getD a 28).symm.trans (hp ⟨20, .data⟩ (by simp) rfl)
   clear hp hpar hsl
   go_simp
   (with_reducible refine (G6.out w1 hB1).mono ?_)
   rintro e w2 ⟨rfl,h2⟩
   exact ⟨_,rfl,rfl,h2⟩
  ·simp only [List.getElem?_toArray,List.getElem?_cons_zero,List.getElem?_cons_succ,Option.some.injEq] at ho
   subst ho
   have h21:a.tmps[29]?.getD undef= .int .i64 (k6:Int):=(eval_getD a 29).symm.trans (hp ⟨21, .data⟩ (by simp) rfl)
   clear hp hpar hsl
   go_simp
   first|exact ⟨_,rfl,rfl,Below.refl _ _⟩|exact ⟨_,rfl,congrArg (Value.int .i64) (IntWalk.i64_in _ (by omega)),Below.refl _ _⟩
  ·simp only [List.getElem?_toArray,List.getElem?_cons_zero,List.getElem?_cons_succ,Option.some.injEq] at ho
   subst ho
   have h22:a.tmps[30]?.getD undef= .int .i64 ((k6:Int) - 3):=(eval_getD a 30).symm.trans (hp ⟨22, .data⟩ (by simp) rfl)
   clear hp hpar hsl
   go_simp
   exact ⟨_,rfl,rfl,Below.refl _ _⟩
  ·simp only [List.getElem?_toArray,List.getElem?_cons_zero,List.getElem?_cons_succ,Option.some.injEq] at ho
   subst ho
   have h2:a.tmps[10]?.getD undef= .string (nameT k0):=(eval_getD a 10).symm.trans (hp ⟨2, .data⟩ (by simp) rfl)
   have h8:a.tmps[16]?.getD undef= .int .u8 kk:=(eval_getD a 16).symm.trans (hp ⟨8, .data⟩ (by simp) rfl)
   have h10:a.tmps[18]?.getD undef= .int .i64 (k2:Int):=(eval_getD a 18).symm.trans (hp ⟨10, .data⟩ (by simp) rfl)
   have h12:a.tmps[20]?.getD undef= .int .i64 (k3:Int):=(eval_getD a 20).symm.trans (hp ⟨12, .data⟩ (by simp) rfl)
   have h15:a.tmps[23]?.getD undef= .int .i64 ((k4:Int)*20000):=(eval_getD a 23).symm.trans (hp ⟨15, .data⟩ (by simp) rfl)
   have h19:a.tmps[27]?.getD undef= .string (wordT j5 j5):=(eval_getD a 27).symm.trans (hp ⟨19, .data⟩ (by simp) rfl)
   have h23:a.tmps[31]?.getD undef= .agg #[.int .i64 ((k6:Int) - 3), .int .i64 0]:=(eval_getD a 31).symm.trans (hp ⟨23, .data⟩ (by simp) rfl)
   clear hp hpar hsl
   go_simp
   exact ⟨_,rfl,rfl,Below.refl _ _⟩
  ·simp only [List.getElem?_toArray,List.getElem?_cons_zero,List.getElem?_cons_succ,Option.some.injEq] at ho
   subst ho
   clear hp hpar hsl
   go_simp
   exact ⟨_,rfl,⟨w1.heap.size,rfl,hw.size,Nat.lt_succ_self _,MB.new w1 {} (.slice none 0 0) (.slice none 0 0)⟩,(Below.refl _ _).alloc (Nat.le_refl _) _⟩
 ·intro o ho vs w1 hw h
  simp only [List.length_cons,List.length_nil,Nat.reduceAdd,List.getElem?_toArray,List.getElem?_cons_zero,List.getElem?_cons_succ,Option.some.injEq] at ho
  subst ho
  have e0:vs 0= .slice A n c:=h 0 (by decide)
  have e1:vs 1= .int .i64 (k0:Int):=h 1 (by decide)
  have e2:vs 2= .string (nameT k0):=h 2 (by decide)
  have e4:vs 4= .slice A n c:=h 4 (by decide)
  have e5:vs 5= .int .i64 (k1:Int):=h 5 (by decide)
  have e6:vs 6= .int .i64 (j1:Int):=h 6 (by decide)
  have e8:vs 8= .int .u8 kk:=h 8 (by decide)
  have e9:vs 9= .slice A n c:=h 9 (by decide)
  have e10:vs 10= .int .i64 (k2:Int):=h 10 (by decide)
  have e11:vs 11= .slice A n c:=h 11 (by decide)
  have e12:vs 12= .int .i64 (k3:Int):=h 12 (by decide)
  have e13:vs 13= .slice A n c:=h 13 (by decide)
  have e14:vs 14= .int .i64 (k4:Int):=h 14 (by decide)
  have e15:vs 15= .int .i64 ((k4:Int)*20000):=h 15 (by decide)
  have e16:vs 16= .slice A n c:=h 16 (by decide)
  have e17:vs 17= .int .i64 (k5:Int):=h 17 (by decide)
  have e18:vs 18= .int .i64 (j5:Int):=h 18 (by decide)
  have e19:vs 19= .string (wordT j5 j5):=h 19 (by decide)
  have e20:vs 20= .slice A n c:=h 20 (by decide)
  have e21:vs 21= .int .i64 (k6:Int):=h 21 (by decide)
  have e22:vs 22= .int .i64 ((k6:Int) - 3):=h 22 (by decide)
  have e23:vs 23= .agg #[.int .i64 ((k6:Int) - 3), .int .i64 0]:=h 23 (by decide)
  have e24:vs 24= .agg (mcells { name:=nameT k0,kind:=kk,mode:=k2,uid:=k3,gid:=(k4:Int)*20000,user:=wordT j5 j5,group:=⟨#[103]⟩,sec:=(k6:Int) - 3 } (.slice none 0 0) (.slice none 0 0)):=h 24 (by decide)
  have x25: ∃ g:Nat,vs 25= .pointer (some ⟨g,0,none⟩)∧w0.heap.size≤g∧g<w1.heap.size∧MB w1 g {} (.slice none 0 0) (.slice none 0 0):=h 25 (by decide)
  have y25:=Classical.choose_spec x25
  generalize Classical.choose x25=g at y25
  have e25:=y25.1
  have hg0:=hid y25.2.1
  have hg1:=hid y25.2.2.1
  have hmb:=hid y25.2.2.2
  clear x25 y25
  rw [show List.length ([8,9,10,11,12,13,14,15,16,17,18,19,20,21,22,23,24,25,26,27,28,29,30,31,32,3]:List Nat)=26 from rfl]
  rw [putAll_at 26 25 rfl (d:=3) rfl e25]
  rw [putAll_at 25 24 rfl (d:=32) rfl e24]
  rw [putAll_at 24 23 rfl (d:=31) rfl e23]
  rw [putAll_at 23 22 rfl (d:=30) rfl e22]
  rw [putAll_at 22 21 rfl (d:=29) rfl e21]
  rw [putAll_at 21 20 rfl (d:=28) rfl e20]
  rw [putAll_at 20 19 rfl (d:=27) rfl e19]
  rw [putAll_at 19 18 rfl (d:=26) rfl e18]
  rw [putAll_at 18 17 rfl (d:=25) rfl e17]
  rw [putAll_at 17 16 rfl (d:=24) rfl e16]
  rw [putAll_at 16 15 rfl (d:=23) rfl e15]
  rw [putAll_at 15 14 rfl (d:=22) rfl e14]
  rw [putAll_at 14 13 rfl (d:=21) rfl e13]
  rw [putAll_at 13 12 rfl (d:=20) rfl e12]
  rw [putAll_at 12 11 rfl (d:=19) rfl e11]
  rw [putAll_at 11 10 rfl (d:=18) rfl e10]
  rw [putAll_at 10 9 rfl (d:=17) rfl e9]
  rw [putAll_at 9 8 rfl (d:=16) rfl e8]
  rw [putAll_at 8 7 rfl (d:=15) rfl rfl]
  rw [putAll_at 7 6 rfl (d:=14) rfl e6]
  rw [putAll_at 6 5 rfl (d:=13) rfl e5]
  rw [putAll_at 5 4 rfl (d:=12) rfl e4]
  rw [putAll_at 4 3 rfl (d:=11) rfl rfl]
  rw [putAll_at 3 2 rfl (d:=10) rfl e2]
  rw [putAll_at 2 1 rfl (d:=9) rfl e1]
  rw [putAll_at 1 0 rfl (d:=8) rfl e0]
  rw [putAll_zero]
  clear h e0 e1 e2 e4 e5 e6 e8 e9 e10 e11 e12 e13 e14 e15 e16 e17 e18 e19 e20 e21 e22 e23 e24 e25
  simp only [Act.put,List.setIfInBounds_toArray,List.set_cons_zero,List.set_cons_succ]
  refine wp_store_row 35 (.tmp 3) (.tmp 32) rfl g (mcells ({ name:=nameT k0,kind:=kk,mode:=k2,uid:=k3,gid:=(k4:Int)*20000,user:=wordT j5 j5,group:=⟨#[103]⟩,sec:=(k6:Int) - 3 } :M.Met) (.slice none 0 0) (.slice none 0 0)) (by rfl) (by rfl) 35 (mcells {} (.slice none 0 0) (.slice none 0 0)) hmb.out met_size rfl (mcells_one _ rfl rfl) ?_
  have Q1:=hid (show MQ 600 w (w1.setRow g (mcells ({ name:=nameT k0,kind:=kk,mode:=k2,uid:=k3,gid:=(k4:Int)*20000,user:=wordT j5 j5,group:=⟨#[103]⟩,sec:=(k6:Int) - 3 } :M.Met) (.slice none 0 0) (.slice none 0 0))) g from by
   have hgw:w.heap.size<g:=Nat.lt_of_lt_of_le HRes.out.lt hg0.out
   have hb:=B0.out.trans (hw.mono B0.out.size)
   refine ⟨⟨({ name:=nameT k0,kind:=kk,mode:=k2,uid:=k3,gid:=(k4:Int)*20000,user:=wordT j5 j5,group:=⟨#[103]⟩,sec:=(k6:Int) - 3 } :M.Met),_,_,setRow_heap _ _ _ _ _ _ hmb.out,fun W2 _=> ?_, ?_,(fun a n' c' hv=>by cases hv),(fun a n' c' hv=>by cases hv)⟩,HRes.out.of_block ((setRow_other w1 g _ _ (by omega)).trans (hw.block _ HRes.out.lt)),hgw,hb.trans ⟨rfl,rfl,rfl,by simp,fun k hk=>setRow_other w1 g k _ (by omega)⟩⟩
   ·exact {
     parts:=⟨none,0,rfl,Sp.RdP.none_⟩
     extra:=⟨none,0,rfl,fun h=>absurd h (Nat.lt_irrefl 0)⟩
     nparts:=Nat.zero_le _
     nextra:=Nat.zero_le _
     i64s:=fun p hp=>nomatch hp
     fits:=fun r hr=>nomatch hr
     kind:=hkk
     texts:=⟨by have:=(nameT_size k0 hk0).2;show (nameT k0).size≤1048576;omega,Nat.zero_le _,by have:=wordT_size j5 j5;show (wordT j5 j5).size≤1048576;omega,by show (1:Nat)≤1048576;decide⟩
     ints:=⟨by show _≤(k2:Int)∧(k2:Int)≤_;omega,by show _≤(k3:Int)∧(k3:Int)≤_;omega,by show _≤(k4:Int)*20000∧(k4:Int)*20000≤_;omega,by show _≤(k6:Int) - 3∧(k6:Int) - 3≤_;omega,by show _≤(0:Int)∧(0:Int)≤_;decide,by show _≤(0:Int)∧(0:Int)≤_;decide,by show _≤(0:Int)∧(0:Int)≤_;decide,by show _≤(0:Int)∧(0:Int)≤_;decide,by show _≤(0:Int)∧(0:Int)≤_;decide⟩ }
   ·have:=nameT_size k0 hk0
    show 1≤(nameT k0).size∧(nameT k0).size≤600
    omega)
  clear hmb hg0 hg1 hw HRes B0
  generalize w1.setRow _ _=w2 at*
  clear e1a e1b e5a e5b hj18 hj54 hj1i hkl HNm HTx G0 G1 G4 G5
  go_wp2_with fail
  (with_reducible refine (G6.out w2 Q1.out.below).mono ?_)
  rintro e w3 ⟨rfl,b3⟩
  have Q3:=hid (Q1.out.later b3)
  clear b3 Q1
  go_upto_if 35 with fail
  generalize decide (200<(k6:Int))=bt
  go_cut [] from 36 to 40 (fun wx=>MQ 600 w wx g)
  case first=>
   cases bt with
   |false=>
    go_wp2_with fail
    go_meet
    case rel=>exact Q3.out
   |true=>
    go_wp2_with fail
    (with_reducible refine (G7.out w3 Q3.out.below).mono ?_)
    rintro e w4 ⟨rfl,b4⟩
    have Q4:=hid (Q3.out.later b4)
    clear b4 Q3
    have x9:=Q4.out.at_ 9 (by decide)
    have y9:=Classical.choose_spec x9
    generalize Classical.choose x9=o9 at y9
    have c9:=y9.1
    have f9:=y9.2
    clear x9 y9
    go_wp2_with fail
    go_meet
    case rel=>exact Q4.out.set 9 _ (fun m=> { m with nan:=1000*(k7:Int) }) (fun _ _ _=>rfl) (fun _ _ _ _ h=>h.nan_ (by omega)) (fun _ h=>h)
  case rest=>
   have Q4:=hid hcut
   clear hcut Q3
   go_upto_region 4 with fail
   go_cut [42] from 41 to 41 (fun x wx=>(∃ z:Int,x= .int .u8 z)∧MQ 600 w wx g)
   case first=>
    have xk:=Q4.out.kind
    have yk:=Classical.choose_spec xk
    generalize Classical.choose xk=z at yk
    clear xk
    go_wp2_with fail
    go_meet
    case rel=>exact ⟨⟨z,rfl⟩,Q4.out⟩
   case rest=>
   have Q4:=hid hcut.2
   have x42:=hcut.1
   clear hcut
   have y42:=Classical.choose_spec x42
   generalize Classical.choose x42=z at y42
   clear x42
   subst y42
   go_upto_block 0 with fail
   go_cut [] from 43 to 102 (fun wx=>MQ 601 w wx g)
   case first=>
    go_upto_if 43 with fail
    generalize (z==48)=b0
    cases b0 with
    |true=>
     go_wp2_with fail
     (with_reducible refine (G8.out wc Q4.out.below).mono ?_)
     rintro e w5 ⟨rfl,b5⟩
     have Q5:=hid (Q4.out.later b5)
     clear b5
     have x12:=Q5.out.at_ 12 (by decide)
     have y12:=Classical.choose_spec x12
     generalize Classical.choose x12=o12 at y12
     have c12:=y12.1
     have f12:=y12.2
     clear x12 y12
     have Q6:=hid (Q5.out.set 12 (.int .i64 (k8:Int)) (fun m=> { m with size:=(k8:Int) }) (fun _ _ _=>rfl) (fun _ _ _ _ h=>h.size_ (by omega)) (fun _ h=>h))
     go_upto_region 7 with fail
     clear c12 f12 Q5
     generalize w5.setCell _ _=w6 at*
     have xz:=Q6.out.sz
     have yz:=Classical.choose_spec xz
     generalize Classical.choose xz=zz at yz
     have cz:=yz.1
     have hz:=hid yz.2
     clear xz yz
     have x13:=Q6.out.at_ 13 (by decide)
     have y13:=Classical.choose_spec x13
     generalize Classical.choose x13=o13 at y13
     have c13:=y13.1
     have f13:=y13.2
     clear x13 y13
     have Q7:=hid (Q6.out.set 13 (.int .i64 zz) (fun m=> { m with real:=zz }) (fun _ _ _=>rfl) (fun _ _ _ _ h=>h.real_ hz.out) (fun _ h=>h))
     go_upto_region 8 with fail
     clear c13 f13 cz Q6 hz
     generalize w6.setCell _ _=w7 at*
     have xn:=Q7.out.name
     have yn:=Classical.choose_spec xn
     generalize Classical.choose xn=s0 at yn
     have c0:=yn.1
     have f0:=yn.2.1
     have hn0:=hid yn.2.2
     clear xn yn
     have hs1:=hn0.out.1
     have xj: ∃ j:Nat,s0.size=j+1:=⟨s0.size - 1,by omega⟩
     have yj:=Classical.choose_spec xj
     generalize Classical.choose xj=j at yj
     clear xj
     have ej:((s0.size:Nat):Int) - 1=(j:Int):=by omega
     have ejw:IntKind.i64.wrap (j:Int)=(j:Int):=IntWalk.i64_in _ (by have:=hn0.out.2;omega)
     have hjl:j<s0.size:=by omega
     clear hs1 yj
     go_upto_if 58 with fail
     generalize ((s0[j].toNat:Nat):Int)=z57
     clear hjl
     generalize (z57==47)=b58
     go_cut [] from 59 to 62 (fun wx=>MQ 601 w wx g)
     case first=>
      cases b58 with
      |false=>
       go_wp2_with fail
       go_meet
       case rel=>exact Q7.out.weak (by decide)
      |true=>
       have hs0:=hn0.out.2
       go_wp2_with fail
       go_meet
       case rel=>exact Q7.out.rename 601 _ (by have:=hn0.out;rw [ByteArray.size_append,show (⟨#[102]⟩:ByteArray).size=1 from rfl];omega) (by decide)
     case rest=>
      have Q8:=hid hcut
      clear hcut Q7 c0 f0 hn0 ej ejw
      go_wp2_with fail
      (with_reducible refine (G9.out wc Q8.out.below).mono ?_)
      rintro e w9 ⟨rfl,b9⟩
      have Q9:=hid (Q8.out.later b9)
      clear b9 Q8
      go_upto_if 65 with fail
      generalize decide (200<(k9:Int))=b65
      cases b65 with
      |false=>
       go_wp2_with fail
       go_meet
       case rel=>exact Q9.out
      |true=>
       go_upto_if 68 with fail
       go_cut [4] from 69 to 70 (fun x wx=>(∃ p:Option Addr × Nat × Nat × List Int,x= .slice p.1 p.2.1 p.2.2.1∧Sp.Rd w w.heap.size p.1 p.2.1 p.2.2.2∧p.2.1≤maxLen)∧wx=w9)
       case first=>
        by_cases hlt:10<n
        ·go_wp2_with fail
         go_meet
         case rel=>exact ⟨⟨(A.map (·.add 10),n - 10,c - 10,zs.drop 10),rfl,HC2.out hlt,Nat.le_trans (Nat.sub_le _ _) HC3.out⟩,rfl⟩
        ·go_wp2_with fail
         go_meet
         case rel=>exact ⟨⟨(none,0,0, []),rfl,Sp.Rd.none_,Nat.zero_le _⟩,rfl⟩
       case rest=>
        have xw:=hcut.2
        subst xw
        have x4:=hcut.1
        clear hcut
        have y4:=Classical.choose_spec x4
        generalize Classical.choose x4=p4 at y4
        clear x4
        generalize p4.1=A2 at y4
        generalize p4.2.1=n2 at y4
        generalize p4.2.2.1=c2 at y4
        generalize p4.2.2.2=zs2 at y4
        have R2:=hid y4.2
        have e4:=y4.1
        clear y4
        subst e4
        go_wp2_with fail
        (with_reducible refine (HPt.out A2 n2 c2 zs2 wc Q9.out.below R2.out.1 R2.out.2).mono ?_)
        rintro e wa ⟨v5,l5,n5,a5,rfl,ho5,hf5,ba⟩
        obtain ⟨A5,c5,rfl,hr5,hc5⟩:=ho5.rd
        have O5:=hid ho5
        have F5:=hid hf5
        clear hr5 hc5 ho5 hf5
        have Qa:=hid (Q9.out.later ba)
        have L5:=hid Q9.out.lt
        clear ba Q9
        have x14:=Qa.out.at_ 14 (by decide)
        have y14:=Classical.choose_spec x14
        generalize Classical.choose x14=o14 at y14
        have c14:=y14.1
        have f14:=y14.2
        clear x14 y14
        go_upto_region 16 with fail
        have Qb:=hid (Qa.out.set 14 (.bool true) (fun m=> { m with holes:=true }) (fun _ _ _=>rfl) (fun _ _ _ _ h=>h.holes_ true) (fun _ h=>h))
        have O6:=hid (O5.out.set (p:=⟨g,14,none⟩) L5.out (.bool true))
        clear c14 f14 Qa O5
        generalize wa.setCell _ _=wb at*
        have x15:=Qb.out.at_ 15 (by decide)
        have y15:=Classical.choose_spec x15
        generalize Classical.choose x15=o15 at y15
        have c15:=y15.1
        have f15:=y15.2
        clear x15 y15
        go_upto_region 17 with fail
        have Qc:=hid (Qb.out.parts A5 c5 l5 wc.heap.size O6.out L5.out (by have:=F5.out.len;omega) F5.out.i64)
        clear c15 f15 Qb O6
        generalize wb.setCell _ _=w12 at*
        have x12:=Qc.out.at_ 12 (by decide)
        have y12:=Classical.choose_spec x12
        generalize Classical.choose x12=o12 at y12
        have c12:=y12.1
        have f12:=y12.2
        clear x12 y12
        go_upto_region 18 with fail
        have Qd:=hid (Qc.out.set 12 (.int .i64 n5) (fun m=> { m with size:=n5 }) (fun _ _ _=>rfl) (fun _ _ _ _ h=>h.size_ (by have:=F5.out.n0;omega)) (fun _ h=>h))
        clear c12 f12 Qc
        generalize w12.setCell _ _=wd at*
        go_wp2_with fail
        (with_reducible refine (G9.out wd Qd.out.below).mono ?_)
        rintro e we ⟨rfl,be⟩
        have Qe:=hid (Qd.out.later be)
        clear be Qd
        have x13:=Qe.out.at_ 13 (by decide)
        have y13:=Classical.choose_spec x13
        generalize Classical.choose x13=o13 at y13
        have c13:=y13.1
        have f13:=y13.2
        clear x13 y13
        have e9b:(k9:Int).tmod 9=(k9:Int)%9:=Int.tmod_eq_emod_of_nonneg (by omega)
        have xm: ∃ m9:Int,(k9:Int)%9=m9∧0≤m9∧m9<9:=⟨_,rfl,by omega,by omega⟩
        have ym:=Classical.choose_spec xm
        generalize Classical.choose xm=m9 at ym
        clear xm
        have em:=ym.1
        have hm9:=hid ym.2
        clear ym
        rw [em] at e9b
        clear em
        have ew9:IntKind.i64.wrap (a5+m9)=a5+m9:=IntWalk.i64_in _ (by have:=hm9.out;have:=F5.out.e0;omega)
        go_wp2_with fail
        go_meet
        case rel=>exact Qe.out.set 13 (.int .i64 (a5+m9)) (fun m=> { m with real:=a5+m9 }) (fun _ _ _=>rfl) (fun _ _ _ _ h=>h.real_ (by have:=hm9.out;have:=F5.out.e0;omega)) (fun _ h=>h)
    |false=>
     go_upto_if 88 with fail
     generalize (z==49)=b1
     cases b1 with
     |true=>
      go_wp2_with fail
      (with_reducible refine (G8.out wc Q4.out.below).mono ?_)
      rintro e w5 ⟨rfl,b5⟩
      have Q5:=hid (Q4.out.later b5)
      clear b5
      go_wp2_with fail
      (with_reducible refine (HNm8.out w5).mono ?_)
      rintro e w6 ⟨rfl,b6⟩
      have Q6:=hid (Q5.out.later b6)
      clear b6
      have x1:=Q6.out.at_ 1 (by decide)
      have y1:=Classical.choose_spec x1
      generalize Classical.choose x1=o1 at y1
      have c1:=y1.1
      have f1:=y1.2
      clear x1 y1
      go_wp2_with fail
      go_meet
      case rel=>exact (Q6.out.set 1 _ (fun m=> { m with link:=nameT k8 }) (fun _ _ _=>rfl) (fun _ _ _ _ h=>h.link_ HS8.out) (fun _ h=>h)).weak (by decide)
     |false=>
      go_upto_region 20 with fail
      go_upto_if 88 with fail
      generalize (z==50)=b2
      cases b2 with
      |true=>
       go_wp2_with fail
       (with_reducible refine (G8.out wc Q4.out.below).mono ?_)
       rintro e w5 ⟨rfl,b5⟩
       have Q5:=hid (Q4.out.later b5)
       clear b5
       go_wp2_with fail
       (with_reducible refine (HNm8.out w5).mono ?_)
       rintro e w6 ⟨rfl,b6⟩
       have Q6:=hid (Q5.out.later b6)
       clear b6
       have x1:=Q6.out.at_ 1 (by decide)
       have y1:=Classical.choose_spec x1
       generalize Classical.choose x1=o1 at y1
       have c1:=y1.1
       have f1:=y1.2
       clear x1 y1
       go_wp2_with fail
       go_meet
       case rel=>exact (Q6.out.set 1 _ (fun m=> { m with link:=nameT k8 }) (fun _ _ _=>rfl) (fun _ _ _ _ h=>h.link_ HS8.out) (fun _ h=>h)).weak (by decide)
      |false=>
       go_upto_if 95 with fail
       generalize (z==51)=b3
       cases b3 with
       |false=>
        go_wp2_with fail
        go_meet
        case rel=>exact Q4.out.weak (by decide)
       |true=>
        go_wp2_with fail
        (with_reducible refine (G8.out wc Q4.out.below).mono ?_)
        rintro e w5 ⟨rfl,b5⟩
        have Q5:=hid (Q4.out.later b5)
        clear b5
        have x10:=Q5.out.at_ 10 (by decide)
        have y10:=Classical.choose_spec x10
        generalize Classical.choose x10=o10 at y10
        have c10:=y10.1
        have f10:=y10.2
        clear x10 y10
        have Q6:=hid (Q5.out.set 10 (.int .i64 (k8:Int)) (fun m=> { m with major:=(k8:Int) }) (fun _ _ _=>rfl) (fun _ _ _ _ h=>h.major_ (by omega)) (fun _ h=>h))
        go_upto_region 24 with fail
        clear c10 f10 Q5
        generalize w5.setCell _ _=w6 at*
        go_wp2_with fail
        (with_reducible refine (G9.out w6 Q6.out.below).mono ?_)
        rintro e w7 ⟨rfl,b7⟩
        have Q7:=hid (Q6.out.later b7)
        clear b7
        have x11:=Q7.out.at_ 11 (by decide)
        have y11:=Classical.choose_spec x11
        generalize Classical.choose x11=o11 at y11
        have c11:=y11.1
        have f11:=y11.2
        clear x11 y11
        go_wp2_with fail
        go_meet
        case rel=>exact (Q7.out.set 11 _ (fun m=> { m with minor:=(k9:Int) }) (fun _ _ _=>rfl) (fun _ _ _ _ h=>h.minor_ (by omega)) (fun _ h=>h)).weak (by decide)
   case rest=>
    have Q5:=hid hcut
    clear hcut Q4
    go_wp2_with fail
    (with_reducible refine (G7.out wc Q5.out.below).mono ?_)
    rintro e w5 ⟨rfl,b5⟩
    have Q6:=hid (Q5.out.later b5)
    clear b5 Q5
    go_upto_if 105 with fail
    generalize decide (180<(k7:Int))=b105
    go_cut [] from 106 to 112 (fun wx=>MQ 601 w wx g)
    case first=>
     cases b105 with
     |false=>
      go_wp2_with fail
      go_meet
      case rel=>exact Q6.out
     |true=>
      go_wp2_with fail
      (with_reducible refine (G7.out w5 Q6.out.below).mono ?_)
      rintro e w6 ⟨rfl,b6⟩
      have Q7:=hid (Q6.out.later b6)
      clear b6 Q6
      go_wp2_with fail
      (with_reducible refine (HTx7.out w6).mono ?_)
      rintro e w7 ⟨rfl,b7⟩
      have Q8:=hid (Q7.out.later b7)
      clear b7 Q7
      have x16:=Q8.out.at_ 16 (by decide)
      have y16:=Classical.choose_spec x16
      generalize Classical.choose x16=o16 at y16
      have c16:=y16.1
      have f16:=y16.2
      clear x16 y16
      have hg8:=Q8.out.lt
      go_wp2_with fail
      go_meet
      case rel=>
       have Qz:=(Q8.out.later ((Below.refl _ w7).alloc (Nat.le_refl _) (.cells #[.string ⟨#[97,46,98]⟩, .string (wordT k7 k7), .string ⟨#[99,111,109,109,101,110,116]⟩, .string ⟨#[120]⟩] 47))).extra w7.heap.size 47 ⟨#[97,46,98]⟩ (wordT k7 k7) ⟨#[99,111,109,109,101,110,116]⟩ ⟨#[120]⟩ (heap_alloc_new w7 _) hg8 (by
        have:=wordT_size k7 k7
        exact ⟨⟨by show (3:Nat)≤1048576;decide,by omega⟩,by show (7:Nat)≤1048576;decide,by show (1:Nat)≤1048576;decide⟩)
       rw [World.setCell_alloc_past _ g 16 _ hg8] at Qz
       exact Qz
    case rest=>
     have Q7:=hid hcut
     clear hcut Q6
     go_wp2_with fail
     (with_reducible refine (G2.out wc Q7.out.below).mono ?_)
     rintro e w7 ⟨rfl,b7⟩
     have Q8:=hid (Q7.out.later b7)
     clear b7 Q7
     go_upto_if 115 with fail
     generalize decide (250<(k2:Int))=b115
     go_cut [] from 116 to 120 (fun wx=>MQ 601 w wx g)
     case first=>
      cases b115 with
      |false=>
       go_wp2_with fail
       go_meet
       case rel=>exact Q8.out
      |true=>
       go_wp2_with fail
       (with_reducible refine (G3.out w7 Q8.out.below).mono ?_)
       rintro e w8 ⟨rfl,b8⟩
       have Q9:=hid (Q8.out.later b8)
       clear b8 Q8
       have x3:=Q9.out.at_ 3 (by decide)
       have y3:=Classical.choose_spec x3
       generalize Classical.choose x3=o3 at y3
       have c3:=y3.1
       have f3:=y3.2
       clear x3 y3
       have e3b:(k3:Int).tmod 3=(k3:Int)%3:=Int.tmod_eq_emod_of_nonneg (by omega)
       have xm: ∃ m3:Int,(k3:Int)%3=m3∧0≤m3∧m3<3:=⟨_,rfl,by omega,by omega⟩
       have ym:=Classical.choose_spec xm
       generalize Classical.choose xm=m3 at ym
       clear xm
       have em:=ym.1
       have hm3:=hid ym.2
       clear ym
       rw [em] at e3b
       clear em
       have ew3:IntKind.i64.wrap (2097150+m3)=2097150+m3:=IntWalk.i64_in _ (by have:=hm3.out;omega)
       go_wp2_with fail
       go_meet
       case rel=>exact Q9.out.set 3 (.int .i64 (2097150+m3)) (fun m=> { m with mode:=2097150+m3 }) (fun _ _ _=>rfl) (fun _ _ _ _ h=>h.mode_ (by have:=hm3.out;omega)) (fun _ h=>h)
     case rest=>
      have xs:=hcut.ex
      have hB9:=hid hcut.below
      have hR9:=hid hcut.res
      clear hcut Q8
      have ys:=Classical.choose_spec xs
      generalize Classical.choose xs=mm at ys
      clear xs
      have zs1:=Classical.choose_spec ys
      generalize Classical.choose ys=pv at zs1
      clear ys
      have zs2:=Classical.choose_spec zs1
      generalize Classical.choose zs1=ev at zs2
      clear zs1
      have hM:=hid zs2.1
      have hI:=hid zs2.2.1
      have hNV:=hid zs2.2.2.2
      clear zs2
      have hone:=hid (oneP (hI.out wc (MBut.refl _ _ _)))
      go_wp2_with (first
       |(refine wpList_load_row rfl 35 (.tmp 3) rfl g (by rfl) 35 (mcells mm pv ev) (0,0) _ hM.out Tryz.underlying35 rfl met_size ?_)
       |(refine wpList_store_row rfl 35 (.tmp 2) (.tmp 121) rfl w.heap.size (mcells mm pv ev) (by simp [Act.eval,Act.put]) (by simp [Act.eval,Act.put]) 35 (mcells {} (.slice none 0 0) (.slice none 0 0)) hR9.out met_size rfl (mcells_one _ hone.out.1 hone.out.2) ?_))
      have HR:=hid (show MB (wc.setRow w.heap.size (mcells mm pv ev)) w.heap.size mm pv ev from setRow_heap wc _ _ _ _ _ hR9.out)
      refine bodyPost_ret (results_law HR.out rfl) rfl ?_
      exact ⟨mm,pv,ev,rfl,hI.out _ (MBut.row _ _ _ _),below_setRow hB9.out (Nat.le_refl _) _,hNV.out⟩
end Go.Proofs.YtgbgngdakkiclaaGreatDoor
