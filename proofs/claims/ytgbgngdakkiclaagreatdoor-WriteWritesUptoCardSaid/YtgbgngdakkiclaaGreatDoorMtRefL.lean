import Derived.Test.YtgbgngdakkiclaaGreatDoorMtRefZ
import Derived.Test.YtgbgngdakkiclaaGreatDoorMtKnownZ
import Derived.Test.YtgbgngdakkiclaaGreatDoorStepZ
set_option linter.unusedVariables false
set_option linter.unusedSimpArgs false
namespace Go.Proofs.YtgbgngdakkiclaaGreatDoor
open Go.RowKit Go.Lib
open Px (R2 tl)
def hBare (m:M.Met):M.Hdr:= { way:=1,kind:=m.kind,mode:=m.mode,major:=m.major,minor:=m.minor }
structure Ld (w W:World) (m:M.Met) (pv ev:Value) (h:M.Hdr) (rv:Value) (rs:List R2) (k:Nat):Prop where
 below:Below w.heap.size w W
 met:MB W w.heap.size m pv ev
 res:TK W (w.heap.size+1) {} (.slice none 0 0) (.slice none 0 0)
 t:TK W (w.heap.size+2) h (.slice none 0 0) rv
 own:Px.OwnR W (w.heap.size+3) rv rs
 size:w.heap.size+3≤W.heap.size
 few:rs.length≤k
section
variable {w W W':World} {m:M.Met} {pv ev:Value} {h:M.Hdr} {rv:Value} {rs:List R2} {k:Nat}
theorem Ld.later (p:Ld w W m pv ev h rv rs k) (hb:Below W.heap.size W W'):Ld w W' m pv ev h rv rs k:=
 ⟨p.below.trans (hb.mono p.below.size),p.met.below hb p.met.lt,p.res.below hb p.res.lt,p.t.below hb p.t.lt,p.own.below hb,Nat.le_trans p.size hb.size,p.few⟩
theorem Ld.put {h':M.Hdr} {A:Option Addr} {n c:Nat} {rs':List R2} {k':Nat} (p:Ld w W m pv ev h rv rs k) (ho:Px.OwnR W (w.heap.size+3) (.slice A n c) rs') (hk:rs'.length≤k'):Ld w (W.setRow (w.heap.size+2) (tcells h' (.slice none 0 0) (.slice A n c))) m pv ev h' (.slice A n c) rs' k':=
 ⟨below_setRow p.below (g:=w.heap.size+2) (by omega) _,p.met.of_block (setRow_other W (w.heap.size+2) w.heap.size _ (by omega)),p.res.of_block (setRow_other W (w.heap.size+2) (w.heap.size+1) _ (by omega)),p.t.row h' _ _,ownR_row ho (by omega) _,(by have:=p.size;simpa using this),hk⟩
theorem Ld.set {h':M.Hdr} (p:Ld w W m pv ev h rv rs k) (i:Nat) (v:Value) (e:(tcells h (.slice none 0 0) rv).set! i v=tcells h' (.slice none 0 0) rv):Ld w (W.setCell ⟨w.heap.size+2,i,none⟩ v) m pv ev h' rv rs k:=
 ⟨p.below.setCell (p:=⟨w.heap.size+2,i,none⟩) (by show w.heap.size≤w.heap.size+2;omega) v,p.met.other (a:=⟨w.heap.size+2,i,none⟩) (by show w.heap.size≠w.heap.size+2;omega) v,p.res.other (a:=⟨w.heap.size+2,i,none⟩) (by show w.heap.size+1≠w.heap.size+2;omega) v,p.t.set i v e,
  ownsRow_setCell_below p.own (a:=⟨w.heap.size+2,i,none⟩) (by show w.heap.size+2<w.heap.size+3;omega) v,(by have:=p.size;simpa using this),p.few⟩
theorem Ld.more {k':Nat} (p:Ld w W m pv ev h rv rs k) (hk:k≤k'):Ld w W m pv ev h rv rs k':=⟨p.below,p.met,p.res,p.t,p.own,p.size,Nat.le_trans p.few hk⟩
end
theorem gtx (k s:ByteArray) (wide:Nat):(if s.size≤wide then [] else [(k,s)]:List R2)=(M.gText k s wide).map M.mk:=by
 unfold M.gText
 split<;>rfl
theorem gnx (k:ByteArray) (n wide:Int):(if M.fits n wide=true then [] else [(k,⟨(Lib.itoa n).toArray⟩)]:List R2)=(M.gNum k n wide).map M.mk:=by
 unfold M.gNum
 split<;>rfl
theorem gtl (k s:ByteArray) (wide:Nat):((M.gText k s wide).map M.mk).length≤1:=by
 unfold M.gText
 split<;>simp
theorem gnl (k:ByteArray) (n wide:Int):((M.gNum k n wide).map M.mk).length≤1:=by
 unfold M.gNum
 split<;>simp
theorem results_laid {tmps:Array Value} {g:Nat} {h:M.Hdr} {pv rv:Value} {w:World} (hb:TK w g h pv rv) (h2:tmps.getD 2 undef= .pointer (some ⟨g,0,none⟩)):
  (results Tryz.f23 tmps).run Tryz.prog w= .ok (.agg (tcells h pv rv)) w:=by
 rw [Array.getD_eq_getD_getElem?] at h2
 have hl:=hb.load
 simp [results,Tryz.results23,h2,asAddr,hl]
def rec7 (m:M.Met):List R2:=((((((M.gName m).map M.mk++(M.gText M.kLink m.link 100).map M.mk)++(M.gText M.kUser m.user 32).map M.mk)++(M.gText M.kGroup m.group 32).map M.mk)++(M.gNum M.kUid m.uid 8).map M.mk)++(M.gNum M.kGid m.gid 8).map M.mk)++(M.gNum M.kSize m.size 12).map M.mk
def keptN (n wide:Int):Int:=if M.fits n wide=true then n else 0
def keptT (m:M.Met):Int:=if M.timeFits m=true then m.sec else 0
def hTime (m:M.Met):M.Hdr:= { hBare m with mtime:=keptT m }
def LaidIs (m:M.Met) (w:World) (e:Ending) (w':World):Prop:=
 ∃ v,e= .returned (.agg (tcells (M.head m) (.slice none 0 0) v))∧Px.OwnR w' w.heap.size v ((M.gives m).map M.mk)∧Below w.heap.size w w'
set_option maxRecDepth 100000 in
set_option maxHeartbeats 8000000 in
theorem laid10_any (m:M.Met) (pv ev:Value) (B:Nat) (w:World) (hm:MIn w m pv ev) (R:M.Right m) (hB:B≤w.heap.size) (ht:Sp.EV B w):
  Calls Tryz.prog 23 #[.agg (mcells m pv ev)] w (LaidIs m w):=by
 have HT:=hid (fun (V:World) (hV:Below w.heap.size w V)=>And.intro (Nat.le_trans hB hV.size) (ht.on (hV.mono hB)))
 have HM:=hid hm
 have HR:=hid R
 obtain ⟨Ap,cp,rfl,hrp⟩:=hm.parts
 have HRP:=hid hrp
 have HSZ:=hid hm.texts
 have HINT:=hid hm.ints
 have hb0:=((Below.refl w.heap.size w).alloc (Nat.le_refl _) (.cells (mcells m (.slice Ap m.parts.length cp) ev) 35)).alloc (by simp) (.cells #[.string ⟨#[]⟩, .int .i64 0, .int .i64 0, .int .i64 0, .int .i64 0, .int .i64 0, .int .u8 0, .string ⟨#[]⟩, .int .i64 0, .string ⟨#[]⟩, .string ⟨#[]⟩, .int .i64 0, .int .i64 0, .string ⟨#[]⟩, .slice none 0 0, .bool false, .int .i64 0, .slice none 0 0] 65)
 have HB0:=hid hb0
 have M0:=hid ((MB.new w m (.slice Ap m.parts.length cp) ev).alloc (.cells #[.string ⟨#[]⟩, .int .i64 0, .int .i64 0, .int .i64 0, .int .i64 0, .int .i64 0, .int .u8 0, .string ⟨#[]⟩, .int .i64 0, .string ⟨#[]⟩, .string ⟨#[]⟩, .int .i64 0, .int .i64 0, .string ⟨#[]⟩, .slice none 0 0, .bool false, .int .i64 0, .slice none 0 0] 65))
 have T0:=hid (show TK ((w.alloc (.cells (mcells m (.slice Ap m.parts.length cp) ev) 35)).alloc (.cells #[.string ⟨#[]⟩, .int .i64 0, .int .i64 0, .int .i64 0, .int .i64 0, .int .i64 0, .int .u8 0, .string ⟨#[]⟩, .int .i64 0, .string ⟨#[]⟩, .string ⟨#[]⟩, .int .i64 0, .int .i64 0, .string ⟨#[]⟩, .slice none 0 0, .bool false, .int .i64 0, .slice none 0 0] 65)) (w.heap.size+1) {} (.slice none 0 0) (.slice none 0 0) from by
  have t:=tk_zero (w.alloc (.cells (mcells m (.slice Ap m.parts.length cp) ev) 35))
  rw [World.size_alloc] at t
  exact t)
 have hs0:((w.alloc (.cells (mcells m (.slice Ap m.parts.length cp) ev) 35)).alloc (.cells #[.string ⟨#[]⟩, .int .i64 0, .int .i64 0, .int .i64 0, .int .i64 0, .int .i64 0, .int .u8 0, .string ⟨#[]⟩, .int .i64 0, .string ⟨#[]⟩, .string ⟨#[]⟩, .int .i64 0, .int .i64 0, .string ⟨#[]⟩, .slice none 0 0, .bool false, .int .i64 0, .slice none 0 0] 65)).heap.size=w.heap.size+2:=by simp
 clear hm R hrp hb0 ht hB
 go_enter Tryz.func23,Tryz.ntmps23
 go_upto_region 1 with fail
 generalize World.alloc (World.alloc w _) _=W at*
 have k2:=M0.out.cell (i:=2) (v:= .int .u8 m.kind) rfl
 have k3:=M0.out.cell (i:=3) (v:= .int .i64 m.mode) rfl
 have k9:=M0.out.cell (i:=10) (v:= .int .i64 m.major) rfl
 have k10:=M0.out.cell (i:=11) (v:= .int .i64 m.minor) rfl
 go_upto_region 2 with fail
 have L1:=hid (show Ld w (World.alloc W (.cells #[.string ⟨#[]⟩, .int .i64 m.mode, .int .i64 0, .int .i64 0, .int .i64 0, .int .i64 0, .int .u8 m.kind, .string ⟨#[]⟩, .int .i64 1, .string ⟨#[]⟩, .string ⟨#[]⟩, .int .i64 m.major, .int .i64 m.minor, .string ⟨#[]⟩, .slice none 0 0, .bool false, .int .i64 0, .slice none 0 0] 65)) m (.slice Ap m.parts.length cp) ev (hBare m) (.slice none 0 0) [] 0 from
  ⟨HB0.out.alloc (by omega) _,M0.out.alloc _,T0.out.alloc _,by have t:=TK.new W (hBare m) (.slice none 0 0) (.slice none 0 0);rw [hs0] at t;exact t,Px.OwnR.nil _ _,by rw [World.size_alloc];omega,Nat.le_refl _⟩)
 clear k2 k3 k9 k10 M0 T0 HB0
 try rw [hs0]
 clear hs0
 generalize World.alloc W _=W1 at*
 have k0:=L1.out.met.cell (i:=0) (v:= .string m.name) rfl
 go_wp2_with fail
 (with_reducible refine (refSplit_any m.name HSZ.out.1 W1).mono ?_)
 rintro e w2 ⟨rfl,b2⟩
 have L2:=hid (L1.out.later b2)
 clear L1 b2 k0
 unfold splitV
 obtain ⟨s1,hs1⟩: ∃ s,(M.split m.name).1=s:=⟨_,rfl⟩
 obtain ⟨s2,hs2⟩: ∃ s,(M.split m.name).2.1=s:=⟨_,rfl⟩
 obtain ⟨b,hb⟩: ∃ s,(M.split m.name).2.2=s:=⟨_,rfl⟩
 rw [hs1,hs2,hb]
 have HS1:=hid hs1
 have HS2:=hid hs2
 have hgn:(M.gName m).map M.mk=if b=true then [] else [(M.kPath,m.name)]:=by
  unfold M.gName
  rw [hb]
  split<;>rfl
 have HGN:=hid hgn
 clear hs1 hs2 hb hgn
 go_upto_if 34 with fail
 go_cut [] from 34 to 38 (fun wx=> ∃ A n c,Hid (Ld w wx m (.slice Ap m.parts.length cp) ev (hBare m) (.slice A n c) ((M.gName m).map M.mk) 1))
 case first=>
  cases b with
  |true=>
   go_wp2_with fail
   go_meet
   case rel=>exact ⟨none,0,0,hid (by rw [HGN.out];simp only [if_true];exact L2.out.more (by omega))⟩
  |false=>
   have k0:=L2.out.met.cell (i:=0) (v:= .string m.name) rfl
   have hf:=told10_any (hBare m) [] none 0 M.kPath m.name w2 Px.RdR.none_ (by simp)
   go_wp2_with (refine wpList_load_row rfl 65 (.tmp 3) rfl (w.heap.size+2) (by rfl) 65 (tcells (hBare m) (.slice none 0 0) (.slice none 0 0)) (0,0) _ L2.out.t Tryz.underlying65 rfl t_size ?_)
   refine hf.mono ?_
   rintro e w3 ⟨v3,rfl,o3,b3⟩
   have L3:=hid (L2.out.later b3)
   have O3:=hid (o3.lower L2.out.size)
   obtain ⟨A3,c3,rfl,_⟩:=o3.rd
   clear L2 k0 hf o3 b3
   go_wp2_with (refine wpList_store_row rfl 65 (.tmp 3) (.tmp 38) rfl (w.heap.size+2) (tcells (hBare m) (.slice none 0 0) (.slice A3 _ c3)) (by rfl) (by rfl) 65 _ L3.out.t t_size rfl (tcells_one _ rfl rfl) ?_)
   go_meet
   case rel=>exact ⟨A3,_,c3,hid (by rw [HGN.out];simp only [Bool.false_eq_true,if_false];exact L3.out.put (k':=1) O3.out (by simp))⟩
 obtain ⟨A0,n0,c0,L3⟩:=hcut
 clear L2 HGN
 go_upto_region 5 with fail
 go_cut [7] from 39 to 45 (fun v wx=> ∃ A n c,v= .string (m.link.extract 0 100)∧Hid (Ld w wx m (.slice Ap m.parts.length cp) ev (hBare m) (.slice A n c) (((M.gName m).map M.mk)++(M.gText M.kLink m.link 100).map M.mk) 2))
 case first=>
  have kc5:=L3.out.met.cell (i:=1) (v:= .string m.link) rfl
  have hrl5:((M.gName m).map M.mk).length≤100000:=Nat.le_trans L3.out.few (by decide)
  have HF5:=hid (short10_any (hBare m) ((M.gName m).map M.mk) (.slice A0 n0 c0) (w.heap.size+3) M.kLink m.link 100 wc L3.out.own L3.out.size hrl5 HSZ.out.2.1)
  rw [gtx] at HF5
  clear hrl5
  go_wp2_with (refine wpList_load_row rfl 65 (.tmp 3) rfl (w.heap.size+2) (by rfl) 65 (tcells (hBare m) (.slice none 0 0) (.slice A0 n0 c0)) (0,0) _ L3.out.t Tryz.underlying65 rfl t_size ?_)
  refine HF5.out.mono ?_
  rintro e w5 ⟨v5,rfl,o5,b5⟩
  have P5:=hid (L3.out.later b5)
  obtain ⟨A5,n5,c5,rfl⟩: ∃ A n c,v5= .slice A n c:=by obtain ⟨A,c,e,_⟩:=o5.rd;exact ⟨A,_,c,e⟩
  have hl5:(((M.gName m).map M.mk)++(M.gText M.kLink m.link 100).map M.mk).length≤2:=by rw [List.length_append];have h1:=L3.out.few;have h2:=gtl M.kLink m.link 100;omega
  have Q5:=hid (P5.out.put (h':=hBare m) o5 hl5)
  clear L3 HF5 kc5 o5 b5 hl5
  go_wp2_with (refine wpList_store_row rfl 65 (.tmp 3) (.tmp 44) rfl (w.heap.size+2) (tcells (hBare m) (.slice none 0 0) (.slice A5 n5 c5)) (by rfl) (by rfl) 65 _ P5.out.t t_size rfl (tcells_one _ rfl rfl) ?_)
  go_meet
  case rel=>exact ⟨A5,n5,c5,rfl,Q5⟩
 obtain ⟨A5,n5,c5,rfl,Q5⟩:=hcut
 clear L3
 go_upto_region 6 with fail
 go_cut [8] from 46 to 52 (fun v wx=> ∃ A n c,v= .string (m.user.extract 0 32)∧Hid (Ld w wx m (.slice Ap m.parts.length cp) ev (hBare m) (.slice A n c) ((((M.gName m).map M.mk)++(M.gText M.kLink m.link 100).map M.mk)++(M.gText M.kUser m.user 32).map M.mk) 3))
 case first=>
  have kc6:=Q5.out.met.cell (i:=6) (v:= .string m.user) rfl
  have hrl6:(((M.gName m).map M.mk)++(M.gText M.kLink m.link 100).map M.mk).length≤100000:=Nat.le_trans Q5.out.few (by decide)
  have HF6:=hid (short10_any (hBare m) (((M.gName m).map M.mk)++(M.gText M.kLink m.link 100).map M.mk) (.slice A5 n5 c5) (w.heap.size+3) M.kUser m.user 32 wc Q5.out.own Q5.out.size hrl6 HSZ.out.2.2.1)
  rw [gtx] at HF6
  clear hrl6
  go_wp2_with (refine wpList_load_row rfl 65 (.tmp 3) rfl (w.heap.size+2) (by rfl) 65 (tcells (hBare m) (.slice none 0 0) (.slice A5 n5 c5)) (0,0) _ Q5.out.t Tryz.underlying65 rfl t_size ?_)
  refine HF6.out.mono ?_
  rintro e w6 ⟨v6,rfl,o6,b6⟩
  have P6:=hid (Q5.out.later b6)
  obtain ⟨A6,n6,c6,rfl⟩: ∃ A n c,v6= .slice A n c:=by obtain ⟨A,c,e,_⟩:=o6.rd;exact ⟨A,_,c,e⟩
  have hl6:((((M.gName m).map M.mk)++(M.gText M.kLink m.link 100).map M.mk)++(M.gText M.kUser m.user 32).map M.mk).length≤3:=by rw [List.length_append];have h1:=Q5.out.few;have h2:=gtl M.kUser m.user 32;omega
  have Q6:=hid (P6.out.put (h':=hBare m) o6 hl6)
  clear Q5 HF6 kc6 o6 b6 hl6
  go_wp2_with (refine wpList_store_row rfl 65 (.tmp 3) (.tmp 51) rfl (w.heap.size+2) (tcells (hBare m) (.slice none 0 0) (.slice A6 n6 c6)) (by rfl) (by rfl) 65 _ P6.out.t t_size rfl (tcells_one _ rfl rfl) ?_)
  go_meet
  case rel=>exact ⟨A6,n6,c6,rfl,Q6⟩
 obtain ⟨A6,n6,c6,rfl,Q6⟩:=hcut
 clear Q5
 go_upto_region 7 with fail
 go_cut [9] from 53 to 59 (fun v wx=> ∃ A n c,v= .string (m.group.extract 0 32)∧Hid (Ld w wx m (.slice Ap m.parts.length cp) ev (hBare m) (.slice A n c) (((((M.gName m).map M.mk)++(M.gText M.kLink m.link 100).map M.mk)++(M.gText M.kUser m.user 32).map M.mk)++(M.gText M.kGroup m.group 32).map M.mk) 4))
 case first=>
  have kc7:=Q6.out.met.cell (i:=7) (v:= .string m.group) rfl
  have hrl7:((((M.gName m).map M.mk)++(M.gText M.kLink m.link 100).map M.mk)++(M.gText M.kUser m.user 32).map M.mk).length≤100000:=Nat.le_trans Q6.out.few (by decide)
  have HF7:=hid (short10_any (hBare m) ((((M.gName m).map M.mk)++(M.gText M.kLink m.link 100).map M.mk)++(M.gText M.kUser m.user 32).map M.mk) (.slice A6 n6 c6) (w.heap.size+3) M.kGroup m.group 32 wc Q6.out.own Q6.out.size hrl7 HSZ.out.2.2.2)
  rw [gtx] at HF7
  clear hrl7
  go_wp2_with (refine wpList_load_row rfl 65 (.tmp 3) rfl (w.heap.size+2) (by rfl) 65 (tcells (hBare m) (.slice none 0 0) (.slice A6 n6 c6)) (0,0) _ Q6.out.t Tryz.underlying65 rfl t_size ?_)
  refine HF7.out.mono ?_
  rintro e w7 ⟨v7,rfl,o7,b7⟩
  have P7:=hid (Q6.out.later b7)
  obtain ⟨A7,n7,c7,rfl⟩: ∃ A n c,v7= .slice A n c:=by obtain ⟨A,c,e,_⟩:=o7.rd;exact ⟨A,_,c,e⟩
  have hl7:(((((M.gName m).map M.mk)++(M.gText M.kLink m.link 100).map M.mk)++(M.gText M.kUser m.user 32).map M.mk)++(M.gText M.kGroup m.group 32).map M.mk).length≤4:=by rw [List.length_append];have h1:=Q6.out.few;have h2:=gtl M.kGroup m.group 32;omega
  have Q7:=hid (P7.out.put (h':=hBare m) o7 hl7)
  clear Q6 HF7 kc7 o7 b7 hl7
  go_wp2_with (refine wpList_store_row rfl 65 (.tmp 3) (.tmp 58) rfl (w.heap.size+2) (tcells (hBare m) (.slice none 0 0) (.slice A7 n7 c7)) (by rfl) (by rfl) 65 _ P7.out.t t_size rfl (tcells_one _ rfl rfl) ?_)
  go_meet
  case rel=>exact ⟨A7,n7,c7,rfl,Q7⟩
 obtain ⟨A7,n7,c7,rfl,Q7⟩:=hcut
 clear Q6
 go_upto_region 8 with fail
 go_cut [10] from 60 to 66 (fun v wx=> ∃ A n c,v= .int .i64 (keptN m.uid 8)∧Hid (Ld w wx m (.slice Ap m.parts.length cp) ev (hBare m) (.slice A n c) ((((((M.gName m).map M.mk)++(M.gText M.kLink m.link 100).map M.mk)++(M.gText M.kUser m.user 32).map M.mk)++(M.gText M.kGroup m.group 32).map M.mk)++(M.gNum M.kUid m.uid 8).map M.mk) 5))
 case first=>
  have kc8:=Q7.out.met.cell (i:=4) (v:= .int .i64 m.uid) rfl
  have hrl8:(((((M.gName m).map M.mk)++(M.gText M.kLink m.link 100).map M.mk)++(M.gText M.kUser m.user 32).map M.mk)++(M.gText M.kGroup m.group 32).map M.mk).length≤100000:=Nat.le_trans Q7.out.few (by decide)
  have HF8:=hid (small10_any (hBare m) (((((M.gName m).map M.mk)++(M.gText M.kLink m.link 100).map M.mk)++(M.gText M.kUser m.user 32).map M.mk)++(M.gText M.kGroup m.group 32).map M.mk) (.slice A7 n7 c7) (w.heap.size+3) M.kUid m.uid 8 B wc Q7.out.own Q7.out.size hrl8 HINT.out.2.1.1 HINT.out.2.1.2 (HT.out _ Q7.out.below).1 (HT.out _ Q7.out.below).2)
  rw [gnx] at HF8
  obtain ⟨u8,hu8⟩: ∃ u,keptN m.uid 8=u:=⟨_,rfl⟩
  rw [show (if M.fits m.uid 8=true then m.uid else 0)=keptN m.uid 8 from rfl,hu8] at HF8
  have HU8:=hid hu8
  clear hu8
  clear hrl8
  go_wp2_with (refine wpList_load_row rfl 65 (.tmp 3) rfl (w.heap.size+2) (by rfl) 65 (tcells (hBare m) (.slice none 0 0) (.slice A7 n7 c7)) (0,0) _ Q7.out.t Tryz.underlying65 rfl t_size ?_)
  refine HF8.out.mono ?_
  rintro e w8 ⟨v8,rfl,o8,b8⟩
  have P8:=hid (Q7.out.later b8)
  obtain ⟨A8,n8,c8,rfl⟩: ∃ A n c,v8= .slice A n c:=by obtain ⟨A,c,e,_⟩:=o8.rd;exact ⟨A,_,c,e⟩
  have hl8:((((((M.gName m).map M.mk)++(M.gText M.kLink m.link 100).map M.mk)++(M.gText M.kUser m.user 32).map M.mk)++(M.gText M.kGroup m.group 32).map M.mk)++(M.gNum M.kUid m.uid 8).map M.mk).length≤5:=by rw [List.length_append];have h1:=Q7.out.few;have h2:=gnl M.kUid m.uid 8;omega
  have Q8:=hid (P8.out.put (h':=hBare m) o8 hl8)
  clear Q7 HF8 kc8 o8 b8 hl8
  go_wp2_with (refine wpList_store_row rfl 65 (.tmp 3) (.tmp 65) rfl (w.heap.size+2) (tcells (hBare m) (.slice none 0 0) (.slice A8 n8 c8)) (by rfl) (by rfl) 65 _ P8.out.t t_size rfl (tcells_one _ rfl rfl) ?_)
  go_meet
  case rel=>exact ⟨A8,n8,c8,by rw [HU8.out],Q8⟩
 obtain ⟨A8,n8,c8,rfl,Q8⟩:=hcut
 clear Q7
 go_upto_region 9 with fail
 go_cut [11] from 67 to 73 (fun v wx=> ∃ A n c,v= .int .i64 (keptN m.gid 8)∧Hid (Ld w wx m (.slice Ap m.parts.length cp) ev (hBare m) (.slice A n c) (((((((M.gName m).map M.mk)++(M.gText M.kLink m.link 100).map M.mk)++(M.gText M.kUser m.user 32).map M.mk)++(M.gText M.kGroup m.group 32).map M.mk)++(M.gNum M.kUid m.uid 8).map M.mk)++(M.gNum M.kGid m.gid 8).map M.mk) 6))
 case first=>
  have kc9:=Q8.out.met.cell (i:=5) (v:= .int .i64 m.gid) rfl
  have hrl9:((((((M.gName m).map M.mk)++(M.gText M.kLink m.link 100).map M.mk)++(M.gText M.kUser m.user 32).map M.mk)++(M.gText M.kGroup m.group 32).map M.mk)++(M.gNum M.kUid m.uid 8).map M.mk).length≤100000:=Nat.le_trans Q8.out.few (by decide)
  have HF9:=hid (small10_any (hBare m) ((((((M.gName m).map M.mk)++(M.gText M.kLink m.link 100).map M.mk)++(M.gText M.kUser m.user 32).map M.mk)++(M.gText M.kGroup m.group 32).map M.mk)++(M.gNum M.kUid m.uid 8).map M.mk) (.slice A8 n8 c8) (w.heap.size+3) M.kGid m.gid 8 B wc Q8.out.own Q8.out.size hrl9 HINT.out.2.2.1.1 HINT.out.2.2.1.2 (HT.out _ Q8.out.below).1 (HT.out _ Q8.out.below).2)
  rw [gnx] at HF9
  obtain ⟨u9,hu9⟩: ∃ u,keptN m.gid 8=u:=⟨_,rfl⟩
  rw [show (if M.fits m.gid 8=true then m.gid else 0)=keptN m.gid 8 from rfl,hu9] at HF9
  have HU9:=hid hu9
  clear hu9
  clear hrl9
  go_wp2_with (refine wpList_load_row rfl 65 (.tmp 3) rfl (w.heap.size+2) (by rfl) 65 (tcells (hBare m) (.slice none 0 0) (.slice A8 n8 c8)) (0,0) _ Q8.out.t Tryz.underlying65 rfl t_size ?_)
  refine HF9.out.mono ?_
  rintro e w9 ⟨v9,rfl,o9,b9⟩
  have P9:=hid (Q8.out.later b9)
  obtain ⟨A9,n9,c9,rfl⟩: ∃ A n c,v9= .slice A n c:=by obtain ⟨A,c,e,_⟩:=o9.rd;exact ⟨A,_,c,e⟩
  have hl9:(((((((M.gName m).map M.mk)++(M.gText M.kLink m.link 100).map M.mk)++(M.gText M.kUser m.user 32).map M.mk)++(M.gText M.kGroup m.group 32).map M.mk)++(M.gNum M.kUid m.uid 8).map M.mk)++(M.gNum M.kGid m.gid 8).map M.mk).length≤6:=by rw [List.length_append];have h1:=Q8.out.few;have h2:=gnl M.kGid m.gid 8;omega
  have Q9:=hid (P9.out.put (h':=hBare m) o9 hl9)
  clear Q8 HF9 kc9 o9 b9 hl9
  go_wp2_with (refine wpList_store_row rfl 65 (.tmp 3) (.tmp 72) rfl (w.heap.size+2) (tcells (hBare m) (.slice none 0 0) (.slice A9 n9 c9)) (by rfl) (by rfl) 65 _ P9.out.t t_size rfl (tcells_one _ rfl rfl) ?_)
  go_meet
  case rel=>exact ⟨A9,n9,c9,by rw [HU9.out],Q9⟩
 obtain ⟨A9,n9,c9,rfl,Q9⟩:=hcut
 clear Q8
 go_upto_region 10 with fail
 go_cut [12] from 74 to 80 (fun v wx=> ∃ A n c,v= .int .i64 (keptN m.size 12)∧Hid (Ld w wx m (.slice Ap m.parts.length cp) ev (hBare m) (.slice A n c) ((((((((M.gName m).map M.mk)++(M.gText M.kLink m.link 100).map M.mk)++(M.gText M.kUser m.user 32).map M.mk)++(M.gText M.kGroup m.group 32).map M.mk)++(M.gNum M.kUid m.uid 8).map M.mk)++(M.gNum M.kGid m.gid 8).map M.mk)++(M.gNum M.kSize m.size 12).map M.mk) 7))
 case first=>
  have kc10:=Q9.out.met.cell (i:=12) (v:= .int .i64 m.size) rfl
  have hrl10:(((((((M.gName m).map M.mk)++(M.gText M.kLink m.link 100).map M.mk)++(M.gText M.kUser m.user 32).map M.mk)++(M.gText M.kGroup m.group 32).map M.mk)++(M.gNum M.kUid m.uid 8).map M.mk)++(M.gNum M.kGid m.gid 8).map M.mk).length≤100000:=Nat.le_trans Q9.out.few (by decide)
  have HF10:=hid (small10_any (hBare m) (((((((M.gName m).map M.mk)++(M.gText M.kLink m.link 100).map M.mk)++(M.gText M.kUser m.user 32).map M.mk)++(M.gText M.kGroup m.group 32).map M.mk)++(M.gNum M.kUid m.uid 8).map M.mk)++(M.gNum M.kGid m.gid 8).map M.mk) (.slice A9 n9 c9) (w.heap.size+3) M.kSize m.size 12 B wc Q9.out.own Q9.out.size hrl10 HINT.out.2.2.2.2.2.2.2.1.1 HINT.out.2.2.2.2.2.2.2.1.2 (HT.out _ Q9.out.below).1 (HT.out _ Q9.out.below).2)
  rw [gnx] at HF10
  obtain ⟨u10,hu10⟩: ∃ u,keptN m.size 12=u:=⟨_,rfl⟩
  rw [show (if M.fits m.size 12=true then m.size else 0)=keptN m.size 12 from rfl,hu10] at HF10
  have HU10:=hid hu10
  clear hu10
  clear hrl10
  go_wp2_with (refine wpList_load_row rfl 65 (.tmp 3) rfl (w.heap.size+2) (by rfl) 65 (tcells (hBare m) (.slice none 0 0) (.slice A9 n9 c9)) (0,0) _ Q9.out.t Tryz.underlying65 rfl t_size ?_)
  refine HF10.out.mono ?_
  rintro e w10 ⟨v10,rfl,o10,b10⟩
  have P10:=hid (Q9.out.later b10)
  obtain ⟨A10,n10,c10,rfl⟩: ∃ A n c,v10= .slice A n c:=by obtain ⟨A,c,e,_⟩:=o10.rd;exact ⟨A,_,c,e⟩
  have hl10:((((((((M.gName m).map M.mk)++(M.gText M.kLink m.link 100).map M.mk)++(M.gText M.kUser m.user 32).map M.mk)++(M.gText M.kGroup m.group 32).map M.mk)++(M.gNum M.kUid m.uid 8).map M.mk)++(M.gNum M.kGid m.gid 8).map M.mk)++(M.gNum M.kSize m.size 12).map M.mk).length≤7:=by rw [List.length_append];have h1:=Q9.out.few;have h2:=gnl M.kSize m.size 12;omega
  have Q10:=hid (P10.out.put (h':=hBare m) o10 hl10)
  clear Q9 HF10 kc10 o10 b10 hl10
  go_wp2_with (refine wpList_store_row rfl 65 (.tmp 3) (.tmp 79) rfl (w.heap.size+2) (tcells (hBare m) (.slice none 0 0) (.slice A10 n10 c10)) (by rfl) (by rfl) 65 _ P10.out.t t_size rfl (tcells_one _ rfl rfl) ?_)
  go_meet
  case rel=>exact ⟨A10,n10,c10,by rw [HU10.out],Q10⟩
 obtain ⟨A10,n10,c10,rfl,Q10⟩:=hcut
 clear Q9
 obtain ⟨r7,hr7⟩: ∃ r,rec7 m=r:=⟨_,rfl⟩
 have L7:Hid (Ld w wc m (.slice Ap m.parts.length cp) ev (hBare m) (.slice A10 n10 c10) r7 7):=by rw [←hr7];exact Q10
 have HR7:=hid hr7
 clear hr7 Q10
 go_upto_region 11 with fail
 go_cut [14] from 81 to 87 (fun v wx=>v= .bool (M.fits m.sec 12)∧Hid (Ld w wx m (.slice Ap m.parts.length cp) ev (hBare m) (.slice A10 n10 c10) r7 7))
 case first=>
  have k8:=L7.out.met.cell (i:=8) (v:= .int .i64 m.sec) rfl
  go_wp2_with fail
  (with_reducible refine (Nm.putOctalRef_any m.sec 12 wc).mono ?_)
  rintro e w1 ⟨A1,N1,rfl,_,b1⟩
  have Lx:=hid (L7.out.later b1)
  clear L7 b1 k8
  go_wp2_with fail
  go_meet
  case rel=>exact ⟨rfl,Lx⟩
 obtain ⟨rfl,L8⟩:=hcut
 clear L7
 go_upto_region 12 with fail
 go_cut [94] from 88 to 94 (fun v wx=>v= .bool (M.timeFits m)∧Hid (Ld w wx m (.slice Ap m.parts.length cp) ev (hBare m) (.slice A10 n10 c10) r7 7))
 case first=>
  have k9:=L8.out.met.cell (i:=9) (v:= .int .i64 m.nan) rfl
  cases hn:(m.nan==0) with
  |_=>
   go_wp2_with fail
   go_meet
   case rel=>exact ⟨by unfold M.timeFits;rw [hn];simp,L8⟩
 obtain ⟨rfl,L9⟩:=hcut
 clear L8
 obtain ⟨bt,hbt⟩: ∃ b,M.timeFits m=b:=⟨_,rfl⟩
 rw [hbt]
 have HBT:=hid hbt
 clear hbt
 go_upto_if 94 with fail
 go_cut [] from 95 to 104 (fun wx=> ∃ A n c,Hid (Ld w wx m (.slice Ap m.parts.length cp) ev (hTime m) (.slice A n c) (r7++(M.gTime m).map M.mk) 8))
 case first=>
  have hn7:n10=r7.length:=by obtain ⟨A',c',e,_⟩:=L9.out.own.rd;injection e
  subst hn7
  have hb:=HBT.out
  cases bt with
  |true=>
   have ht:hTime m= { hBare m with mtime:=m.sec } :=by unfold hTime keptT;rw [hb];rfl
   have hg:(M.gTime m).map M.mk= []:=by unfold M.gTime;rw [hb];rfl
   have k8:=L9.out.met.cell (i:=8) (v:= .int .i64 m.sec) rfl
   have f5:=L9.out.t.frozen 5
   have k5:=L9.out.t.cell (i:=5) (v:= .int .i64 (hBare m).mtime) rfl
   clear hb HBT
   go_wp2_with fail
   go_meet
   case rel=>exact ⟨A10,_,c10,hid (by rw [ht,hg,List.append_nil];exact (L9.out.set (h':= { hBare m with mtime:=m.sec }) 5 (.int .i64 m.sec) rfl).more (by decide))⟩
  |false=>
   have ht:hTime m=hBare m:=by unfold hTime keptT;rw [hb];rfl
   obtain ⟨x,hx⟩: ∃ x:ByteArray,⟨(St.M.pr (St.M.norm (m.sec,m.nan))).toArray⟩=x:=⟨_,rfl⟩
   have hg:(M.gTime m).map M.mk= [(M.kTime,x)]:=by rw [←hx];unfold M.gTime;rw [hb];rfl
   have HP:=hid (fun (V:World) (h1:B≤V.heap.size) (h2:Sp.EV B V)=>St.refPrint_any m.sec m.nan B V h1 h2.tens)
   unfold St.TextIs at HP
   rw [hx] at HP
   have HC:=hid (fun (V:World) (hV:Ld w V m (.slice Ap m.parts.length cp) ev (hBare m) (.slice A10 r7.length c10) r7 7)=>told10_any (hBare m) r7 A10 c10 M.kTime x V (ownR_rd hV.own) (Nat.le_trans hV.few (by decide)))
   have HTQ:=hid ht
   have HGQ:=hid hg
   clear hb HBT hx ht hg
   go_upto_region 14 with fail
   refine wp_region_rows [100,101,102,103,104] (by kernel_rfl) (by kernel_rfl) (by kernel_rfl) (fun (i:Nat) (v:Value) (W:World)=>match i with|0=>v= .agg (tcells (hBare m) (.slice none 0 0) (.slice A10 r7.length c10))|1=>v= .pointer (some ⟨w.heap.size,8,none⟩)|2=>v= .agg #[.int .i64 m.sec, .int .i64 m.nan]|3=>v= .string x|_=> ∃ A n c,v= .agg (tcells (hBare m) (.slice none 0 0) (.slice A n c))∧Px.OwnR W (w.heap.size+3) (.slice A n c) (r7++ [(M.kTime,x)])) ?_ ?_ ?_
   ·intro i hi v w1 w2 hb hR
    have hlt:i<5:=hi
    have hi':i=0∨i=1∨i=2∨i=3∨i=4:=by omega
    clear hlt hi
    rcases hi' with rfl|rfl|rfl|rfl|rfl
    ·exact hR
    ·exact hR
    ·exact hR
    ·exact hR
    ·obtain ⟨A,n,c,h1,h2⟩:=hR
     exact ⟨A,n,c,h1,h2.below hb⟩
   ·intro i hi o ho a w1 hw hpar hp
    have HE:=hid (L9.out.later hw)
    have hlt:i<5:=hi
    have hi':i=0∨i=1∨i=2∨i=3∨i=4:=by omega
    clear hlt hi
    rcases hi' with rfl|rfl|rfl|rfl|rfl
    ·simp only [List.getElem?_toArray,List.getElem?_cons_zero,List.getElem?_cons_succ,Option.some.injEq] at ho
     subst ho
     have hs3:a.tmps[3]?.getD undef= .pointer (some ⟨w.heap.size+2,0,none⟩):=(eval_getD a 3).symm.trans (hpar 3 (by decide))
     refine wp_load_row 65 (.tmp 3) rfl (w.heap.size+2) ((eval_getD a 3).trans hs3) 65 _ (0,0) _ HE.out.t Tryz.underlying65 rfl t_size ?_
     exact ⟨_,rfl,rfl,Below.refl _ _⟩
    ·simp only [List.getElem?_toArray,List.getElem?_cons_zero,List.getElem?_cons_succ,Option.some.injEq] at ho
     subst ho
     have hs1:a.tmps[1]?.getD undef= .pointer (some ⟨w.heap.size,0,none⟩):=(eval_getD a 1).symm.trans (hpar 1 (by decide))
     clear hp hpar
     go_simp
     exact ⟨_,rfl,rfl,Below.refl _ _⟩
    ·simp only [List.getElem?_toArray,List.getElem?_cons_zero,List.getElem?_cons_succ,Option.some.injEq] at ho
     subst ho
     have h1:a.tmps[101]?.getD undef= .pointer (some ⟨w.heap.size,8,none⟩):=(eval_getD a 101).symm.trans (hp ⟨1, .data⟩ (by simp) rfl)
     have k8:=HE.out.met.cell (i:=8) (v:= .int .i64 m.sec) rfl
     have k9:=HE.out.met.cell (i:=9) (v:= .int .i64 m.nan) rfl
     clear hp hpar
     go_simp
     exact ⟨_,rfl,rfl,Below.refl _ _⟩
    ·simp only [List.getElem?_toArray,List.getElem?_cons_zero,List.getElem?_cons_succ,Option.some.injEq] at ho
     subst ho
     have h2:a.tmps[102]?.getD undef= .agg #[.int .i64 m.sec, .int .i64 m.nan]:=(eval_getD a 102).symm.trans (hp ⟨2, .data⟩ (by simp) rfl)
     clear hp hpar
     go_simp
     (with_reducible refine (HP.out _ (HT.out _ HE.out.below).1 (HT.out _ HE.out.below).2).mono ?_)
     rintro e w2 ⟨rfl,h2⟩
     exact ⟨_,rfl,rfl,h2⟩
    ·simp only [List.getElem?_toArray,List.getElem?_cons_zero,List.getElem?_cons_succ,Option.some.injEq] at ho
     subst ho
     have h0:a.tmps[100]?.getD undef= .agg (tcells (hBare m) (.slice none 0 0) (.slice A10 r7.length c10)):=(eval_getD a 100).symm.trans (hp ⟨0, .data⟩ (by simp) rfl)
     have h3:a.tmps[103]?.getD undef= .string x:=(eval_getD a 103).symm.trans (hp ⟨3, .data⟩ (by simp) rfl)
     clear hp hpar
     go_simp
     refine (HC.out _ HE.out).mono ?_
     rintro e w2 ⟨v9,rfl,o9,b9⟩
     obtain ⟨A9,n9,c9,rfl⟩: ∃ A n c,v9= .slice A n c:=by obtain ⟨A,c,e,_⟩:=o9.rd;exact ⟨A,_,c,e⟩
     exact ⟨_,rfl,⟨A9,n9,c9,rfl,o9.lower HE.out.size⟩,b9⟩
   ·intro o ho vs w1 hw h
    simp only [List.length_cons,List.length_nil,Nat.reduceAdd,List.getElem?_toArray,List.getElem?_cons_zero,List.getElem?_cons_succ,Option.some.injEq] at ho
    subst ho
    have HE:=hid (L9.out.later hw)
    have e0:vs 0= .agg (tcells (hBare m) (.slice none 0 0) (.slice A10 r7.length c10)):=h 0 (by decide)
    have e1:vs 1= .pointer (some ⟨w.heap.size,8,none⟩):=h 1 (by decide)
    have e2:vs 2= .agg #[.int .i64 m.sec, .int .i64 m.nan]:=h 2 (by decide)
    have e3:vs 3= .string x:=h 3 (by decide)
    have x4: ∃ q:Option Addr × Nat × Nat,vs 4= .agg (tcells (hBare m) (.slice none 0 0) (.slice q.1 q.2.1 q.2.2))∧Px.OwnR w1 (w.heap.size+3) (.slice q.1 q.2.1 q.2.2) (r7++ [(M.kTime,x)]):=(h 4 (by decide)).elim fun A h=>h.elim fun n h=>h.elim fun c h=>⟨(A,n,c),h⟩
    have y4:=Classical.choose_spec x4
    generalize Classical.choose x4=q at y4
    have e4:=y4.1
    have HO9:=hid y4.2
    clear x4 y4
    rw [show List.length ([100,101,102,103,104]:List Nat)=5 from rfl]
    rw [putAll_at 5 4 rfl (d:=104) rfl e4]
    rw [putAll_at 4 3 rfl (d:=103) rfl e3]
    rw [putAll_at 3 2 rfl (d:=102) rfl e2]
    rw [putAll_at 2 1 rfl (d:=101) rfl e1]
    rw [putAll_at 1 0 rfl (d:=100) rfl e0]
    rw [putAll_zero]
    simp only [Act.put,List.setIfInBounds_toArray,List.set_cons_zero,List.set_cons_succ]
    refine wp_store_row 65 (.tmp 3) (.tmp 104) rfl (w.heap.size+2) (tcells (hBare m) (.slice none 0 0) (.slice q.1 q.2.1 q.2.2)) (by rfl) (by rfl) 65 _ HE.out.t t_size rfl (tcells_one _ rfl rfl) ?_
    have Lr:=hid (show Ld w (w1.setRow (w.heap.size+2) (tcells (hBare m) (.slice none 0 0) (.slice q.1 q.2.1 q.2.2))) m (.slice Ap m.parts.length cp) ev (hTime m) (.slice q.1 q.2.1 q.2.2) (r7++(M.gTime m).map M.mk) 8 from by rw [HTQ.out,HGQ.out];exact HE.out.put (h':=hBare m) (k':=8) HO9.out (by rw [List.length_append];have:=HE.out.few;simp;omega))
    clear h e0 e1 e2 e3 e4 HE HO9 HTQ HGQ
    go_wp2_with fail
    go_meet
    case rel=>exact ⟨q.1,q.2.1,q.2.2,Lr⟩
 obtain ⟨A8,n8,c8,La⟩:=hcut
 clear L9
 obtain ⟨r8,hr8⟩: ∃ r,r7++(M.gTime m).map M.mk=r:=⟨_,rfl⟩
 rw [hr8] at La
 have HR8:=hid hr8
 clear hr8
 have k14:=La.out.met.cell (i:=14) (v:= .bool m.holes) rfl
 obtain ⟨bh,hbh⟩: ∃ b,m.holes=b:=⟨_,rfl⟩
 rw [hbh] at k14
 have HBH:=hid hbh
 clear hbh
 go_upto_if 106 with fail
 clear k14
 go_cut [] from 107 to 120 (fun wx=> ∃ A n c,Hid (Ld w wx m (.slice Ap m.parts.length cp) ev (hTime m) (.slice A n c) (r8++(M.gHoles m).map M.mk) 10))
 case first=>
  have hn8:n8=r8.length:=by obtain ⟨A',c',e,_⟩:=La.out.own.rd;injection e
  subst hn8
  have hh:=HBH.out
  cases bh with
  |false=>
   have hg:(M.gHoles m).map M.mk= []:=by unfold M.gHoles;rw [hh];rfl
   clear hh HBH
   go_wp2_with fail
   go_meet
   case rel=>exact ⟨A8,_,c8,hid (by rw [hg,List.append_nil];exact La.out.more (by decide))⟩
  |true=>
   have hck:=M.check_facts (HR.out.holes hh).2.2
   obtain ⟨y,hy⟩: ∃ y:ByteArray,Sp.mkS (M.layout m.parts)=y:=⟨_,rfl⟩
   obtain ⟨z,hz⟩: ∃ z:ByteArray,(⟨(Lib.itoa m.real).toArray⟩:ByteArray)=z:=⟨_,rfl⟩
   have hg:(M.gHoles m).map M.mk= [(M.kMap,y),(M.kReal,z)]:=by rw [←hy,←hz];unfold M.gHoles;rw [hh];rfl
   have HGQ:=hid hg
   have HCK:=hid hck
   have HY:=hid hy
   have HI:=hid (fun (V:World) (h2:Sp.EV B V)=>Sp.itoa_any m.real (by omega) (by omega) B V h2)
   rw [hz] at HI
   have HC:=hid (fun (V:World) (hV:Ld w V m (.slice Ap m.parts.length cp) ev (hTime m) (.slice A8 r8.length c8) r8 8)=>told10_any (hTime m) r8 A8 c8 M.kMap y V (ownR_rd hV.own) (Nat.le_trans hV.few (by decide)))
   clear hh HBH hck hy hz hg
   go_upto_region 17 with fail
   have k15:=La.out.met.cell (i:=15) (v:= .slice Ap m.parts.length cp) rfl
   have hlp:=HCK.out.1
   go_upto_if 110 with fail
   clear k15
   obtain ⟨bq,hbq⟩: ∃ b,decide (0<m.parts.length)=b:=⟨_,rfl⟩
   rw [hbq]
   have HBQ:=hid hbq
   clear hbq
   go_cut [15] from 111 to 113 (fun v wx=>v= .string y∧Hid (Ld w wx m (.slice Ap m.parts.length cp) ev (hTime m) (.slice A8 r8.length c8) r8 8))
   case first=>
    by_cases hp:m.parts= []
    ·have hy0:y=⟨#[48,44,48]⟩:=by rw [←HY.out,hp];rfl
     obtain rfl:bq=false:=by rw [←HBQ.out,hp];rfl
     go_wp2_with fail
     go_meet
     case rel=>exact ⟨by rw [hy0],La⟩
    ·have hy0:Sp.mkS (Sp.M.print m.parts)=y:=by rw [←HY.out];unfold M.layout;rw [if_neg hp]
     obtain rfl:bq=true:=by rw [←HBQ.out,decide_eq_true_eq];exact List.length_pos_iff.2 hp
     have k15:=La.out.met.cell (i:=15) (v:= .slice Ap m.parts.length cp) rfl
     have hf:=Sp.refPrint_any Ap m.parts.length cp m.parts wc ((HRP.out.below La.out.below).more La.out.below.size) HM.out.i64s (by omega) ((HT.out _ La.out.below).2.up (HT.out _ La.out.below).1)
     rw [hy0] at hf
     go_wp2_with fail
     (with_reducible refine hf.mono ?_)
     rintro e w2 ⟨rfl,b2⟩
     have Lx:=hid (La.out.later b2)
     clear k15 hf b2
     go_wp2_with fail
     go_meet
     case rel=>exact ⟨rfl,Lx⟩
   obtain ⟨rfl,Lb⟩:=hcut
   clear La HY hlp
   obtain ⟨r8a,h8a⟩: ∃ r,r8++ [(M.kMap,y)]=r:=⟨_,rfl⟩
   obtain ⟨r8b,h8b⟩: ∃ r,r8a++ [(M.kReal,z)]=r:=⟨_,rfl⟩
   rw [h8a] at HC
   have H8A:=hid (And.intro h8a (show r8a.length=r8.length+1 from by rw [←h8a];simp))
   have H8B:=hid h8b
   clear h8a h8b
   go_upto_region 19 with fail
   refine wp_region_rows [114,115,116,117,118,119,120] (by kernel_rfl) (by kernel_rfl) (by kernel_rfl) (fun (i:Nat) (v:Value) (W:World)=>match i with|0=>v= .agg (tcells (hTime m) (.slice none 0 0) (.slice A8 r8.length c8))|1=>v= .string y|2=> ∃ A c,v= .agg (tcells (hTime m) (.slice none 0 0) (.slice A r8a.length c))∧Px.OwnR W (w.heap.size+3) (.slice A r8a.length c) r8a|3=>v= .pointer (some ⟨w.heap.size,13,none⟩)|4=>v= .int .i64 m.real|5=>v= .string z|_=> ∃ A n c,v= .agg (tcells (hTime m) (.slice none 0 0) (.slice A n c))∧Px.OwnR W (w.heap.size+3) (.slice A n c) r8b) ?_ ?_ ?_
   ·intro i hi v w1 w2 hb hR
    have hlt:i<7:=hi
    have hi':i=0∨i=1∨i=2∨i=3∨i=4∨i=5∨i=6:=by omega
    clear hlt hi
    rcases hi' with rfl|rfl|rfl|rfl|rfl|rfl|rfl
    ·exact hR
    ·exact hR
    ·obtain ⟨A,c,h1,h2⟩:=hR
     exact ⟨A,c,h1,h2.below hb⟩
    ·exact hR
    ·exact hR
    ·exact hR
    ·obtain ⟨A,n,c,h1,h2⟩:=hR
     exact ⟨A,n,c,h1,h2.below hb⟩
   ·intro i hi o ho a w1 hw hpar hp
    have HE:=hid (Lb.out.later hw)
    have hlt:i<7:=hi
    have hi':i=0∨i=1∨i=2∨i=3∨i=4∨i=5∨i=6:=by omega
    clear hlt hi
    rcases hi' with rfl|rfl|rfl|rfl|rfl|rfl|rfl
    ·simp only [List.getElem?_toArray,List.getElem?_cons_zero,List.getElem?_cons_succ,Option.some.injEq] at ho
     subst ho
     have hs3:a.tmps[3]?.getD undef= .pointer (some ⟨w.heap.size+2,0,none⟩):=(eval_getD a 3).symm.trans (hpar 3 (by decide))
     refine wp_load_row 65 (.tmp 3) rfl (w.heap.size+2) ((eval_getD a 3).trans hs3) 65 _ (0,0) _ HE.out.t Tryz.underlying65 rfl t_size ?_
     exact ⟨_,rfl,rfl,Below.refl _ _⟩
    ·simp only [List.getElem?_toArray,List.getElem?_cons_zero,List.getElem?_cons_succ,Option.some.injEq] at ho
     subst ho
     have hs15:a.tmps[15]?.getD undef= .string y:=(eval_getD a 15).symm.trans (hpar 15 (by decide))
     clear hp hpar
     go_simp
     exact ⟨_,rfl,rfl,Below.refl _ _⟩
    ·simp only [List.getElem?_toArray,List.getElem?_cons_zero,List.getElem?_cons_succ,Option.some.injEq] at ho
     subst ho
     have h0:a.tmps[114]?.getD undef= .agg (tcells (hTime m) (.slice none 0 0) (.slice A8 r8.length c8)):=(eval_getD a 114).symm.trans (hp ⟨0, .data⟩ (by simp) rfl)
     have h1:a.tmps[115]?.getD undef= .string y:=(eval_getD a 115).symm.trans (hp ⟨1, .data⟩ (by simp) rfl)
     clear hp hpar
     go_simp
     refine (HC.out _ HE.out).mono ?_
     rintro e w2 ⟨v9,rfl,o9,b9⟩
     obtain ⟨A9,c9,rfl⟩: ∃ A c,v9= .slice A r8a.length c:=by obtain ⟨A,c,e,_⟩:=o9.rd;exact ⟨A,c,e⟩
     exact ⟨_,rfl,⟨A9,c9,rfl,o9.lower HE.out.size⟩,b9⟩
    ·simp only [List.getElem?_toArray,List.getElem?_cons_zero,List.getElem?_cons_succ,Option.some.injEq] at ho
     subst ho
     have hs1:a.tmps[1]?.getD undef= .pointer (some ⟨w.heap.size,0,none⟩):=(eval_getD a 1).symm.trans (hpar 1 (by decide))
     clear hp hpar
     go_simp
     exact ⟨_,rfl,rfl,Below.refl _ _⟩
    ·simp only [List.getElem?_toArray,List.getElem?_cons_zero,List.getElem?_cons_succ,Option.some.injEq] at ho
     subst ho
     have h3:a.tmps[117]?.getD undef= .pointer (some ⟨w.heap.size,13,none⟩):=(eval_getD a 117).symm.trans (hp ⟨3, .data⟩ (by simp) rfl)
     have k13:=HE.out.met.cell (i:=13) (v:= .int .i64 m.real) rfl
     clear hp hpar
     go_simp
     exact ⟨_,rfl,rfl,Below.refl _ _⟩
    ·simp only [List.getElem?_toArray,List.getElem?_cons_zero,List.getElem?_cons_succ,Option.some.injEq] at ho
     subst ho
     have h4:a.tmps[118]?.getD undef= .int .i64 m.real:=(eval_getD a 118).symm.trans (hp ⟨4, .data⟩ (by simp) rfl)
     clear hp hpar
     go_simp
     (with_reducible refine (HI.out _ (HT.out _ HE.out.below).2).mono ?_)
     rintro e w2 ⟨rfl,h2⟩
     exact ⟨_,rfl,rfl,h2⟩
    ·simp only [List.getElem?_toArray,List.getElem?_cons_zero,List.getElem?_cons_succ,Option.some.injEq] at ho
     subst ho
     have h5:a.tmps[119]?.getD undef= .string z:=(eval_getD a 119).symm.trans (hp ⟨5, .data⟩ (by simp) rfl)
     obtain ⟨A2,c2,h2,o2⟩: ∃ A c,a.eval (.tmp 116)= .agg (tcells (hTime m) (.slice none 0 0) (.slice A r8a.length c))∧Px.OwnR w1 (w.heap.size+3) (.slice A r8a.length c) r8a:=hp ⟨2, .data⟩ (by simp) rfl
     rw [eval_getD] at h2
     have hc2:=told10_any (hTime m) r8a A2 c2 M.kReal z w1 (ownR_rd o2) (by have:=HE.out.few;have:=H8A.out.2;omega)
     rw [H8B.out] at hc2
     have HC2:=hid hc2
     clear hc2 o2
     clear hp hpar
     go_simp
     refine HC2.out.mono ?_
     rintro e w2 ⟨v9,rfl,o9,b9⟩
     obtain ⟨A9,n9,c9,rfl⟩: ∃ A n c,v9= .slice A n c:=by obtain ⟨A,c,e,_⟩:=o9.rd;exact ⟨A,_,c,e⟩
     exact ⟨_,rfl,⟨A9,n9,c9,rfl,o9.lower HE.out.size⟩,b9⟩
   ·intro o ho vs w1 hw h
    simp only [List.length_cons,List.length_nil,Nat.reduceAdd,List.getElem?_toArray,List.getElem?_cons_zero,List.getElem?_cons_succ,Option.some.injEq] at ho
    subst ho
    have HE:=hid (Lb.out.later hw)
    have e0:vs 0= .agg (tcells (hTime m) (.slice none 0 0) (.slice A8 r8.length c8)):=h 0 (by decide)
    have e1:vs 1= .string y:=h 1 (by decide)
    have x2: ∃ v,vs 2=v:=⟨_,rfl⟩
    have e2:=Classical.choose_spec x2
    generalize Classical.choose x2=v2 at e2
    have e3:vs 3= .pointer (some ⟨w.heap.size,13,none⟩):=h 3 (by decide)
    have e4:vs 4= .int .i64 m.real:=h 4 (by decide)
    have e5:vs 5= .string z:=h 5 (by decide)
    have x6: ∃ q:Option Addr × Nat × Nat,vs 6= .agg (tcells (hTime m) (.slice none 0 0) (.slice q.1 q.2.1 q.2.2))∧Px.OwnR w1 (w.heap.size+3) (.slice q.1 q.2.1 q.2.2) r8b:=(h 6 (by decide)).elim fun A h=>h.elim fun n h=>h.elim fun c h=>⟨(A,n,c),h⟩
    have y6:=Classical.choose_spec x6
    generalize Classical.choose x6=q at y6
    have e6:=y6.1
    have HO9:=hid y6.2
    clear x6 y6
    rw [show List.length ([114,115,116,117,118,119,120]:List Nat)=7 from rfl]
    rw [putAll_at 7 6 rfl (d:=120) rfl e6]
    rw [putAll_at 6 5 rfl (d:=119) rfl e5]
    rw [putAll_at 5 4 rfl (d:=118) rfl e4]
    rw [putAll_at 4 3 rfl (d:=117) rfl e3]
    rw [putAll_at 3 2 rfl (d:=116) rfl e2]
    rw [putAll_at 2 1 rfl (d:=115) rfl e1]
    rw [putAll_at 1 0 rfl (d:=114) rfl e0]
    rw [putAll_zero]
    simp only [Act.put,List.setIfInBounds_toArray,List.set_cons_zero,List.set_cons_succ]
    refine wp_store_row 65 (.tmp 3) (.tmp 120) rfl (w.heap.size+2) (tcells (hTime m) (.slice none 0 0) (.slice q.1 q.2.1 q.2.2)) (by rfl) (by rfl) 65 _ HE.out.t t_size rfl (tcells_one _ rfl rfl) ?_
    have Lr:=hid (show Ld w (w1.setRow (w.heap.size+2) (tcells (hTime m) (.slice none 0 0) (.slice q.1 q.2.1 q.2.2))) m (.slice Ap m.parts.length cp) ev (hTime m) (.slice q.1 q.2.1 q.2.2) (r8++(M.gHoles m).map M.mk) 10 from by rw [HGQ.out];exact HE.out.put (h':=hTime m) (k':=10) (by have:=HO9.out;rw [←H8B.out,←H8A.out.1,List.append_assoc] at this;exact this) (by rw [List.length_append];have:=HE.out.few;simp;omega))
    clear h e0 e1 e2 e3 e4 e5 e6 HE HO9 HGQ H8A H8B
    go_wp2_with fail
    go_meet
    case rel=>exact ⟨q.1,q.2.1,q.2.2,Lr⟩
 obtain ⟨A,n,c,Lc⟩:=hcut
 clear La
 obtain ⟨r9,hr9⟩: ∃ r,r8++(M.gHoles m).map M.mk=r:=⟨_,rfl⟩
 rw [hr9] at Lc
 have HR9:=hid hr9
 clear hr9
 obtain rfl:=HS1.out
 obtain rfl:=HS2.out
 clear HS1 HS2 HSZ HINT HRP HT HM
 have f20:=Lc.out.t.frozen 13
 have k20:=Lc.out.t.cell (i:=13) (v:= .string ((hTime m)).pre) rfl
 go_upto_region 21 with fail
 have S20:=hid (Lc.out.set (h':= { (hTime m) with pre:=(M.split m.name).1 }) 13 (.string (M.split m.name).1) rfl)
 clear f20 k20 Lc
 generalize World.setCell wc _ _=V20 at*
 have f21:=S20.out.t.frozen 0
 have k21:=S20.out.t.cell (i:=0) (v:= .string ({ (hTime m) with pre:=(M.split m.name).1 }).name) rfl
 go_upto_region 22 with fail
 have S21:=hid (S20.out.set (h':= { (hTime m) with pre:=(M.split m.name).1,name:=(M.split m.name).2.1 }) 0 (.string (M.split m.name).2.1) rfl)
 clear f21 k21 S20
 generalize World.setCell V20 _ _=V21 at*
 have f22:=S21.out.t.frozen 7
 have k22:=S21.out.t.cell (i:=7) (v:= .string ({ (hTime m) with pre:=(M.split m.name).1,name:=(M.split m.name).2.1 }).link) rfl
 go_upto_region 23 with fail
 have S22:=hid (S21.out.set (h':= { (hTime m) with pre:=(M.split m.name).1,name:=(M.split m.name).2.1,link:=(m.link.extract 0 100) }) 7 (.string (m.link.extract 0 100)) rfl)
 clear f22 k22 S21
 generalize World.setCell V21 _ _=V22 at*
 have f23:=S22.out.t.frozen 9
 have k23:=S22.out.t.cell (i:=9) (v:= .string ({ (hTime m) with pre:=(M.split m.name).1,name:=(M.split m.name).2.1,link:=(m.link.extract 0 100) }).user) rfl
 go_upto_region 24 with fail
 have S23:=hid (S22.out.set (h':= { (hTime m) with pre:=(M.split m.name).1,name:=(M.split m.name).2.1,link:=(m.link.extract 0 100),user:=(m.user.extract 0 32) }) 9 (.string (m.user.extract 0 32)) rfl)
 clear f23 k23 S22
 generalize World.setCell V22 _ _=V23 at*
 have f24:=S23.out.t.frozen 10
 have k24:=S23.out.t.cell (i:=10) (v:= .string ({ (hTime m) with pre:=(M.split m.name).1,name:=(M.split m.name).2.1,link:=(m.link.extract 0 100),user:=(m.user.extract 0 32) }).group) rfl
 go_upto_region 25 with fail
 have S24:=hid (S23.out.set (h':= { (hTime m) with pre:=(M.split m.name).1,name:=(M.split m.name).2.1,link:=(m.link.extract 0 100),user:=(m.user.extract 0 32),group:=(m.group.extract 0 32) }) 10 (.string (m.group.extract 0 32)) rfl)
 clear f24 k24 S23
 generalize World.setCell V23 _ _=V24 at*
 have f25:=S24.out.t.frozen 2
 have k25:=S24.out.t.cell (i:=2) (v:= .int .i64 ({ (hTime m) with pre:=(M.split m.name).1,name:=(M.split m.name).2.1,link:=(m.link.extract 0 100),user:=(m.user.extract 0 32),group:=(m.group.extract 0 32) }).uid) rfl
 go_upto_region 26 with fail
 have S25:=hid (S24.out.set (h':= { (hTime m) with pre:=(M.split m.name).1,name:=(M.split m.name).2.1,link:=(m.link.extract 0 100),user:=(m.user.extract 0 32),group:=(m.group.extract 0 32),uid:=(keptN m.uid 8) }) 2 (.int .i64 (keptN m.uid 8)) rfl)
 clear f25 k25 S24
 generalize World.setCell V24 _ _=V25 at*
 have f26:=S25.out.t.frozen 3
 have k26:=S25.out.t.cell (i:=3) (v:= .int .i64 ({ (hTime m) with pre:=(M.split m.name).1,name:=(M.split m.name).2.1,link:=(m.link.extract 0 100),user:=(m.user.extract 0 32),group:=(m.group.extract 0 32),uid:=(keptN m.uid 8) }).gid) rfl
 go_upto_region 27 with fail
 have S26:=hid (S25.out.set (h':= { (hTime m) with pre:=(M.split m.name).1,name:=(M.split m.name).2.1,link:=(m.link.extract 0 100),user:=(m.user.extract 0 32),group:=(m.group.extract 0 32),uid:=(keptN m.uid 8),gid:=(keptN m.gid 8) }) 3 (.int .i64 (keptN m.gid 8)) rfl)
 clear f26 k26 S25
 generalize World.setCell V25 _ _=V26 at*
 have f27:=S26.out.t.frozen 4
 have k27:=S26.out.t.cell (i:=4) (v:= .int .i64 ({ (hTime m) with pre:=(M.split m.name).1,name:=(M.split m.name).2.1,link:=(m.link.extract 0 100),user:=(m.user.extract 0 32),group:=(m.group.extract 0 32),uid:=(keptN m.uid 8),gid:=(keptN m.gid 8) }).size) rfl
 go_upto_region 28 with fail
 have S27:=hid (S26.out.set (h':= { (hTime m) with pre:=(M.split m.name).1,name:=(M.split m.name).2.1,link:=(m.link.extract 0 100),user:=(m.user.extract 0 32),group:=(m.group.extract 0 32),uid:=(keptN m.uid 8),gid:=(keptN m.gid 8),size:=(keptN m.size 12) }) 4 (.int .i64 (keptN m.size 12)) rfl)
 clear f27 k27 S26
 generalize World.setCell V26 _ _=V27 at*
 have Lz:=hid (show Ld w V27 m (.slice Ap m.parts.length cp) ev (M.head m) (.slice A n c) r9 10 from S27.out)
 clear S27
 go_wp2_with (first
  |(refine wpList_load_row rfl 65 (.tmp 3) rfl (w.heap.size+2) (by rfl) 65 (tcells (M.head m) (.slice none 0 0) (.slice A n c)) (0,0) _ Lz.out.t Tryz.underlying65 rfl t_size ?_)
  |(refine wpList_store_row rfl 65 (.tmp 2) (.tmp 145) rfl (w.heap.size+1) (tcells (M.head m) (.slice none 0 0) (.slice A n c)) (by rfl) (by rfl) 65 _ Lz.out.res t_size rfl (tcells_one _ rfl rfl) ?_))
 refine bodyPost_ret (results_laid (Lz.out.res.row (M.head m) (.slice none 0 0) (.slice A n c)) rfl) rfl ?_
 have ho:=(ownR_row Lz.out.own (g:=w.heap.size+1) (by omega) (tcells (M.head m) (.slice none 0 0) (.slice A n c))).lower (b2:=w.heap.size) (by omega)
 have hr:r9=(M.gives m).map M.mk:=by
  rw [←HR9.out,←HR8.out,←HR7.out]
  unfold rec7 M.gives
  simp only [List.map_append,List.append_assoc]
 rw [hr] at ho
 exact ⟨_,rfl,ho,below_setRow Lz.out.below (g:=w.heap.size+1) (by omega) _⟩
end Go.Proofs.YtgbgngdakkiclaaGreatDoor
