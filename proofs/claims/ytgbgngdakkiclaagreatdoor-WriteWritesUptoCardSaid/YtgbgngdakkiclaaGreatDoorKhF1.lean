/-
  Texts of one chapter, merged.
-/
import Derived.Test.YtgbgngdakkiclaaGreatDoorKhF0
import Derived.Test.YtgbgngdakkiclaaGreatDoorKhA0
import Derived.LoopN
import Derived.LoopTactic
import Derived.StillTailTactics
import Derived.Test.YtgbgngdakkiclaaGreatDoorKhA1
set_option linter.unusedVariables false
set_option linter.unusedSimpArgs false
/-! KhHdMathQ -/
namespace Go.Proofs.YtgbgngdakkiclaaGreatDoor.Hd
namespace M
def bnd (o:Option (List Int)) (e:Int) (f:List Int→Int × List Int):Int × List Int:=match o with
 |none=>(e, [])
 |some z=>f z
def chk (b:Bool) (e:Int) (r:Int × List Int):Int × List Int:=if b=true then r else (e, [])
theorem bnd_some (z:List Int) (e:Int) (f:List Int→Int × List Int):bnd (some z) e f=f z:=rfl
def putT (zs:List Int) (a m:Nat) (s:ByteArray):Option (List Int):=(S.M.put s.data.toList m).map fun l=>splice zs a (S.ints l)
def putN (zs:List Int) (a m:Nat) (there:Bool) (lo up x:Int):Option (List Int):=
 if there=true then if putOk x m lo up=true then some (splice zs a (putR x m)) else none
 else if x=0 then some zs else none
def pputs:List Int→Nat→List (Int × Int)→Option (List Int)
 |zs,_, []=>some zs
 |zs,i,p::l=>
  if p.1=0∧p.2=0 then none
  else if putOk p.1 12 0 most=true then
   if putOk p.2 12 0 most=true then pputs (splice (splice zs (386+24*i) (putR p.1 12)) (386+24*i+12) (putR p.2 12)) (i+1) l else none
  else none
def putP (zs:List Int) (l:List (Int × Int)):Option (List Int):=if l.length≤4 then pputs zs 0 l else none
def blank (s:ByteArray):Bool:=s.toList== []
def bare (h:Hdr):Bool:=((h.way !=0)||blank h.user)&&(((h.way !=0)||blank h.group)&&((h.way==1)||blank h.pre))
def isWay (v:Int):Bool:=decide (0≤v)&&decide (v<3)
def flat (h:Hdr):Bool:=(h.kind==83)||(decide (h.parts.length=0)&& !h.more)
def hprint (h:Hdr):Int × List Int:=
 chk (known h.kind&&may h.kind h.way) 31<|
 bnd (putT ((nils 512).set 156 h.kind) 0 100 h.name) 33 fun z1=>
 bnd (putT z1 157 100 h.link) 33 fun z2=>
 bnd (putT z2 265 32 h.user) 33 fun z3=>
 bnd (putT z3 297 32 h.group) 33 fun z4=>
 bnd (putT z4 345 155 h.pre) 33 fun z5=>
 chk (bare h) 32<|
 chk (isWay h.way) 32<|
 bnd (putN (splice z5 257 (magic h.way.toNat)) 100 8 true 0 most h.mode) 32 fun y1=>
 bnd (putN y1 108 8 true 0 most h.uid) 32 fun y2=>
 bnd (putN y2 116 8 true 0 most h.gid) 32 fun y3=>
 bnd (putN y3 124 12 true 0 maxSize h.size) 32 fun y4=>
 bnd (putN y4 136 12 true (-most) most h.mtime) 32 fun y5=>
 bnd (putN y5 329 8 (h.way !=0) 0 most h.major) 32 fun y6=>
 bnd (putN y6 337 8 (h.way !=0) 0 most h.minor) 32 fun y7=>
 bnd (putN y7 483 12 (h.kind==83&&h.way==2) 0 maxSize h.real) 32 fun y8=>
 chk (flat h) 32<|
 bnd (putP y8 h.parts) 32 fun x=>
 (0,sld (if h.more=true then x.set 482 1 else x))
end M
end Go.Proofs.YtgbgngdakkiclaaGreatDoor.Hd

/-! KhHdPrintM -/
namespace Go.Proofs.YtgbgngdakkiclaaGreatDoor.Hd
open Go.RowKit Go.Lib
theorem print_idle (p q:Addr) (w:World):
  CallsD Tryz.prog 101 #[.pointer (some p), .pointer (some q)] .returning w fun e u' w'=>e= .returned (.tuple #[])∧u'= .returning∧w'=w:=by
 have hrep:Array.replicate 9 undef= #[undef,undef,undef,undef,undef,undef,undef,undef,undef]:=rfl
 refine callsD_of_wpS Tryz.func101 rfl fun c₀ cs hu=> ?_
 apply wpS_seq
 apply wpS_region
 simp [wpOpsS,go_sem,recoverD,hu,Tryz.ntmps101,Exit.thenS,errno_nil,hrep]
 refine wpS_of_wp ?_
 go_wp2
 cases c₀
 simp_all [bodyPostS,results,Tryz.results101]
theorem print_caught (g eb:Nat) (v:Value) (n:Int) (w:World) (hb:w.heap[g]?=some (.cells #[v] 22 (0,0))) (hne:eb≠g) (he:w.heap[eb]?=some (.cells #[.int .u16 0] 27 (0,0))):
  CallsD Tryz.prog 101 #[.pointer (some ⟨g,0,none⟩), .pointer (some ⟨eb,0,none⟩)] (.panicking (boom n)) w fun e u' w'=>
   e= .returned (.tuple #[])∧u'= .panicking [{ v:= .iface 27 (.int .u16 n),recovered:=true }]∧w'=(w.setCell ⟨g,0,none⟩ (.slice none 0 0)).setCell ⟨eb,0,none⟩ (.int .u16 n):=by
 have hrep:Array.replicate 9 undef= #[undef,undef,undef,undef,undef,undef,undef,undef,undef]:=rfl
 have c0:w.cell? ⟨g,0,none⟩=some v:=by rw [cell_of_row _ _ 0 _ _ _ hb];rfl
 have c1:w.cell? ⟨eb,0,none⟩=some (.int .u16 0):=by rw [cell_of_row _ _ 0 _ _ _ he];rfl
 have f0:=frozen_of_row _ _ 0 _ _ hb
 have f1:=frozen_of_row _ _ 0 _ _ he
 refine callsD_of_wpS Tryz.func101 rfl fun c₀ cs hu=> ?_
 unfold boom at hu
 apply wpS_seq
 apply wpS_region
 simp [wpOpsS,go_sem,recoverD,hu,Tryz.ntmps101,Exit.thenS,errno_some,hrep]
 refine wpS_of_wp ?_
 go_wp2
 cases c₀
 simp_all [bodyPostS,results,Tryz.results101]
theorem results_print {tmps:Array Value} {g eb:Nat} {v:Value} {n:Int} {w:World} (hg:w.cell? ⟨g,0,none⟩=some v) (he:w.cell? ⟨eb,0,none⟩=some (.int .u16 n))
  (h2:tmps.getD 2 undef= .pointer (some ⟨g,0,none⟩)) (h3:tmps.getD 3 undef= .pointer (some ⟨eb,0,none⟩)):
  (results Tryz.f71 tmps).run Tryz.prog w= .ok (.tuple #[v, .int .u16 n]) w:=by
 rw [Array.getD_eq_getD_getElem?] at h2 h3
 have hl:(loadVar 22 ⟨g,0,none⟩).run Tryz.prog w= .ok v w:=by simp [go_sem,hg]
 have hle:(loadVar 27 ⟨eb,0,none⟩).run Tryz.prog w= .ok (.int .u16 n) w:=by simp [go_sem,he]
 simp [results,Tryz.results71,h2,h3,asAddr,hl,hle]
structure QF (w0 w:World) (h:M.Hdr) (pv v:Value):Prop where
 box:HB w w0.heap.size h pv
 bytes:w.heap[w0.heap.size+1]?=some (.cells #[v] 22 (0,0))
 err:w.heap[w0.heap.size+2]?=some (.cells #[.int .u16 0] 27 (0,0))
 below:Below w0.heap.size w0 w
theorem QF.keep {w0 w w':World} {h:M.Hdr} {pv v:Value} (q:QF w0 w h pv v) (hb:Below (w0.heap.size+3) w w'):QF w0 w' h pv v:=
 ⟨(hb.block _ (by omega)).trans q.box,(hb.block _ (by omega)).trans q.bytes,(hb.block _ (by omega)).trans q.err,q.below.trans (hb.mono (by omega))⟩
theorem QF.size {w0 w:World} {h:M.Hdr} {pv v:Value} (q:QF w0 w h pv v):w0.heap.size+3≤w.heap.size:=(Array.getElem?_eq_some_iff.1 q.err).1
theorem QF.later {w0 w w':World} {h:M.Hdr} {pv v:Value} (q:QF w0 w h pv v) (hb:Below w.heap.size w w'):QF w0 w' h pv v:=q.keep (hb.mono q.size)
def PrintIs (r:Int × List Int) (w0:World) (e:Ending) (w':World):Prop:=
 (if r.1=0 then ∃ g,e= .returned (.tuple #[.slice (some ⟨g,0,none⟩) 512 512, .int .u16 0])∧w0.heap.size≤g∧Arr w' g 183 r.2
  else e= .returned (.tuple #[.slice none 0 0, .int .u16 r.1]))∧Below w0.heap.size w0 w'
theorem print_stop {r:Int × List Int} {tmps:Array Value} {n:Int} {w0 w:World} {h:M.Hdr} {pv v:Value} (hr:r=(n, [])) (hn:n≠0) (q:QF w0 w h pv v)
  (h2:tmps.getD 2 undef= .pointer (some ⟨w0.heap.size+1,0,none⟩)) (h3:tmps.getD 3 undef= .pointer (some ⟨w0.heap.size+2,0,none⟩)):
  bodyPostD Tryz.prog Tryz.f71 (PrintIs r w0) (.panic (boom n))
   { tmps:=tmps,defers:= [{ target:= .fn (.func 101) #[.pointer (some ⟨w0.heap.size+1,0,none⟩), .pointer (some ⟨w0.heap.size+2,0,none⟩)],args:= #[] }] } w:=by
 subst hr
 refine leaves_cons (f:=101) (args:= #[.pointer (some ⟨w0.heap.size+1,0,none⟩), .pointer (some ⟨w0.heap.size+2,0,none⟩)]) (by simp) (by simp [go_sem]) ?_
 refine (print_caught _ _ v n w q.bytes (by simp) q.err).mono ?_
 rintro e u' w'' ⟨rfl,rfl,rfl⟩
 have hb1:=heap_setCell_same w _ 0 _ _ (.slice none 0 0) q.bytes
 have hb2:=(heap_setCell_other (w.setCell ⟨w0.heap.size+1,0,none⟩ (.slice none 0 0)) ⟨w0.heap.size+2,0,none⟩ (w0.heap.size+1) (.int .u16 n) (by simp)).trans hb1
 have he1:=(heap_setCell_other w ⟨w0.heap.size+1,0,none⟩ (w0.heap.size+2) (.slice none 0 0) (by simp)).trans q.err
 have he2:=heap_setCell_same _ _ 0 _ _ (.int .u16 n) he1
 have hres:=results_print (v:= .slice none 0 0) (n:=n) (by rw [cell_of_row _ _ 0 _ _ _ hb2];simp) (by rw [cell_of_row _ _ 0 _ _ _ he2];simp) h2 h3
 have hbl:=(q.below.setCell (p:=⟨w0.heap.size+1,0,none⟩) (by simp) (.slice none 0 0)).setCell (p:=⟨w0.heap.size+2,0,none⟩) (by simp) (.int .u16 n)
 show Leaves _ _ _ _ [] (settle _) _
 simp only [settle]
 exact ⟨_,hres,by rw [if_neg hn],hbl⟩
theorem print_end {r:Int × List Int} {ys:List Int} {tmps:Array Value} {w0 w:World} {g:Nat} (hr:r=(0,ys)) (hg:w0.heap.size≤g) (ha:Arr w g 183 ys)
  (hb:w.heap[w0.heap.size+1]?=some (.cells #[.slice (some ⟨g,0,none⟩) 512 512] 22 (0,0))) (he:w.heap[w0.heap.size+2]?=some (.cells #[.int .u16 0] 27 (0,0))) (hbl:Below w0.heap.size w0 w)
  (h2:tmps.getD 2 undef= .pointer (some ⟨w0.heap.size+1,0,none⟩)) (h3:tmps.getD 3 undef= .pointer (some ⟨w0.heap.size+2,0,none⟩)):
  bodyPostD Tryz.prog Tryz.f71 (PrintIs r w0) .ret
   { tmps:=tmps,defers:= [{ target:= .fn (.func 101) #[.pointer (some ⟨w0.heap.size+1,0,none⟩), .pointer (some ⟨w0.heap.size+2,0,none⟩)],args:= #[] }] } w:=by
 subst hr
 refine leaves_cons (f:=101) (args:= #[.pointer (some ⟨w0.heap.size+1,0,none⟩), .pointer (some ⟨w0.heap.size+2,0,none⟩)]) (by simp) (by simp [go_sem]) ?_
 refine (print_idle _ _ w).mono ?_
 rintro e u' w'' ⟨rfl,rfl,rfl⟩
 have hres:=results_print (v:= .slice (some ⟨g,0,none⟩) 512 512) (n:=0) (by rw [cell_of_row _ _ 0 _ _ _ hb];rfl) (by rw [cell_of_row _ _ 0 _ _ _ he];rfl) h2 h3
 show Leaves _ _ _ _ [] (settle _) _
 simp only [settle]
 exact ⟨_,hres,by rw [if_pos rfl];exact ⟨g,rfl,hg,ha⟩,hbl⟩
def PartsB (w:World) (B:Nat) (pv:Value) (l:List (Int × Int)):Prop:=
 ∃ A c,pv= .slice A l.length c∧l.length≤c∧(0<l.length→ ∃ b off,A=some ⟨b,off,none⟩∧b<B∧ ∀ (j:Nat) (p:Int × Int),l[j]?=some p→w.cell? ⟨b,off+2*j,none⟩=some (.int .i64 p.1)∧w.cell? ⟨b,off+2*j+1,none⟩=some (.int .i64 p.2))
theorem PartsB.below {w w':World} {B:Nat} {pv:Value} {l:List (Int × Int)} (h:PartsB w B pv l) (hb:Below B w w'):PartsB w' B pv l:=by
 obtain ⟨A,c,rfl,h1,h2⟩:=h
 exact ⟨A,c,rfl,h1,fun hl=>let ⟨b,off,e,h4,h5⟩:=h2 hl;⟨b,off,e,h4,fun j p hp=>⟨(hb.cell (p:=⟨b,off+2*j,none⟩) h4).trans (h5 j p hp).1,(hb.cell (p:=⟨b,off+2*j+1,none⟩) h4).trans (h5 j p hp).2⟩⟩⟩
end Go.Proofs.YtgbgngdakkiclaaGreatDoor.Hd

/-! KhHdPrintP -/
namespace Go.Proofs.YtgbgngdakkiclaaGreatDoor.Hd
open Go.RowKit Go.Lib
structure PP (w0 W:World) (gb g:Nat) (zs:List Int) (p q:Int):Prop where
 arr:Arr W gb 5 zs
 box:W.heap[g]?=some (.cells #[.int .i64 p, .int .i64 q] 113 (0,0))
 ne:gb≠g
 below:Below gb w0 W
theorem PP.new {w0 W:World} {gb:Nat} {zs:List Int} (ha:Arr W gb 5 zs) (hb:Below gb w0 W) (p q:Int):PP w0 (W.alloc (.cells #[.int .i64 p, .int .i64 q] 113)) gb W.heap.size zs p q:=
 ⟨ha.alloc _,heap_alloc_new W _,Nat.ne_of_lt ha.lt,hb.alloc (Nat.le_of_lt ha.lt) _⟩
theorem PP.later {w0 W W':World} {gb g:Nat} {zs:List Int} {p q:Int} (h:PP w0 W gb g zs p q) (hb:Below W.heap.size W W'):PP w0 W' gb g zs p q:=
 ⟨h.arr.below hb h.arr.lt,(hb.block _ (Array.getElem?_eq_some_iff.1 h.box).1).trans h.box,h.ne,h.below.trans (hb.mono (Nat.le_of_lt h.arr.lt))⟩
theorem PP.laid {w0 W:World} {gb g:Nat} {zs:List Int} {p q:Int} (h:PP w0 W gb g zs p q) (ys:List Int):PP w0 (laid W gb ys) gb g ys p q:=
 ⟨h.arr.laid ys,(setRow_other _ _ _ _ (Ne.symm h.ne)).trans h.box,h.ne,below_setRow h.below (Nat.le_refl _) _⟩
theorem PP.cell0 {w0 W:World} {gb g:Nat} {zs:List Int} {p q:Int} (h:PP w0 W gb g zs p q):W.cell? ⟨g,0,none⟩=some (.int .i64 p):=by rw [cell_of_row _ _ 0 _ _ _ h.box];rfl
theorem PP.cell1 {w0 W:World} {gb g:Nat} {zs:List Int} {p q:Int} (h:PP w0 W gb g zs p q):W.cell? ⟨g,1,none⟩=some (.int .i64 q):=by rw [cell_of_row _ _ 1 _ _ _ h.box];rfl
theorem PP.more {w0 W:World} {gb g:Nat} {zs:List Int} {p q:Int} (h:PP w0 W gb g zs p q) (o:Obj):PP w0 (W.alloc o) gb g zs p q:=h.later ((Below.refl _ _).alloc (Nat.le_refl _) _)
def PartsPut (o:Option (List Int)) (gb:Nat) (w:World) (e:Ending) (w':World):Prop:=
 (match o with
  |none=>e= .panicked (boom 32)
  |some ys=>e= .returned (.tuple #[])∧Arr w' gb 5 ys∧ys.length=512)∧Below gb w w'
theorem PartsPut.no {o:Option (List Int)} {gb:Nat} {w w':World} (ho:o=none) (hb:Below gb w w'):PartsPut o gb w (.panicked (boom 32)) w':=by
 subst ho;exact ⟨rfl,hb⟩
theorem PartsPut.yes {o:Option (List Int)} {ys:List Int} {gb:Nat} {w w':World} (ho:o=some ys) (ha:Arr w' gb 5 ys) (hl:ys.length=512) (hb:Below gb w w'):PartsPut o gb w (.returned (.tuple #[])) w':=by
 subst ho;exact ⟨⟨rfl,ha,hl⟩,hb⟩
namespace M
theorem pputs_zero {zs:List Int} {i:Nat} {p:Int × Int} {l:List (Int × Int)} (h:p.1=0∧p.2=0):pputs zs i (p::l)=none:=by rw [pputs,if_pos h]
theorem pputs_bad1 {zs:List Int} {i:Nat} {p:Int × Int} {l:List (Int × Int)} (h: ¬ (p.1=0∧p.2=0)) (h1:putOk p.1 12 0 most=false):pputs zs i (p::l)=none:=by rw [pputs,if_neg h,h1,if_neg (by decide)]
theorem pputs_bad2 {zs:List Int} {i:Nat} {p:Int × Int} {l:List (Int × Int)} (h: ¬ (p.1=0∧p.2=0)) (h1:putOk p.1 12 0 most=true) (h2:putOk p.2 12 0 most=false):pputs zs i (p::l)=none:=by rw [pputs,if_neg h,h1,if_pos rfl,h2,if_neg (by decide)]
theorem pputs_next {zs:List Int} {i:Nat} {p:Int × Int} {l:List (Int × Int)} (h: ¬ (p.1=0∧p.2=0)) (h1:putOk p.1 12 0 most=true) (h2:putOk p.2 12 0 most=true):
  pputs zs i (p::l)=pputs (splice (splice zs (386+24*i) (putR p.1 12)) (386+24*i+12) (putR p.2 12)) (i+1) l:=by rw [pputs,if_neg h,h1,if_pos rfl,h2,if_pos rfl]
theorem putOk_fits {x:Int} {m:Nat} {lo up:Int} (h:putOk x m lo up=true):putFits x m=true:=by
 unfold putOk at h
 rw [Bool.and_eq_true] at h
 exact h.1
end M
def PutAt (w:World) (gb:Nat) (zs:List Int) (l:List (Int × Int)) (i:Value) (wr:World):Prop:=
 ∃ (k:Nat) (zk:List Int),i= .int .i64 k∧k≤l.length∧Hid (zk.length=512)∧Hid (M.pputs zs 0 l=M.pputs zk k (l.drop k))∧Hid (Arr wr gb 5 zk)∧Hid (Below gb w wr)
def i64p (l:List (Int × Int)):Prop:= ∀ p∈l,(-9223372036854775808≤p.1∧p.1≤9223372036854775807)∧(-9223372036854775808≤p.2∧p.2≤9223372036854775807)
set_option maxRecDepth 100000 in
set_option maxHeartbeats 2000000 in
theorem printParts_any (gb:Nat) (zs:List Int) (l:List (Int × Int)) (pv:Value) (w:World) (hA:Arr w gb 5 zs) (hz:zs.length=512) (hp:PartsB w gb pv l) (hbd:i64p l):
  Calls Tryz.prog 109 #[.slice (some ⟨gb,0,none⟩) 512 512,pv] w (PartsPut (M.putP zs l) gb w):=by
 have HP:=hid hp
 obtain ⟨A,c,rfl,hlc,_⟩:=hp
 have HBD:=hid hbd
 have HAA:=hid hA
 have hgb:=hA.lt
 clear hA hbd
 by_cases h4:l.length≤4
 case neg=>
  have hno:=hid (show M.putP zs l=none by unfold M.putP;rw [if_neg h4])
  have e1:decide ((l.length:Int)≤4)=false:=by rw [decide_eq_false_iff_not];omega
  clear HP h4
  go_enter Tryz.func109,Tryz.ntmps109
  go_wp2_with (go_at_call 102;(with_reducible refine (demand_no _ _).mono ?_);rintro e w9 ⟨rfl,rfl⟩)
  exact ⟨rfl,PartsPut.no hno.out (Below.refl _ _)⟩
 case pos=>
  have HX:=hid (show M.putP zs l=M.pputs zs 0 l by unfold M.putP;rw [if_pos h4])
  have e1:decide ((l.length:Int)≤4)=true:=by rw [decide_eq_true_eq];omega
  go_enter Tryz.func109,Tryz.ntmps109
  go_wp2_with (go_at_call 102;(with_reducible refine (demand_yes _ _).mono ?_);rintro e w9 ⟨rfl,rfl⟩)
  go_loopw [14] (fun i wr=>PutAt w gb zs l i wr) (fun i _=>l.length - (RowKit.intOf i).toNat)
  case atStart=>exact ⟨0,zs,rfl,Nat.zero_le _,hid hz,hid rfl,HAA,hid (Below.refl _ _)⟩
  case round=>
   obtain ⟨k,zk,rfl,hk,HZ,hpt,HA,HB⟩:=hrel
   clear HAA
   by_cases hkl:k<l.length
   ·obtain ⟨A',c',he,_,hcells⟩:=HP.out.below HB.out
    injection he with he1 _ he3
    subst he1 he3
    obtain ⟨b,off,rfl,hbg,hc⟩:=hcells (by omega)
    obtain ⟨p,hpk⟩: ∃ p,l[k]?=some p:=⟨_,List.getElem?_eq_getElem hkl⟩
    obtain ⟨c0,c1⟩:=hc k p hpk
    have hdr:l.drop k=p::l.drop (k+1):=by
     rw [List.drop_eq_getElem_cons hkl]
     congr 1
     rw [List.getElem?_eq_getElem hkl] at hpk
     injection hpk
    rw [hdr] at hpt
    have hbp:=HBD.out p (List.mem_of_getElem? hpk)
    obtain ⟨p,q⟩:=p
    dsimp only at c0 c1 hbp
    have ex:(386:Int)+(k:Int)*24=((386+24*k:Nat):Int):=by omega
    have hx:386+24*k≤458:=by omega
    rw [show 2*k=k*2 by omega] at c0 c1
    clear hpk hdr hcells hc
    by_cases hz0:p=0∧q=0
    ·have hno:=hid (HX.out.trans (hpt.out.trans (M.pputs_zero hz0)))
     obtain ⟨rfl,rfl⟩:=hz0
     go_wp2_with (go_at_call 102;(with_reducible refine (demand_no _ _).mono ?_);rintro e w9 ⟨rfl,rfl⟩)
     exact ⟨rfl,PartsPut.no hno.out (PP.new HA.out HB.out 0 0).below⟩
    ·have hz2:(!(p==0&&q==0))=true:=by
      rw [Bool.not_eq_true',Bool.and_eq_false_iff,beq_eq_false_iff_ne,beq_eq_false_iff_ne];omega
     have HZ0:=hid hz0
     have HBP:=hid hbp
     have PN:=hid (PP.new HA.out HB.out p q)
     generalize hgx:386+24*k=x at*
     have HKx:=hid hgx
     have px0:=pair_at0 wr.heap.size x
     have px1:=pair_at1 wr.heap.size x
     have HN1:=hid (fun (W:World) (ys:List Int) (hl:ys.length=512) (hW:PP w W gb wr.heap.size ys p q)=>show Calls Tryz.prog 108 #[.agg #[.int .i64 x, .int .i64 12, .bool true, .int .i64 0, .int .i64 4611686018427387904, .pointer (some ⟨wr.heap.size,0,none⟩)], .slice (some ⟨gb,0,none⟩) 512 512] W (NumPut ys x 12 true 0 M.most p gb W) from
      number_print x 12 true 0 M.most wr.heap.size 0 gb ys p W (by omega) (by decide) HBP.out.1 hl hW.arr hW.cell0)
     have HN2:=hid (fun (W:World) (ys:List Int) (hl:ys.length=512) (hW:PP w W gb wr.heap.size ys p q)=>show Calls Tryz.prog 108 #[.agg #[.int .i64 ((x:Int)+12), .int .i64 12, .bool true, .int .i64 0, .int .i64 4611686018427387904, .pointer (some ⟨wr.heap.size,1,none⟩)], .slice (some ⟨gb,0,none⟩) 512 512] W (NumPut ys (x+12) 12 true 0 M.most q gb W) from
      number_print (x+12) 12 true 0 M.most wr.heap.size 1 gb ys q W (by omega) (by decide) HBP.out.2 hl hW.arr hW.cell1)
     by_cases hp0:p=0
     case' pos=>
      have t0:(p==0)=true:=by simpa using hp0
      have t1:(q==0)=false:=by simpa [hp0] using hz2
     case' neg=>have t0:(p==0)=false:=by simpa using hp0
     all_goals
      clear hz0 hz2 hbp hgx HA HB hp0
      go_wp2_with (go_at_call 102;(with_reducible refine (demand_yes _ _).mono ?_);rintro e w9 ⟨rfl,rfl⟩)
      (with_reducible refine (pair_any wr.heap.size x (by omega) (by omega) _).mono ?_)
      rintro e w2 ⟨rfl,b2⟩
      have S2:=hid (PN.out.later b2)
      clear b2 PN
      go_wp2_with fail
      refine wp_loop_rounds 3 ?_
      rw [rounds_succ]
      go_wp2_with fail
      (with_reducible refine (HN1.out _ zk HZ.out (S2.out.more _)).mono ?_)
      rintro e w3 h3
      unfold NumPut at h3
      rw [if_pos rfl] at h3
      cases hk1:M.putOk p 12 0 M.most with
      |false=>
       have hno:=hid (HX.out.trans (hpt.out.trans (M.pputs_bad1 HZ0.out hk1)))
       rw [hk1,if_neg (by decide)] at h3
       obtain ⟨rfl,b3⟩:=h3
       exact ⟨rfl,PartsPut.no hno.out ((S2.out.more _).later b3).below⟩
      |true=>
       rw [hk1,if_pos rfl] at h3
       obtain ⟨rfl,w4,b4,rfl⟩:=h3
       have hl4:=hid (show (splice zk x (M.putR p 12)).length=512 by rw [length_splice _ _ _ (by rw [show (M.putR p 12).length=12 from putR_len (m:=12) (M.putOk_fits hk1),HZ.out];omega),HZ.out])
       have S4:=hid (((S2.out.more _).later b4).laid (splice zk x (M.putR p 12)))
       clear b4 S2
       generalize laid w4 gb _=w5 at*
       go_wp2_with fail
       rw [rounds_succ]
       go_wp2_with fail
       (with_reducible refine (HN2.out _ _ hl4.out (S4.out.more _)).mono ?_)
       rintro e w6 h6
       unfold NumPut at h6
       rw [if_pos rfl] at h6
       cases hk2:M.putOk q 12 0 M.most with
       |false=>
        have hno:=hid (HX.out.trans (hpt.out.trans (M.pputs_bad2 HZ0.out hk1 hk2)))
        rw [hk2,if_neg (by decide)] at h6
        obtain ⟨rfl,b6⟩:=h6
        exact ⟨rfl,PartsPut.no hno.out ((S4.out.more _).later b6).below⟩
       |true=>
        rw [hk2,if_pos rfl] at h6
        obtain ⟨rfl,w7,b7,rfl⟩:=h6
        have hl7:=hid (show (splice (splice zk x (M.putR p 12)) (x+12) (M.putR q 12)).length=512 by rw [length_splice _ _ _ (by rw [show (M.putR q 12).length=12 from putR_len (m:=12) (M.putOk_fits hk2),hl4.out];omega),hl4.out])
        have S7:=hid (((S4.out.more _).later b7).laid (splice (splice zk x (M.putR p 12)) (x+12) (M.putR q 12)))
        have HY:=hid (hpt.out.trans (M.pputs_next HZ0.out hk1 hk2))
        rw [HKx.out] at HY
        clear b7 S4 HN1 HN2 hpt
        generalize laid w7 gb _=w8 at*
        go_wp2_with fail
        rw [rounds_succ]
        go_wp2_with fail
        go_round
        case rel=>exact ⟨k+1,_,by go_num,by omega,hl7,HY,hid S7.out.arr,hid S7.out.below⟩
        case measure=>simp [RowKit.intOf];omega
   ·obtain rfl:k=l.length:=by omega
    have hE:=hid (HX.out.trans (hpt.out.trans (by rw [List.drop_length,M.pputs])))
    clear hpt hkl
    go_wp2
    go_end0
    all_goals exact PartsPut.yes hE.out HA.out HZ.out HB.out
end Go.Proofs.YtgbgngdakkiclaaGreatDoor.Hd

/-! KhHdPrintS -/
namespace Go.Proofs.YtgbgngdakkiclaaGreatDoor.Hd
open Go.RowKit Go.Lib
structure RF (w0 W:World) (h:M.Hdr) (pv:Value) (zs:List Int):Prop where
 q:QF w0 W h pv (.slice (some ⟨w0.heap.size+3,0,none⟩) 512 512)
 arr:Arr W (w0.heap.size+3) 5 zs
 len:zs.length=512
 bd: ∀ z∈zs,0≤z∧z≤255
theorem RF.later {w0 W W':World} {h:M.Hdr} {pv:Value} {zs:List Int} (r:RF w0 W h pv zs) (hb:Below W.heap.size W W'):RF w0 W' h pv zs:=⟨r.q.later hb,r.arr.below hb r.arr.lt,r.len,r.bd⟩
theorem RF.more {w0 W:World} {h:M.Hdr} {pv:Value} {zs:List Int} (r:RF w0 W h pv zs) (o:Obj):RF w0 (W.alloc o) h pv zs:=r.later ((Below.refl _ _).alloc (Nat.le_refl _) _)
theorem RF.laid {w0 W:World} {h:M.Hdr} {pv:Value} {zs:List Int} (r:RF w0 W h pv zs) {ys:List Int} (hl:ys.length=512) (hbd: ∀ z∈ys,0≤z∧z≤255):RF w0 (laid W (w0.heap.size+3) ys) h pv ys:=
 ⟨r.q.keep (below_setRow (Below.refl _ _) (Nat.le_refl _) _),r.arr.laid ys,hl,hbd⟩
theorem RF.cb {w0 W:World} {h:M.Hdr} {pv:Value} {zs:List Int} (r:RF w0 W h pv zs):W.cell? ⟨w0.heap.size+1,0,none⟩=some (.slice (some ⟨w0.heap.size+3,0,none⟩) 512 512):=by rw [cell_of_row _ _ 0 _ _ _ r.q.bytes];rfl
theorem RF.drew {w0 W:World} {h:M.Hdr} {pv:Value} {zs:List Int} (r:RF w0 W h pv zs):RF w0 W.drew h pv zs:=⟨⟨r.q.box,r.q.bytes,r.q.err,below_drew' r.q.below⟩,r.arr,r.len,r.bd⟩
theorem QF.start (w:World) (h:M.Hdr) (pv:Value):QF w (((w.alloc (.cells (hcells h pv) 39)).alloc (.cells #[.slice none 0 0] 22)).alloc (.cells #[.int .u16 0] 27)) h pv (.slice none 0 0):=by
 have h1:=heap_alloc_new (w.alloc (.cells (hcells h pv) 39)) (.cells #[.slice none 0 0] 22)
 have h2:=heap_alloc_new ((w.alloc (.cells (hcells h pv) 39)).alloc (.cells #[.slice none 0 0] 22)) (.cells #[.int .u16 0] 27)
 rw [World.size_alloc] at h1
 rw [World.size_alloc,World.size_alloc] at h2
 refine ⟨((HB.new w h pv).alloc _).alloc _, ?_,h2,(((Below.refl _ w).alloc (Nat.le_refl _) _).alloc (by simp) _).alloc (by simp;omega) _⟩
 rw [Below.heap_alloc _ _ _ (by simp)]
 exact h1
theorem splice_bd {zs ys:List Int} {a:Nat} (h: ∀ z∈zs,0≤z∧z≤255) (hy: ∀ z∈ys,0≤z∧z≤255): ∀ z∈splice zs a ys,0≤z∧z≤255:=by
 intro z hz
 unfold splice at hz
 rcases List.mem_append.1 hz with h1|h1
 ·exact h z (List.mem_of_mem_take h1)
 ·rcases List.mem_append.1 h1 with h2|h2
  ·exact hy z h2
  ·exact h z (List.mem_of_mem_drop h2)
theorem listOf_bd {g:Nat→Int} {N:Nat} (hg: ∀ j,0≤g j∧g j≤255): ∀ z∈M.listOf g N,0≤z∧z≤255:=by
 intro z hz
 unfold M.listOf at hz
 obtain ⟨j,_,rfl⟩:=List.mem_map.1 hz
 exact hg j
theorem putR_bd (x m:Int): ∀ z∈M.putR x m,0≤z∧z≤255:=by
 unfold M.putR M.binR
 split
 ·exact listOf_bd (M.octG_bd _ _)
 ·split
  ·exact listOf_bd (M.binG_bd _ _)
  ·intro z hz;cases hz
theorem magic_bd (k:Nat): ∀ z∈M.magic k,0≤z∧z≤255:=by
 match k with
 |0=>decide
 |1=>decide
 |k+2=>show ∀ z∈ [117,115,116,97,114,32,32,0],(0:Int)≤z∧z≤255;decide
theorem set_bd {zs:List Int} {i:Nat} {x:Int} (h: ∀ z∈zs,0≤z∧z≤255) (hx:0≤x∧x≤255): ∀ z∈zs.set i x,0≤z∧z≤255:=by
 intro z hz
 rcases List.mem_or_eq_of_mem_set hz with h1|h1
 ·exact h z h1
 ·rw [h1];exact hx
theorem pputs_bd: ∀ (l:List (Int × Int)) (zs:List Int) (i:Nat) (ys:List Int),(∀ z∈zs,0≤z∧z≤255)→M.pputs zs i l=some ys→ ∀ z∈ys,0≤z∧z≤255
 | [],zs,i,ys,h,e=>by
   rw [M.pputs] at e
   injection e with e
   subst e;exact h
 |p::l,zs,i,ys,h,e=>by
  rw [M.pputs] at e
  split at e
  ·cases e
  ·split at e
   ·split at e
    ·exact pputs_bd l _ _ ys (splice_bd (splice_bd h (putR_bd _ _)) (putR_bd _ _)) e
    ·cases e
   ·cases e
theorem putP_bd {l:List (Int × Int)} {zs ys:List Int} (h: ∀ z∈zs,0≤z∧z≤255) (e:M.putP zs l=some ys): ∀ z∈ys,0≤z∧z≤255:=by
 unfold M.putP at e
 split at e
 ·exact pputs_bd l zs 0 ys h e
 ·cases e
theorem splice_len {zs ys:List Int} {a n:Nat} (h:zs.length=512) (hy:ys.length=n) (ha:a+n≤512):(splice zs a ys).length=512:=by
 rw [length_splice _ _ _ (by omega),h]
theorem RF.text {w0 W w':World} {h:M.Hdr} {pv:Value} {zs:List Int} {a m:Nat} {s:ByteArray} {e:Ending} (r:RF w0 W h pv zs) (ham:a+m≤512) (t:TxtPut zs a m s (w0.heap.size+3) W e w'):
  (M.putT zs a m s=none→e= .panicked (boom 33)∧QF w0 w' h pv (.slice (some ⟨w0.heap.size+3,0,none⟩) 512 512))∧(∀ ys,M.putT zs a m s=some ys→e= .returned (.tuple #[])∧RF w0 w' h pv ys):=by
 unfold TxtPut at t
 unfold M.putT
 cases hp:S.M.put s.data.toList (m:Int) with
 |none=>
  rw [hp] at t
  exact ⟨fun _=>⟨t.1,r.q.later t.2⟩,(fun ys h=>by cases h)⟩
 |some l=>
  rw [hp] at t
  refine ⟨(fun h=>by cases h),fun ys hy=> ?_⟩
  injection hy with hy
  subst hy
  obtain ⟨rfl,w1,b1,rfl⟩:=t
  exact ⟨rfl,(r.later b1).laid (splice_len r.len (by rw [S.ints_length];exact put_len hp) ham) (splice_bd r.bd (S.ints_bd l))⟩
theorem RF.num {w0 W w':World} {h:M.Hdr} {pv:Value} {zs:List Int} {a m:Nat} {there:Bool} {lo up x:Int} {e:Ending} (r:RF w0 W h pv zs) (ham:a+m≤512) (t:NumPut zs a m there lo up x (w0.heap.size+3) W e w'):
  (M.putN zs a m there lo up x=none→e= .panicked (boom 32)∧QF w0 w' h pv (.slice (some ⟨w0.heap.size+3,0,none⟩) 512 512))∧(∀ ys,M.putN zs a m there lo up x=some ys→e= .returned (.tuple #[])∧RF w0 w' h pv ys):=by
 unfold NumPut at t
 unfold M.putN
 cases there with
 |true=>
  rw [if_pos rfl] at t⊢
  cases ho:M.putOk x m lo up with
  |true=>
   rw [ho,if_pos rfl] at t
   rw [if_pos rfl]
   refine ⟨(fun h=>by cases h),fun ys hy=> ?_⟩
   injection hy with hy
   subst hy
   obtain ⟨rfl,w1,b1,rfl⟩:=t
   exact ⟨rfl,(r.later b1).laid (splice_len r.len (putR_len (M.putOk_fits ho)) ham) (splice_bd r.bd (putR_bd x m))⟩
  |false=>
   rw [ho,if_neg (by decide)] at t
   rw [if_neg (by decide)]
   exact ⟨fun _=>⟨t.1,r.q.later t.2⟩,(fun ys h=>by cases h)⟩
 |false=>
  rw [if_neg (by decide)] at t⊢
  by_cases h0:x=0
  ·rw [if_pos h0] at t⊢
   refine ⟨(fun h=>by cases h),fun ys hy=> ?_⟩
   injection hy with hy
   subst hy
   exact ⟨t.1,r.later t.2⟩
  ·rw [if_neg h0] at t⊢
   exact ⟨fun _=>⟨t.1,r.q.later t.2⟩,(fun ys h=>by cases h)⟩
theorem RF.start (w:World) (h:M.Hdr) (pv:Value) (x:Int) (hx:0≤x∧x≤255):RF w ((((w.alloc (.cells (hcells h pv) 39)).alloc (.cells #[.slice (some ⟨w.heap.size+1+1+1,0,none⟩) 512 512] 22)).alloc (.cells #[.int .u16 0] 27)).alloc (.cells ((bcells (nils 512)).set 156 (.int .u8 x)).toArray 5)) h pv ((nils 512).set 156 x):=by
 have h1:=heap_alloc_new (w.alloc (.cells (hcells h pv) 39)) (.cells #[.slice (some ⟨w.heap.size+1+1+1,0,none⟩) 512 512] 22)
 have h2:=heap_alloc_new ((w.alloc (.cells (hcells h pv) 39)).alloc (.cells #[.slice (some ⟨w.heap.size+1+1+1,0,none⟩) 512 512] 22)) (.cells #[.int .u16 0] 27)
 have h3:=heap_alloc_new (((w.alloc (.cells (hcells h pv) 39)).alloc (.cells #[.slice (some ⟨w.heap.size+1+1+1,0,none⟩) 512 512] 22)).alloc (.cells #[.int .u16 0] 27)) (.cells ((bcells (nils 512)).set 156 (.int .u8 x)).toArray 5)
 rw [World.size_alloc] at h1
 rw [World.size_alloc,World.size_alloc] at h2
 rw [World.size_alloc,World.size_alloc,World.size_alloc] at h3
 refine ⟨⟨(((HB.new w h pv).alloc _).alloc _).alloc _, ?_, ?_,((((Below.refl _ w).alloc (Nat.le_refl _) _).alloc (by simp) _).alloc (by simp;omega) _).alloc (by simp;omega) _⟩, ?_,by rw [List.length_set,nils_len],set_bd (nils_bd 512) hx⟩
 ·rw [Below.heap_alloc _ _ _ (by simp),Below.heap_alloc _ _ _ (by simp)]
  exact h1
 ·rw [Below.heap_alloc _ _ _ (by simp)]
  exact h2
 ·unfold Arr
  rw [←bcells_set]
  exact h3
namespace M
def bareAt (h:Hdr):Nat→Bool
 |2=>(h.way !=0)||blank h.user
 |3=>(h.way !=0)||blank h.group
 |4=>(h.way==1)||blank h.pre
 |_=>true
theorem bare_all {h:Hdr} (hj: ∀ j,j<5→bareAt h j=true):bare h=true:=by
 have h2:=hj 2 (by decide)
 have h3:=hj 3 (by decide)
 have h4:=hj 4 (by decide)
 unfold bare
 change ((h.way !=0)||blank h.user)=true at h2
 change ((h.way !=0)||blank h.group)=true at h3
 change ((h.way==1)||blank h.pre)=true at h4
 rw [h2,h3,h4]
 rfl
theorem bare_not {h:Hdr} {j:Nat} (hj:bareAt h j=false):bare h=false:=by
 unfold bare
 match j with
 |0=>cases hj
 |1=>cases hj
 |2=>
  change ((h.way !=0)||blank h.user)=false at hj
  rw [hj];rfl
 |3=>
  change ((h.way !=0)||blank h.group)=false at hj
  rw [hj];simp
 |4=>
  change ((h.way==1)||blank h.pre)=false at hj
  rw [hj];simp
 |j+5=>cases hj
theorem bare_more {h:Hdr} {k:Nat} (hj: ∀ j,j<k→bareAt h j=true) (hk:bareAt h k=true): ∀ j,j<k+1→bareAt h j=true:=by
 intro j h1
 rcases Nat.lt_or_ge j k with h2|h2
 ·exact hj j h2
 ·have:j=k:=by omega
  subst this;exact hk
theorem known_bd {k:Int} (h:known k=true):0≤k∧k≤255:=by
 unfold known at h
 simp at h
 omega
end M
def BareAt (w0:World) (h:M.Hdr) (pv:Value) (zs:List Int) (i:Value) (wr:World):Prop:=
 ∃ k:Nat,i= .int .i64 k∧k≤5∧Hid (∀ j,j<k→M.bareAt h j=true)∧Hid (RF w0 wr h pv zs)
end Go.Proofs.YtgbgngdakkiclaaGreatDoor.Hd

/-! KhHdBack -/
namespace Go.Proofs.YtgbgngdakkiclaaGreatDoor.Hd
namespace M
theorem sub_ext {xs ys:List Int} {b n:Nat} (h: ∀ j,j<n→xs[b+j]?=ys[b+j]?):sub xs b n=sub ys b n:=by
 unfold sub
 apply List.ext_getElem?
 intro j
 rw [List.getElem?_take,List.getElem?_take]
 split
 ·rw [List.getElem?_drop,List.getElem?_drop]
  exact h j (by assumption)
 ·rfl
theorem splice_get {zs f:List Int} {a i:Nat} (h:a+f.length≤zs.length) (hd:i<a∨a+f.length≤i):(splice zs a f)[i]?=zs[i]?:=by
 unfold splice
 have hl:(zs.take a).length=a:=by rw [List.length_take];omega
 rcases hd with hd|hd
 ·rw [List.getElem?_append_left (by omega),List.getElem?_take,if_pos hd]
 ·rw [List.getElem?_append_right (by omega),List.getElem?_append_right (by omega),List.getElem?_drop,hl]
  congr 1
  omega
theorem sub_off {zs f:List Int} {a m b n:Nat} (hm:f.length=m) (h:a+m≤zs.length) (hd:b+n≤a∨a+m≤b):sub (splice zs a f) b n=sub zs b n:=by
 subst hm
 exact sub_ext fun j hj=>splice_get h (by omega)
theorem sub_nils (b n N:Nat) (h:b+n≤N):sub (nils N) b n=nils n:=by
 unfold sub nils
 rw [List.drop_replicate,List.take_replicate,Nat.min_eq_left (by omega)]
theorem magic_len' (k:Nat):(magic k).length=8:=by
 match k with
 |0=>rfl
 |1=>rfl
 |k+2=>rfl
theorem putT_some {zs z:List Int} {a m:Nat} {s:ByteArray} (h:putT zs a m s=some z): ∃ l,S.M.put s.data.toList (m:Int)=some l∧z=splice zs a (S.ints l)∧(S.ints l).length=m:=by
 unfold putT at h
 obtain ⟨l,hl,rfl⟩:=Option.map_eq_some_iff.1 h
 exact ⟨l,hl,rfl,by rw [S.ints_length];exact put_len hl⟩
theorem bnd_ok {o:Option (List Int)} {e:Int} {f:List Int→Int × List Int} {r:List Int} (he:e≠0) (h:bnd o e f=(0,r)): ∃ z,o=some z∧f z=(0,r):=by
 cases o with
 |none=>injection h with h;exact absurd h he
 |some z=>exact ⟨z,rfl,h⟩
theorem chk_ok {b:Bool} {e:Int} {s:Int × List Int} {r:List Int} (he:e≠0) (h:chk b e s=(0,r)):b=true∧s=(0,r):=by
 cases b with
 |false=>injection h with h;exact absurd h he
 |true=>exact ⟨rfl,h⟩
structure Steps (h:Hdr) (zs:List Int) where
 z1:List Int
 z2:List Int
 z3:List Int
 z4:List Int
 z5:List Int
 y1:List Int
 y2:List Int
 y3:List Int
 y4:List Int
 y5:List Int
 y6:List Int
 y7:List Int
 y8:List Int
 x:List Int
 kd:known h.kind=true∧may h.kind h.way=true
 t0:putT ((nils 512).set 156 h.kind) 0 100 h.name=some z1
 t1:putT z1 157 100 h.link=some z2
 t2:putT z2 265 32 h.user=some z3
 t3:putT z3 297 32 h.group=some z4
 t4:putT z4 345 155 h.pre=some z5
 isbare:bare h=true
 isway:isWay h.way=true
 n0:putN (splice z5 257 (magic h.way.toNat)) 100 8 true 0 most h.mode=some y1
 n1:putN y1 108 8 true 0 most h.uid=some y2
 n2:putN y2 116 8 true 0 most h.gid=some y3
 n3:putN y3 124 12 true 0 maxSize h.size=some y4
 n4:putN y4 136 12 true (-most) most h.mtime=some y5
 n5:putN y5 329 8 (h.way !=0) 0 most h.major=some y6
 n6:putN y6 337 8 (h.way !=0) 0 most h.minor=some y7
 n7:putN y7 483 12 (h.kind==83&&h.way==2) 0 maxSize h.real=some y8
 isflat:flat h=true
 pp:putP y8 h.parts=some x
 out:zs=sld (if h.more=true then x.set 482 1 else x)
theorem steps {h:Hdr} {zs:List Int} (hp:hprint h=(0,zs)):Nonempty (Steps h zs):=by
 unfold hprint at hp
 obtain ⟨k1,hp⟩:=chk_ok (by decide) hp
 obtain ⟨z1,t0,hp⟩:=bnd_ok (by decide) hp
 obtain ⟨z2,t1,hp⟩:=bnd_ok (by decide) hp
 obtain ⟨z3,t2,hp⟩:=bnd_ok (by decide) hp
 obtain ⟨z4,t3,hp⟩:=bnd_ok (by decide) hp
 obtain ⟨z5,t4,hp⟩:=bnd_ok (by decide) hp
 obtain ⟨k2,hp⟩:=chk_ok (by decide) hp
 obtain ⟨k3,hp⟩:=chk_ok (by decide) hp
 obtain ⟨y1,n0,hp⟩:=bnd_ok (by decide) hp
 obtain ⟨y2,n1,hp⟩:=bnd_ok (by decide) hp
 obtain ⟨y3,n2,hp⟩:=bnd_ok (by decide) hp
 obtain ⟨y4,n3,hp⟩:=bnd_ok (by decide) hp
 obtain ⟨y5,n4,hp⟩:=bnd_ok (by decide) hp
 obtain ⟨y6,n5,hp⟩:=bnd_ok (by decide) hp
 obtain ⟨y7,n6,hp⟩:=bnd_ok (by decide) hp
 obtain ⟨y8,n7,hp⟩:=bnd_ok (by decide) hp
 obtain ⟨k4,hp⟩:=chk_ok (by decide) hp
 obtain ⟨x,pp,hp⟩:=bnd_ok (by decide) hp
 injection hp with _ hp
 rw [Bool.and_eq_true] at k1
 exact ⟨⟨z1,z2,z3,z4,z5,y1,y2,y3,y4,y5,y6,y7,y8,x,k1,t0,t1,t2,t3,t4,k2,k3,n0,n1,n2,n3,n4,n5,n6,n7,k4,pp,hp.symm⟩⟩
section
variable {h:Hdr} {zs:List Int}
theorem Steps.few (s:Steps h zs):h.parts.length≤4∧pputs s.y8 0 h.parts=some s.x:=by
 have hp:=s.pp
 unfold putP at hp
 split at hp
 ·exact ⟨by assumption,hp⟩
 ·cases hp
theorem Steps.lout (s:Steps h zs):zs.length=512:=by rw [s.out];exact sld_len _
end
end M
end Go.Proofs.YtgbgngdakkiclaaGreatDoor.Hd

/-! KhHdBackM -/
namespace Go.Proofs.YtgbgngdakkiclaaGreatDoor.Hd
namespace M
theorem putT_bd {zs z:List Int} {a m:Nat} {s:ByteArray} (h:putT zs a m s=some z) (hb: ∀ v∈zs,0≤v∧v≤255): ∀ v∈z,0≤v∧v≤255:=by
 obtain ⟨l,_,rfl,_⟩:=putT_some h
 exact splice_bd hb (S.ints_bd l)
theorem putN_bd {zs z:List Int} {a m:Nat} {there:Bool} {lo up x:Int} (h:putN zs a m there lo up x=some z) (hb: ∀ v∈zs,0≤v∧v≤255): ∀ v∈z,0≤v∧v≤255:=by
 unfold putN at h
 split at h
 ·split at h
  ·injection h with h;rw [←h];exact splice_bd hb (putR_bd _ _)
  ·cases h
 ·split at h
  ·injection h with h;rw [←h];exact hb
  ·cases h
section
variable {h:Hdr} {zs:List Int}
theorem Steps.sparse (s:Steps h zs):(h.kind=83∧h.way=2)∨(h.kind≠83∧h.parts= []∧h.more=false):=by
 have hm:=s.kd.2
 have hf:=s.isflat
 by_cases hk:h.kind=83
 ·left
  unfold may at hm
  rw [hk] at hm
  exact ⟨hk,by simpa using hm⟩
 ·right
  unfold flat at hf
  rw [show (h.kind==83)=false by simpa using hk,Bool.false_or,Bool.and_eq_true,decide_eq_true_eq] at hf
  exact ⟨hk,List.eq_nil_of_length_eq_zero hf.1,by simpa using hf.2⟩
theorem Steps.bd (s:Steps h zs): ∀ v∈zs,0≤v∧v≤255:=by
 have b0: ∀ v∈(nils 512).set 156 h.kind,0≤v∧v≤255:=set_bd (nils_bd 512) (known_bd s.kd.1)
 have b5:=putT_bd s.t4 (putT_bd s.t3 (putT_bd s.t2 (putT_bd s.t1 (putT_bd s.t0 b0))))
 have c0: ∀ v∈splice s.z5 257 (magic h.way.toNat),0≤v∧v≤255:=splice_bd b5 (magic_bd _)
 have c8:=putN_bd s.n7 (putN_bd s.n6 (putN_bd s.n5 (putN_bd s.n4 (putN_bd s.n3 (putN_bd s.n2 (putN_bd s.n1 (putN_bd s.n0 c0)))))))
 have cx:=putP_bd c8 s.pp
 intro v hv
 rw [s.out] at hv
 refine sld_bd ?_ v hv
 split
 ·exact set_bd cx (by decide)
 ·exact cx
end
end M
end Go.Proofs.YtgbgngdakkiclaaGreatDoor.Hd

/-! KhHdErr -/
namespace Go.Proofs.YtgbgngdakkiclaaGreatDoor.Hd
open Go.RowKit Go.Lib
namespace M
def tOk (m:Nat) (s:ByteArray):Bool:=(S.M.put s.data.toList m).isSome
def nOk (m:Nat) (there:Bool) (lo up x:Int):Bool:=if there=true then putOk x m lo up else decide (x=0)
def pOk:List (Int × Int)→Bool
 | []=>true
 |p::l=> !(p.1==0&&p.2==0)&&(putOk p.1 12 0 most&&(putOk p.2 12 0 most&&pOk l))
def st (b:Bool) (e r:Int):Int:=if b=true then r else e
theorem putT_isSome (zs:List Int) (a m:Nat) (s:ByteArray):(putT zs a m s).isSome=tOk m s:=by
 unfold putT tOk
 cases S.M.put s.data.toList m<;>rfl
theorem putN_isSome (zs:List Int) (a m:Nat) (there:Bool) (lo up x:Int):(putN zs a m there lo up x).isSome=nOk m there lo up x:=by
 unfold putN nOk
 cases there
 ·by_cases hx:x=0<;>simp [hx]
 ·cases putOk x m lo up<;>rfl
theorem pputs_isSome: ∀ (l:List (Int × Int)) (zs:List Int) (i:Nat),(pputs zs i l).isSome=pOk l
 | [],_,_=>rfl
 |p::l,zs,i=>by
  by_cases h:p.1=0∧p.2=0
  ·simp [pputs_zero h,pOk,h.1,h.2]
  ·have e:(p.1==0&&p.2==0)=false:=by simpa using h
   cases h1:putOk p.1 12 0 most with
   |false=>rw [pputs_bad1 h h1];simp [pOk,e,h1]
   |true=>
    cases h2:putOk p.2 12 0 most with
    |false=>rw [pputs_bad2 h h1 h2];simp [pOk,e,h1,h2]
    |true=>rw [pputs_next h h1 h2,pputs_isSome l];simp [pOk,e,h1,h2]
theorem putP_isSome (zs:List Int) (l:List (Int × Int)):(putP zs l).isSome=(decide (l.length≤4)&&pOk l):=by
 unfold putP
 by_cases h:l.length≤4
 ·rw [if_pos h,pputs_isSome];simp [h]
 ·rw [if_neg h];simp [h]
theorem bnd_err {o:Option (List Int)} {b:Bool} {e r:Int} {f:List Int→Int × List Int} (ho:o.isSome=b) (h: ∀ z,(f z).1=r):(bnd o e f).1=st b e r:=by
 subst ho
 cases o with
 |none=>rfl
 |some z=>exact h z
theorem chk_err {b:Bool} {e r:Int} {q:Int × List Int} (h:q.1=r):(chk b e q).1=st b e r:=by
 cases b
 ·rfl
 ·exact h
def herr (h:Hdr):Int:=
 st (known h.kind&&may h.kind h.way) 31<|st (tOk 100 h.name) 33<|st (tOk 100 h.link) 33<|st (tOk 32 h.user) 33<|st (tOk 32 h.group) 33<|st (tOk 155 h.pre) 33<|
 st (bare h) 32<|st (isWay h.way) 32<|st (nOk 8 true 0 most h.mode) 32<|st (nOk 8 true 0 most h.uid) 32<|st (nOk 8 true 0 most h.gid) 32<|st (nOk 12 true 0 maxSize h.size) 32<|
 st (nOk 12 true (-most) most h.mtime) 32<|st (nOk 8 (h.way !=0) 0 most h.major) 32<|st (nOk 8 (h.way !=0) 0 most h.minor) 32<|st (nOk 12 (h.kind==83&&h.way==2) 0 maxSize h.real) 32<|
 st (flat h) 32<|st (decide (h.parts.length≤4)&&pOk h.parts) 32 0
theorem hprint_err (h:Hdr):(hprint h).1=herr h:=
 chk_err<|bnd_err (putT_isSome _ _ _ _) fun _=>bnd_err (putT_isSome _ _ _ _) fun _=>bnd_err (putT_isSome _ _ _ _) fun _=>bnd_err (putT_isSome _ _ _ _) fun _=>bnd_err (putT_isSome _ _ _ _) fun _=>
 chk_err<|chk_err<|bnd_err (putN_isSome _ _ _ _ _ _ _) fun _=>bnd_err (putN_isSome _ _ _ _ _ _ _) fun _=>bnd_err (putN_isSome _ _ _ _ _ _ _) fun _=>bnd_err (putN_isSome _ _ _ _ _ _ _) fun _=>
 bnd_err (putN_isSome _ _ _ _ _ _ _) fun _=>bnd_err (putN_isSome _ _ _ _ _ _ _) fun _=>bnd_err (putN_isSome _ _ _ _ _ _ _) fun _=>bnd_err (putN_isSome _ _ _ _ _ _ _) fun _=>
 chk_err<|bnd_err (putP_isSome _ _) fun _=>rfl
theorem st_ne {b:Bool} {e r:Int} (he:e≠0) (h:st b e r=0):b=true∧r=0:=by
 cases b
 ·exact absurd h he
 ·exact ⟨rfl,h⟩
end M
end Go.Proofs.YtgbgngdakkiclaaGreatDoor.Hd

/-! KhHdDocM -/
namespace Go.Proofs.YtgbgngdakkiclaaGreatDoor.Hd
open Go.RowKit Go.Lib
namespace M
def lays (z:List Int) (l:List (Nat × List Int)):List Int:=l.foldl (fun z p=>splice z p.1 p.2) z
theorem lays_cons (z:List Int) (p:Nat × List Int) (l:List (Nat × List Int)):lays z (p::l)=lays (splice z p.1 p.2) l:=rfl
theorem lays_app (z:List Int) (a b:List (Nat × List Int)):lays z (a++b)=lays (lays z a) b:=by unfold lays;rw [List.foldl_append]
def Fit (p:Nat × List Int):Prop:=p.1+p.2.length≤512
def Off (p q:Nat × List Int):Prop:=p.1+p.2.length≤q.1∨q.1+q.2.length≤p.1
theorem splice_in {zs f:List Int} {a i:Nat} (h:a+f.length≤zs.length) (h1:a≤i) (h2:i<a+f.length):(splice zs a f)[i]?=f[i - a]?:=by
 unfold splice
 have hl:(zs.take a).length=a:=by rw [List.length_take];omega
 rw [List.getElem?_append_right (by omega),hl,List.getElem?_append_left (by omega)]
theorem splice_swap {z f g:List Int} {a b:Nat} (hz:z.length=512) (ha:a+f.length≤512) (hb:b+g.length≤512) (hd:a+f.length≤b∨b+g.length≤a):splice (splice z a f) b g=splice (splice z b g) a f:=by
 have l1:(splice z a f).length=512:=by rw [length_splice _ _ _ (by omega),hz]
 have l2:(splice z b g).length=512:=by rw [length_splice _ _ _ (by omega),hz]
 apply List.ext_getElem?
 intro i
 by_cases h1:a≤i∧i<a+f.length
 ·rw [splice_get (by omega) (by omega),splice_in (by omega) h1.1 h1.2,splice_in (by omega) h1.1 h1.2]
 ·by_cases h2:b≤i∧i<b+g.length
  ·rw [splice_in (by omega) h2.1 h2.2,splice_get (by omega) (by omega),splice_in (by omega) h2.1 h2.2]
  ·rw [splice_get (by omega) (by omega),splice_get (by omega) (by omega),splice_get (by omega) (by omega),splice_get (by omega) (by omega)]
theorem splice_self {z f:List Int} {a:Nat} (h:a+f.length≤z.length) (e:sub z a f.length=f):splice z a f=z:=by
 apply List.ext_getElem?
 intro i
 by_cases h1:a≤i∧i<a+f.length
 ·rw [splice_in h h1.1 h1.2]
  have:=congrArg (fun l=>l[i - a]?) e
  unfold sub at this
  rw [List.getElem?_take,if_pos (by omega),List.getElem?_drop,Nat.add_sub_cancel' h1.1] at this
  exact this.symm
 ·exact splice_get h (by omega)
theorem set_splice {z:List Int} {i:Nat} (x:Int) (h:i<z.length):z.set i x=splice z i [x]:=by
 rw [List.set_eq_take_append_cons_drop,if_pos h]
 rfl
theorem lays_len: ∀ (l:List (Nat × List Int)) (z:List Int),z.length=512→(∀ q∈l,Fit q)→(lays z l).length=512
 | [],_,hz,_=>hz
 |p::l,z,hz,hf=>by
  rw [lays_cons]
  have h0:=hf p (List.mem_cons_self ..)
  unfold Fit at h0
  exact lays_len l _ (by rw [length_splice _ _ _ (by omega),hz]) (fun q hq=>hf q (List.mem_cons_of_mem _ hq))
theorem lays_swap (p:Nat × List Int) (hp:Fit p): ∀ (l:List (Nat × List Int)) (z:List Int),z.length=512→(∀ q∈l,Fit q∧Off p q)→lays (splice z p.1 p.2) l=splice (lays z l) p.1 p.2
 | [],_,_,_=>rfl
 |q::l,z,hz,hf=>by
  have h0:=hf q (List.mem_cons_self ..)
  unfold Fit at h0 hp
  rw [lays_cons,lays_cons,splice_swap hz hp h0.1 h0.2]
  exact lays_swap p hp l _ (by rw [length_splice _ _ _ (by omega),hz]) (fun q hq=>hf q (List.mem_cons_of_mem _ hq))
def tq (h:Hdr):List (ByteArray × Nat × Nat):= [(h.name,0,100),(h.link,157,100),(h.user,265,32),(h.group,297,32),(h.pre,345,155)]
def textL (s:ByteArray) (m:Nat):List UInt8:=s.data.toList++List.replicate (m - s.data.toList.length) 0
def tl' (x:ByteArray × Nat × Nat):Nat × List Int:=(x.2.1,S.ints (textL x.1 x.2.2))
theorem put_eq {s:ByteArray} {m:Nat} {l:List UInt8} (h:S.M.put s.data.toList (m:Int)=some l):l=textL s m:=by
 unfold S.M.put at h
 split at h
 ·injection h with h
  rw [←h]
  unfold textL
  rfl
 ·cases h
theorem tOk_put {s:ByteArray} {m:Nat} (h:tOk m s=true):S.M.put s.data.toList (m:Int)=some (textL s m):=by
 unfold tOk at h
 obtain ⟨l,hl⟩:=Option.isSome_iff_exists.1 h
 rw [hl,put_eq hl]
theorem tOk_len {s:ByteArray} {m:Nat} (h:tOk m s=true):(S.ints (textL s m)).length=m:=by
 rw [S.ints_length]
 exact put_len (tOk_put h)
theorem textL_blank {s:ByteArray} (m:Nat) (hb:blank s=true):S.ints (textL s m)=nils m:=by
 have hs:s=⟨#[]⟩:=toList_inj (by rw [ByteArray.toList_eq ⟨#[]⟩];simpa [blank] using hb)
 subst hs
 unfold textL S.ints nils
 simp
def dt:List Int→List (ByteArray × Nat × Nat)→Option (List Int)
 |z, []=>some z
 |z,x::r=>if tOk x.2.2 x.1=true then dt (if blank x.1=true then z else splice z x.2.1 (S.ints (textL x.1 x.2.2))) r else none
theorem dt_iff: ∀ (l:List (ByteArray × Nat × Nat)) (z y:List Int),z.length=512→l.Pairwise (fun x y=>x.2.1+x.2.2≤y.2.1)→(∀ x∈l,x.2.1+x.2.2≤512∧sub z x.2.1 x.2.2=nils x.2.2)→
  (dt z l=some y↔(∀ x∈l,tOk x.2.2 x.1=true)∧y=lays z (l.map tl'))
 | [],z,y,_,_,_=>⟨fun e=>⟨fun _ h=>(nomatch h),(Option.some.inj e).symm⟩,fun e=>congrArg some e.2.symm⟩
 |x::r,z,y,hz,hp,hn=>by
  rw [List.pairwise_cons] at hp
  show (if tOk x.2.2 x.1=true then dt (if blank x.1=true then z else splice z x.2.1 (S.ints (textL x.1 x.2.2))) r else none)=some y↔_
  cases ht:tOk x.2.2 x.1 with
  |false=>
   rw [if_neg (by decide)]
   refine ⟨fun e=>(nomatch e),fun e=> ?_⟩
   have:=e.1 x (List.mem_cons_self ..)
   rw [ht] at this
   cases this
  |true=>
   rw [if_pos rfl]
   have hl:=tOk_len ht
   have h0:=hn x (List.mem_cons_self ..)
   have e:(if blank x.1=true then z else splice z x.2.1 (S.ints (textL x.1 x.2.2)))=splice z x.2.1 (S.ints (textL x.1 x.2.2)):=by
    split
    ·rename_i hb
     rw [textL_blank _ hb]
     exact (splice_self (by rw [nils_len];omega) (by rw [nils_len];exact h0.2)).symm
    ·rfl
   rw [e,dt_iff r _ y (by rw [length_splice _ _ _ (by omega),hz]) hp.2 (fun q hq=>⟨(hn q (List.mem_cons_of_mem _ hq)).1,by
    rw [sub_off hl (by omega) (.inr (hp.1 q hq))]
    exact (hn q (List.mem_cons_of_mem _ hq)).2⟩)]
   rw [List.map_cons,lays_cons]
   show (_∧y=_)↔(_∧y=_)
   constructor
   ·rintro ⟨h1,h2⟩
    refine ⟨fun q hq=> ?_,h2⟩
    rcases List.mem_cons.1 hq with rfl|hq
    ·exact ht
    ·exact h1 q hq
   ·rintro ⟨h1,h2⟩
    exact ⟨fun q hq=>h1 q (List.mem_cons_of_mem _ hq),h2⟩
def pq:Nat→List (Int × Int)→List (Int × Nat × Nat)
 |_, []=> []
 |i,p::l=>(p.1,386+24*i,12)::(p.2,398+24*i,12)::pq (i+1) l
theorem pq_snoc: ∀ (l:List (Int × Int)) (i:Nat) (p:Int × Int),pq i (l++ [p])=pq i l++ [(p.1,386+24*(i+l.length),12),(p.2,398+24*(i+l.length),12)]
 | [],i,p=>rfl
 |q::l,i,p=>by
  rw [List.cons_append,pq,pq,pq_snoc l (i+1) p,List.length_cons,show i+(l.length+1)=i+1+l.length by omega]
  rfl
theorem pq_at: ∀ (l:List (Int × Int)) (i:Nat) (x:Int × Nat × Nat),x∈pq i l→386+24*i≤x.2.1∧x.2.1+12≤386+24*(i+l.length)∧x.2.2=12∧ ∃ p∈l,x.1=p.1∨x.1=p.2
 | [],_,_,h=>nomatch h
 |p::l,i,x,h=>by
  rw [pq] at h
  rw [List.length_cons]
  rcases List.mem_cons.1 h with rfl|h
  ·exact ⟨Nat.le_refl _,by show 386+24*i+12≤_;omega,rfl,p,List.mem_cons_self .., .inl rfl⟩
  ·rcases List.mem_cons.1 h with rfl|h
   ·exact ⟨by show _≤398+24*i;omega,by show 398+24*i+12≤_;omega,rfl,p,List.mem_cons_self .., .inr rfl⟩
   ·obtain ⟨h1,h2,h3,q,hq,h4⟩:=pq_at l (i+1) x h
    exact ⟨by omega,by omega,h3,q,List.mem_cons_of_mem _ hq,h4⟩
def nq5 (h:Hdr):List (Int × Nat × Nat):= [(h.mode,100,8),(h.uid,108,8),(h.gid,116,8),(h.size,124,12),(h.mtime,136,12)]
def nq7 (h:Hdr):List (Int × Nat × Nat):=nq5 h++(if (decide (0<h.way))=true then [(h.major,329,8),(h.minor,337,8)] else [])
def nqR (h:Hdr) (k:Nat):List (Int × Nat × Nat):=nq7 h++((h.real,483,12)::pq 0 (h.parts.take k))
def nq (h:Hdr):List (Int × Nat × Nat):=if (h.kind==83)=true then nqR h h.parts.length else nq7 h
def dOk (x:Int × Nat × Nat):Bool:=putFits x.1 x.2.2&&(decide (0≤x.1)||x.2.1==136)
def nl (x:Int × Nat × Nat):Nat × List Int:=(x.2.1,putR x.1 x.2.2)
def dn:List Int→List (Int × Nat × Nat)→Option (List Int)
 |z, []=>some z
 |z,x::r=>if dOk x=true then dn (splice z x.2.1 (putR x.1 x.2.2)) r else none
theorem dn_iff: ∀ (l:List (Int × Nat × Nat)) (z y:List Int),dn z l=some y↔(∀ x∈l,dOk x=true)∧y=lays z (l.map nl)
 | [],z,y=>⟨fun e=>⟨fun _ h=>(nomatch h),(Option.some.inj e).symm⟩,fun e=>congrArg some e.2.symm⟩
 |x::r,z,y=>by
  show (if dOk x=true then dn (splice z x.2.1 (putR x.1 x.2.2)) r else none)=some y↔_
  cases ht:dOk x with
  |false=>
   rw [if_neg (by decide)]
   refine ⟨fun e=>(nomatch e),fun e=> ?_⟩
   have:=e.1 x (List.mem_cons_self ..)
   rw [ht] at this
   cases this
  |true=>
   rw [if_pos rfl,dn_iff r _ y,List.map_cons,lays_cons]
   constructor
   ·rintro ⟨h1,h2⟩
    refine ⟨fun q hq=> ?_,h2⟩
    rcases List.mem_cons.1 hq with rfl|hq
    ·exact ht
    ·exact h1 q hq
   ·rintro ⟨h1,h2⟩
    exact ⟨fun q hq=>h1 q (List.mem_cons_of_mem _ hq),h2⟩
def f1 (h:Hdr):Bool:=decide (0≤h.way∧h.way≤2∧h.size≤maxSize∧h.real≤maxSize∧h.parts.length≤4)
def f2 (h:Hdr):Bool:=decide ((h.way=0→blank h.user=true∧blank h.group=true∧h.major=0∧h.minor=0)∧(h.way≠1→blank h.pre=true))
def f3 (l:List (Int × Int)):Bool:=l.all fun p=> !(p.1==0&&p.2==0)
def f4 (h:Hdr):Bool:=decide (h.kind=83∨(h.parts.length=0∧h.more=false∧h.real=0))
def fits (h:Hdr):Bool:=f1 h&&(f2 h&&(f3 h.parts&&f4 h))
def dprint (h:Hdr):Option (List Int):=
 if (known h.kind&&may h.kind h.way)=true then (dt (nils 512) (tq h)).bind fun z=>if fits h=true then (dn z (nq h)).map fun y=>sld (if h.more=true then (splice (y.set 156 h.kind) 257 (magic h.way.toNat)).set 482 1 else splice (y.set 156 h.kind) 257 (magic h.way.toNat)) else none
 else none
theorem fits_bd {x:Int} {m:Nat} (h:putFits x m=true): -most≤x∧x≤most:=by
 unfold putFits at h
 rw [Bool.or_eq_true] at h
 rcases h with h|h
 ·unfold octFits at h
  simp only [Bool.and_eq_true,decide_eq_true_eq] at h
  have h0:=h.1.1.2
  have h1:=h.1.2
  unfold most at*
  omega
 ·unfold binFits at h
  simp only [Bool.and_eq_true,decide_eq_true_eq,beq_iff_eq] at h
  have h1:=h.1.2
  have h2:=h.2
  rw [binN_yes h1] at h2
  unfold binOk at h1
  simp only [Bool.and_eq_true,decide_eq_true_eq] at h1
  rw [h2] at h1
  exact h1.2
theorem putOk_iff {x:Int} {m:Nat} {lo up:Int} :putOk x m lo up=true↔putFits x m=true∧lo≤x∧x≤up:=by
 unfold putOk
 rw [Bool.and_eq_true,Bool.and_eq_true,decide_eq_true_eq,decide_eq_true_eq]
theorem dOk_iff {x:Int} {a m:Nat} :dOk (x,a,m)=true↔putFits x m=true∧(0≤x∨a=136):=by
 unfold dOk
 rw [Bool.and_eq_true,Bool.or_eq_true,decide_eq_true_eq,beq_iff_eq]
theorem pOk_iff: ∀ (l:List (Int × Int)) (i:Nat),pOk l=true↔f3 l=true∧ ∀ x∈pq i l,dOk x=true
 | [],_=>by simp [pOk,f3,pq]
 |p::l,i=>by
  have ih:=pOk_iff l (i+1)
  have e1:putOk p.1 12 0 most=true↔dOk (p.1,386+24*i,12)=true:=by
   rw [putOk_iff,dOk_iff]
   exact ⟨fun h=>⟨h.1, .inl h.2.1⟩,fun h=>⟨h.1,by omega,(fits_bd h.1).2⟩⟩
  have e2:putOk p.2 12 0 most=true↔dOk (p.2,398+24*i,12)=true:=by
   rw [putOk_iff,dOk_iff]
   exact ⟨fun h=>⟨h.1, .inl h.2.1⟩,fun h=>⟨h.1,by omega,(fits_bd h.1).2⟩⟩
  have e3:f3 (p::l)=(!(p.1==0&&p.2==0)&&f3 l):=rfl
  have e4:pOk (p::l)=(!(p.1==0&&p.2==0)&&(putOk p.1 12 0 most&&(putOk p.2 12 0 most&&pOk l))):=rfl
  have e5:pq i (p::l)=(p.1,386+24*i,12)::(p.2,398+24*i,12)::pq (i+1) l:=rfl
  rw [e3,e4,e5,Bool.and_eq_true,Bool.and_eq_true,Bool.and_eq_true,Bool.and_eq_true,e1,e2,ih,List.forall_mem_cons,List.forall_mem_cons]
  constructor
  ·rintro ⟨a,b,c,d,e⟩;exact ⟨⟨a,d⟩,b,c,e⟩
  ·rintro ⟨⟨a,d⟩,b,c,e⟩;exact ⟨a,b,c,d,e⟩
theorem f1_iff {h:Hdr} :f1 h=true↔(0≤h.way∧h.way≤2∧h.size≤maxSize∧h.real≤maxSize∧h.parts.length≤4):=by unfold f1;rw [decide_eq_true_eq]
theorem f2_iff {h:Hdr} :f2 h=true↔((h.way=0→blank h.user=true∧blank h.group=true∧h.major=0∧h.minor=0)∧(h.way≠1→blank h.pre=true)):=by unfold f2;rw [decide_eq_true_eq]
theorem f4_iff {h:Hdr} :f4 h=true↔(h.kind=83∨(h.parts.length=0∧h.more=false∧h.real=0)):=by unfold f4;rw [decide_eq_true_eq]
theorem fits_iff {h:Hdr} :fits h=true↔f1 h=true∧f2 h=true∧f3 h.parts=true∧f4 h=true:=by
 unfold fits;rw [Bool.and_eq_true,Bool.and_eq_true,Bool.and_eq_true]
theorem st_zero {b:Bool} {e r:Int} (he:e≠0):st b e r=0↔b=true∧r=0:=by
 constructor
 ·exact st_ne he
 ·rintro ⟨rfl,h⟩;exact h
theorem bare_iff {h:Hdr} :bare h=true↔(h.way=0→blank h.user=true∧blank h.group=true)∧(h.way≠1→blank h.pre=true):=by
 unfold bare
 simp only [Bool.and_eq_true,Bool.or_eq_true,bne_iff_ne,ne_eq,beq_iff_eq]
 constructor
 ·rintro ⟨a,b,c⟩
  refine ⟨fun e=>⟨?_, ?_⟩,fun e=> ?_⟩
  ·rcases a with a|a;exact absurd e a;exact a
  ·rcases b with a|a;exact absurd e a;exact a
  ·rcases c with a|a;exact absurd a e;exact a
 ·rintro ⟨a,b⟩
  refine ⟨?_, ?_, ?_⟩
  ·by_cases e:h.way=0;exact .inr (a e).1;exact .inl e
  ·by_cases e:h.way=0;exact .inr (a e).2;exact .inl e
  ·by_cases e:h.way=1;exact .inl e;exact .inr (b e)
theorem isWay_iff {h:Hdr} :isWay h.way=true↔0≤h.way∧h.way<3:=by
 unfold isWay
 rw [Bool.and_eq_true,decide_eq_true_eq,decide_eq_true_eq]
theorem flat_iff {h:Hdr} :flat h=true↔h.kind=83∨(h.parts.length=0∧h.more=false):=by
 unfold flat
 simp
theorem nOk_yes {m:Nat} {lo up x:Int} :nOk m true lo up x=true↔putFits x m=true∧lo≤x∧x≤up:=by
 unfold nOk;rw [if_pos rfl];exact putOk_iff
theorem may_iff {k v:Int} :may k v=true↔(k=83→v=2):=by
 unfold may
 simp only [Bool.or_eq_true,bne_iff_ne,ne_eq,beq_iff_eq]
 constructor
 ·rintro (a|a) e;exact absurd e a;exact a
 ·intro h;by_cases e:k=83;exact .inr (h e);exact .inl e
def Asked (h:Hdr):Prop:=(known h.kind=true∧may h.kind h.way=true)∧(∀ x∈tq h,tOk x.2.2 x.1=true)∧fits h=true∧ ∀ x∈nq h,dOk x=true
theorem asked_iff (h:Hdr):herr h=0↔Asked h:=by
 unfold herr Asked
 rw [st_zero (by decide),st_zero (by decide),st_zero (by decide),st_zero (by decide),st_zero (by decide),st_zero (by decide),st_zero (by decide),st_zero (by decide),st_zero (by decide),st_zero (by decide),st_zero (by decide),st_zero (by decide),st_zero (by decide),st_zero (by decide),st_zero (by decide),st_zero (by decide),st_zero (by decide),st_zero (by decide),
  Bool.and_eq_true,Bool.and_eq_true,fits_iff,f1_iff,f2_iff,f4_iff,bare_iff,isWay_iff,flat_iff,nOk_yes,nOk_yes,nOk_yes,nOk_yes,nOk_yes,decide_eq_true_eq,pOk_iff h.parts 0]
 have et:(∀ x∈tq h,tOk x.2.2 x.1=true)↔(tOk 100 h.name=true∧tOk 100 h.link=true∧tOk 32 h.user=true∧tOk 32 h.group=true∧tOk 155 h.pre=true):=by
  unfold tq
  simp only [List.forall_mem_cons]
  constructor
  ·rintro ⟨a,b,c,d,e,_⟩;exact ⟨a,b,c,d,e⟩
  ·rintro ⟨a,b,c,d,e⟩;exact ⟨a,b,c,d,e,fun _ h=>nomatch h⟩
 have e5:(∀ x∈nq5 h,dOk x=true)↔((putFits h.mode 8=true∧0≤h.mode)∧(putFits h.uid 8=true∧0≤h.uid)∧(putFits h.gid 8=true∧0≤h.gid)∧(putFits h.size 12=true∧0≤h.size)∧putFits h.mtime 12=true):=by
  unfold nq5
  simp only [List.forall_mem_cons,dOk_iff]
  constructor
  ·rintro ⟨⟨a,a'⟩,⟨b,b'⟩,⟨c,c'⟩,⟨d,d'⟩,⟨e,_⟩,_⟩;exact ⟨⟨a,by omega⟩,⟨b,by omega⟩,⟨c,by omega⟩,⟨d,by omega⟩,e⟩
  ·rintro ⟨⟨a,a'⟩,⟨b,b'⟩,⟨c,c'⟩,⟨d,d'⟩,e⟩;exact ⟨⟨a, .inl a'⟩,⟨b, .inl b'⟩,⟨c, .inl c'⟩,⟨d, .inl d'⟩,⟨e, .inr trivial⟩,fun _ h=>nomatch h⟩
 have e7:(∀ x∈nq7 h,dOk x=true)↔((∀ x∈nq5 h,dOk x=true)∧(0<h.way→(putFits h.major 8=true∧0≤h.major)∧(putFits h.minor 8=true∧0≤h.minor))):=by
  unfold nq7
  rw [List.forall_mem_append]
  refine and_congr_right fun _=> ?_
  by_cases hw:0<h.way
  ·rw [if_pos (by simpa using hw)]
   simp only [List.forall_mem_cons,dOk_iff]
   constructor
   ·rintro ⟨⟨a,a'⟩,⟨b,b'⟩,_⟩ _;exact ⟨⟨a,by omega⟩,⟨b,by omega⟩⟩
   ·intro h;obtain ⟨⟨a,a'⟩,⟨b,b'⟩⟩:=h hw;exact ⟨⟨a, .inl a'⟩,⟨b, .inl b'⟩,fun _ h=>nomatch h⟩
  ·rw [if_neg (by simpa using hw)]
   exact ⟨fun _ h=>absurd h hw,fun _ _ h=>nomatch h⟩
 have en:(∀ x∈nq h,dOk x=true)↔((∀ x∈nq7 h,dOk x=true)∧(h.kind=83→(putFits h.real 12=true∧0≤h.real)∧ ∀ x∈pq 0 h.parts,dOk x=true)):=by
  unfold nq nqR
  by_cases hk:h.kind=83
  ·rw [if_pos (by simpa using hk),List.forall_mem_append,List.forall_mem_cons,dOk_iff,List.take_length]
   refine and_congr_right fun _=> ?_
   constructor
   ·rintro ⟨⟨a,a'⟩,b⟩ _;exact ⟨⟨a,by omega⟩,b⟩
   ·intro h;obtain ⟨⟨a,a'⟩,b⟩:=h hk;exact ⟨⟨a, .inl a'⟩,b⟩
  ·rw [if_neg (by simpa using hk)]
   exact ⟨fun h=>⟨h,fun e=>absurd e hk⟩,fun h=>h.1⟩
 rw [et,en,e7,e5]
 have m0:(0:Int)≤most:=by decide
 constructor
 ·rintro ⟨k1,t1,t2,t3,t4,t5,⟨b1,b2⟩,⟨w0,w2⟩,⟨n1,n1',_⟩,⟨n2,n2',_⟩,⟨n3,n3',_⟩,⟨n4,n4',n4''⟩,⟨n5,_⟩,n6,n7,n8,fl,⟨p4,p3,pp⟩,_⟩
  have hmay:=may_iff.1 k1.2
  have e6:h.way=0→h.major=0∧h.minor=0:=by
   intro e
   rw [e] at n6 n7
   exact ⟨by simpa [nOk] using n6,by simpa [nOk] using n7⟩
  have e6':0<h.way→(putFits h.major 8=true∧0≤h.major)∧(putFits h.minor 8=true∧0≤h.minor):=by
   intro e
   have e':(h.way !=0)=true:=by rw [bne_iff_ne];omega
   rw [e',nOk_yes] at n6 n7
   exact ⟨⟨n6.1,n6.2.1⟩,⟨n7.1,n7.2.1⟩⟩
  have e8:h.kind=83→(putFits h.real 12=true∧0≤h.real∧h.real≤maxSize):=by
   intro e
   have e':(h.kind==83&&h.way==2)=true:=by rw [e,hmay e];rfl
   rw [e',nOk_yes] at n8
   exact n8
  have e8':h.kind≠83→h.real=0:=by
   intro e
   have e':(h.kind==83&&h.way==2)=false:=by rw [Bool.and_eq_false_iff];exact .inl (by simpa using e)
   rw [e'] at n8
   simpa [nOk] using n8
  refine ⟨k1,⟨t1,t2,t3,t4,t5⟩,⟨⟨w0,by omega,n4'', ?_,p4⟩,⟨fun e=>⟨(b1 e).1,(b1 e).2,e6 e⟩,b2⟩,p3, ?_⟩,⟨⟨⟨n1,n1'⟩,⟨n2,n2'⟩,⟨n3,n3'⟩,⟨n4,n4'⟩,n5⟩,e6'⟩,fun e=>⟨⟨(e8 e).1,(e8 e).2.1⟩,pp⟩⟩
  ·by_cases e:h.kind=83
   ·exact (e8 e).2.2
   ·rw [e8' e];decide
  ·rcases fl with fl|fl
   ·exact .inl fl
   ·by_cases e:h.kind=83
    ·exact .inl e
    ·exact .inr ⟨fl.1,fl.2,e8' e⟩
 ·rintro ⟨k1,⟨t1,t2,t3,t4,t5⟩,⟨⟨w0,w2,s4,r4,p4⟩,⟨b1,b2⟩,p3,f4⟩,⟨⟨⟨n1,n1'⟩,⟨n2,n2'⟩,⟨n3,n3'⟩,⟨n4,n4'⟩,n5⟩,e6⟩,e8⟩
  have hmay:=may_iff.1 k1.2
  refine ⟨k1,t1,t2,t3,t4,t5,⟨fun e=>⟨(b1 e).1,(b1 e).2.1⟩,b2⟩,⟨w0,by omega⟩,⟨n1,n1',(fits_bd n1).2⟩,⟨n2,n2',(fits_bd n2).2⟩,⟨n3,n3',(fits_bd n3).2⟩,⟨n4,n4',s4⟩,⟨n5,fits_bd n5⟩, ?_, ?_, ?_, ?_,⟨p4,p3, ?_⟩,rfl⟩
  ·by_cases e:h.way=0
   ·rw [e,(b1 e).2.2.1];rfl
   ·have e':(h.way !=0)=true:=by rw [bne_iff_ne];exact e
    have:=e6 (by omega)
    rw [e',nOk_yes]
    exact ⟨this.1.1,this.1.2,(fits_bd this.1.1).2⟩
  ·by_cases e:h.way=0
   ·rw [e,(b1 e).2.2.2];rfl
   ·have e':(h.way !=0)=true:=by rw [bne_iff_ne];exact e
    have:=e6 (by omega)
    rw [e',nOk_yes]
    exact ⟨this.2.1,this.2.2,(fits_bd this.2.1).2⟩
  ·by_cases e:h.kind=83
   ·have e':(h.kind==83&&h.way==2)=true:=by rw [e,hmay e];rfl
    have:=e8 e
    rw [e',nOk_yes]
    exact ⟨this.1.1,this.1.2,r4⟩
   ·have e':(h.kind==83&&h.way==2)=false:=by rw [Bool.and_eq_false_iff];exact .inl (by simpa using e)
    rcases f4 with f4|f4
    ·exact absurd f4 e
    ·rw [e',f4.2.2];rfl
  ·rcases f4 with f4|f4
   ·exact .inl f4
   ·exact .inr ⟨f4.1,f4.2.1⟩
  ·by_cases e:h.kind=83
   ·exact (e8 e).2
   ·rcases f4 with f4|f4
    ·exact absurd f4 e
    ·rw [List.length_eq_zero_iff.1 f4.1]
     exact fun _ h=>nomatch h
end M
end Go.Proofs.YtgbgngdakkiclaaGreatDoor.Hd

/-! KhHdDocN -/
namespace Go.Proofs.YtgbgngdakkiclaaGreatDoor.Hd
open Go.RowKit Go.Lib
namespace M
theorem putT_lays {zs z:List Int} {a m:Nat} {s:ByteArray} (h:putT zs a m s=some z):z=splice zs a (S.ints (textL s m)):=by
 obtain ⟨l,hl,rfl,_⟩:=putT_some h
 rw [put_eq hl]
theorem putN_lays {zs z:List Int} {a m:Nat} {there:Bool} {lo up x:Int} (h:putN zs a m there lo up x=some z):z=if there=true then splice zs a (putR x m) else zs:=by
 unfold putN at h
 split at h
 ·rename_i ht
  rw [if_pos ht]
  split at h
  ·exact (Option.some.inj h).symm
  ·cases h
 ·rename_i ht
  rw [if_neg ht]
  split at h
  ·exact (Option.some.inj h).symm
  ·cases h
theorem pputs_lays: ∀ (l:List (Int × Int)) (i:Nat) (y x:List Int),pputs y i l=some x→x=lays y ((pq i l).map nl)
 | [],_,y,x,h=>(Option.some.inj h).symm
 |p::l,i,y,x,h=>by
  by_cases h0:p.1=0∧p.2=0
  ·rw [pputs_zero h0] at h;cases h
  ·cases h1:putOk p.1 12 0 most with
   |false=>rw [pputs_bad1 h0 h1] at h;cases h
   |true=>
    cases h2:putOk p.2 12 0 most with
    |false=>rw [pputs_bad2 h0 h1 h2] at h;cases h
    |true=>
     rw [pputs_next h0 h1 h2] at h
     have:=pputs_lays l (i+1) _ _ h
     rw [this,show 386+24*i+12=398+24*i by omega]
     rfl
theorem nq_at {h:Hdr} (h4:h.parts.length≤4): ∀ x∈nq h,(100≤x.2.1∧x.2.1+x.2.2≤148)∨(329≤x.2.1∧x.2.1+x.2.2≤495):=by
 have a5: ∀ x∈nq5 h,(100≤x.2.1∧x.2.1+x.2.2≤148)∨(329≤x.2.1∧x.2.1+x.2.2≤495):=by
  unfold nq5
  intro x hx
  simp only [List.mem_cons,List.not_mem_nil,or_false] at hx
  rcases hx with rfl|rfl|rfl|rfl|rfl<;>exact .inl ⟨Nat.le_of_ble_eq_true rfl,Nat.le_of_ble_eq_true rfl⟩
 have a7: ∀ x∈nq7 h,(100≤x.2.1∧x.2.1+x.2.2≤148)∨(329≤x.2.1∧x.2.1+x.2.2≤495):=by
  unfold nq7
  intro x hx
  rcases List.mem_append.1 hx with hx|hx
  ·exact a5 x hx
  ·split at hx
   ·simp only [List.mem_cons,List.not_mem_nil,or_false] at hx
    rcases hx with rfl|rfl<;>exact .inr ⟨Nat.le_of_ble_eq_true rfl,Nat.le_of_ble_eq_true rfl⟩
   ·cases hx
 unfold nq nqR
 intro x hx
 split at hx
 ·rcases List.mem_append.1 hx with hx|hx
  ·exact a7 x hx
  ·rcases List.mem_cons.1 hx with rfl|hx
   ·exact .inr ⟨Nat.le_of_ble_eq_true rfl,Nat.le_of_ble_eq_true rfl⟩
   ·obtain ⟨p1,p2,p3,_⟩:=pq_at _ _ _ hx
    rw [List.take_length] at p2
    refine .inr ⟨by omega,by omega⟩
 ·exact a7 x hx
theorem fit_n {h:Hdr} (h4:h.parts.length≤4) (hd: ∀ x∈nq h,dOk x=true): ∀ q∈(nq h).map nl,(100≤q.1∧q.1+q.2.length≤148)∨(329≤q.1∧q.1+q.2.length≤495):=by
 intro q hq
 obtain ⟨x,hx,rfl⟩:=List.mem_map.1 hq
 have h1:=hd x hx
 have h2:=nq_at h4 x hx
 unfold dOk at h1
 rw [Bool.and_eq_true] at h1
 have h3:=putR_len h1.1
 have e1:(nl x).1=x.2.1:=rfl
 have e2:(nl x).2.length=x.2.2:=h3
 rw [e1,e2]
 exact h2
theorem fit_t {h:Hdr} (ht: ∀ x∈tq h,tOk x.2.2 x.1=true): ∀ q∈(tq h).map tl',q.1+q.2.length≤100∨(157≤q.1∧q.1+q.2.length≤257)∨(265≤q.1∧q.1+q.2.length≤500):=by
 intro q hq
 obtain ⟨x,hx,rfl⟩:=List.mem_map.1 hq
 have h1:=ht x hx
 have h3:=tOk_len h1
 have e1:(tl' x).1=x.2.1:=rfl
 have e2:(tl' x).2.length=x.2.2:=h3
 rw [e1,e2]
 unfold tq at hx
 simp only [List.mem_cons,List.not_mem_nil,or_false] at hx
 rcases hx with rfl|rfl|rfl|rfl|rfl
 ·exact .inl (Nat.le_of_ble_eq_true rfl)
 ·exact .inr (.inl ⟨Nat.le_of_ble_eq_true rfl,Nat.le_of_ble_eq_true rfl⟩)
 ·exact .inr (.inr ⟨Nat.le_of_ble_eq_true rfl,Nat.le_of_ble_eq_true rfl⟩)
 ·exact .inr (.inr ⟨Nat.le_of_ble_eq_true rfl,Nat.le_of_ble_eq_true rfl⟩)
 ·exact .inr (.inr ⟨Nat.le_of_ble_eq_true rfl,Nat.le_of_ble_eq_true rfl⟩)
theorem tq_rise (h:Hdr):(tq h).Pairwise (fun x y=>x.2.1+x.2.2≤y.2.1):=by
 unfold tq
 simp
theorem tq_none (h:Hdr): ∀ x∈tq h,x.2.1+x.2.2≤512∧sub (nils 512) x.2.1 x.2.2=nils x.2.2:=by
 unfold tq
 intro x hx
 simp only [List.mem_cons,List.not_mem_nil,or_false] at hx
 rcases hx with rfl|rfl|rfl|rfl|rfl<;>exact ⟨Nat.le_of_ble_eq_true rfl,sub_nils _ _ _ (Nat.le_of_ble_eq_true rfl)⟩
theorem steps_x {h:Hdr} {zs:List Int} (s:Steps h zs):s.x=lays ((nils 512).set 156 h.kind) ((tq h).map tl'++(257,magic h.way.toNat)::(nq h).map nl):=by
 have e5:s.z5=lays ((nils 512).set 156 h.kind) ((tq h).map tl'):=by
  rw [putT_lays s.t4,putT_lays s.t3,putT_lays s.t2,putT_lays s.t1,putT_lays s.t0]
  rfl
 have y5:s.y5=lays (splice s.z5 257 (magic h.way.toNat)) ((nq5 h).map nl):=by
  rw [putN_lays s.n4,putN_lays s.n3,putN_lays s.n2,putN_lays s.n1,putN_lays s.n0]
  rfl
 have y7:s.y7=lays (splice s.z5 257 (magic h.way.toNat)) ((nq7 h).map nl):=by
  unfold nq7
  rw [List.map_append,lays_app,←y5,putN_lays s.n6,putN_lays s.n5]
  have hw:=isWay_iff.1 s.isway
  by_cases hz:h.way=0
  ·rw [if_neg (by simp [hz]),if_neg (by simp [hz]),if_neg (by simp [hz])];rfl
  ·rw [if_pos (by simp [hz]),if_pos (by simp [hz]),if_pos (by simp;omega)];rfl
 have hp:=s.few.2
 have ex:s.x=lays (splice s.z5 257 (magic h.way.toNat)) ((nq h).map nl):=by
  rw [pputs_lays _ _ _ _ hp,putN_lays s.n7,y7]
  unfold nq nqR
  have hm:=may_iff.1 s.kd.2
  by_cases hk:h.kind=83
  ·rw [if_pos (by simp [hk,hm hk]),if_pos (by simp [hk]),List.take_length,List.map_append,lays_app,List.map_cons,lays_cons];rfl
  ·rw [if_neg (by simp [hk]),if_neg (by simp [hk])]
   have hf:=flat_iff.1 s.isflat
   rcases hf with hf|hf
   ·exact absurd hf hk
   ·rw [List.length_eq_zero_iff.1 hf.1];rfl
 rw [ex,e5,lays_app,lays_cons]
theorem dprint_of {h:Hdr} {zs:List Int} (hp:hprint h=(0,zs)):dprint h=some zs:=by
 obtain ⟨s⟩:=steps hp
 have he:herr h=0:=by rw [←hprint_err,hp]
 obtain ⟨k,ht,hf,hn⟩:=(asked_iff h).1 he
 have h4:=(f1_iff.1 (fits_iff.1 hf).1).2.2.2.2
 have e1:dt (nils 512) (tq h)=some (lays (nils 512) ((tq h).map tl')):=(dt_iff (tq h) _ _ (nils_len 512) (tq_rise h) (tq_none h)).2 ⟨ht,rfl⟩
 have e2:dn (lays (nils 512) ((tq h).map tl')) (nq h)=some (lays (lays (nils 512) ((tq h).map tl')) ((nq h).map nl)):=(dn_iff _ _ _).2 ⟨hn,rfl⟩
 have fn:=fit_n h4 hn
 have ft:=fit_t ht
 have hl1:(lays (nils 512) ((tq h).map tl')).length=512:=lays_len _ _ (nils_len 512) (fun q hq=>by have:=ft q hq;unfold Fit;omega)
 have hl2:(lays (lays (nils 512) ((tq h).map tl')) ((nq h).map nl)).length=512:=lays_len _ _ hl1 (fun q hq=>by have:=fn q hq;unfold Fit;omega)
 have hmg:=magic_len' h.way.toNat
 have ex:s.x=splice ((lays (lays (nils 512) ((tq h).map tl')) ((nq h).map nl)).set 156 h.kind) 257 (magic h.way.toNat):=by
  rw [steps_x s,set_splice _ (by rw [nils_len];decide),set_splice _ (by rw [hl2];decide)]
  have w1:=lays_swap (156, [h.kind]) (by unfold Fit;simp) ((tq h).map tl'++(257,magic h.way.toNat)::(nq h).map nl) (nils 512) (nils_len 512) (by
   intro q hq
   unfold Fit Off
   simp only [List.length_singleton]
   rcases List.mem_append.1 hq with hq|hq
   ·have:=ft q hq;omega
   ·rcases List.mem_cons.1 hq with rfl|hq
    ·simp only [hmg];omega
    ·have:=fn q hq;omega)
  dsimp only at w1
  rw [w1,lays_app,lays_cons]
  have w2:=lays_swap (257,magic h.way.toNat) (by unfold Fit;simp only [hmg];omega) ((nq h).map nl) (lays (nils 512) ((tq h).map tl')) hl1 (by
   intro q hq
   unfold Fit Off
   simp only [hmg]
   have:=fn q hq;omega)
  dsimp only at w2⊢
  rw [w2,splice_swap hl2 (by rw [hmg];omega) (by simp) (.inr (by simp))]
 unfold dprint
 rw [if_pos (by rw [Bool.and_eq_true];exact k),e1,Option.bind_some,if_pos hf,e2,Option.map_some,←ex]
 exact congrArg some s.out.symm
theorem of_dprint {h:Hdr} {zs:List Int} (hd:dprint h=some zs):hprint h=(0,zs):=by
 have he:herr h=0:=by
  rw [asked_iff]
  unfold dprint at hd
  split at hd
  ·rename_i hk
   rw [Bool.and_eq_true] at hk
   obtain ⟨z,hz,hd⟩:=Option.bind_eq_some_iff.1 hd
   split at hd
   ·rename_i hf
    obtain ⟨y,hy,_⟩:=Option.map_eq_some_iff.1 hd
    exact ⟨hk,((dt_iff (tq h) _ _ (nils_len 512) (tq_rise h) (tq_none h)).1 hz).1,hf,((dn_iff _ _ _).1 hy).1⟩
   ·cases hd
  ·cases hd
 have e0:hprint h=(0,(hprint h).2):=by
  have:=hprint_err h
  rw [he] at this
  rw [←this]
 rw [dprint_of e0] at hd
 rw [e0,Option.some.inj hd]
theorem dprint_none {h:Hdr} (hd:dprint h=none):(hprint h).1≠0:=by
 intro e
 have e0:hprint h=(0,(hprint h).2):=by rw [←e]
 rw [dprint_of e0] at hd
 cases hd
end M
end Go.Proofs.YtgbgngdakkiclaaGreatDoor.Hd

/-! KhHdLay -/
namespace Go.Proofs.YtgbgngdakkiclaaGreatDoor.Hd
open Go.RowKit Go.Lib
def B512 (w:World) (g:Nat):Prop:= ∃ zs:List Int,zs.length=512∧(∀ z∈zs,0≤z∧z≤255)∧Arr w g 5 zs
structure But (g:Nat) (w w':World):Prop where
 os:w'.os=w.os
 tape:w'.tape=w.tape
 output:w'.output=w.output
 size:w.heap.size≤w'.heap.size
 block: ∀ k,k<w.heap.size→k≠g→w'.heap[k]?=w.heap[k]?
theorem But.refl (g:Nat) (w:World):But g w w:=⟨rfl,rfl,rfl,Nat.le_refl _,fun _ _ _=>rfl⟩
theorem But.trans {g:Nat} {a b c:World} (h:But g a b) (k:But g b c):But g a c:=
 ⟨k.os.trans h.os,k.tape.trans h.tape,k.output.trans h.output,Nat.le_trans h.size k.size,fun i hi hg=>(k.block i (Nat.lt_of_lt_of_le hi h.size) hg).trans (h.block i hi hg)⟩
theorem But.of_below {g:Nat} {w w':World} (h:Below w.heap.size w w'):But g w w':=⟨h.os,h.tape,h.output,h.size,fun k hk _=>h.block k hk⟩
theorem But.below {g B:Nat} {w w':World} (h:But g w w') (hB:B≤w.heap.size) (hg:B≤g):Below B w w':=⟨h.os,h.tape,h.output,h.size,fun k hk=>h.block k (by omega) (by omega)⟩
theorem But.set (g:Nat) (w:World) (i:Nat) (v:Value):But g w (w.setCell ⟨g,i,none⟩ v):=⟨rfl,rfl,rfl,by simp [World.setCell],fun k _ hk=>Below.heap_setCell _ _ _ _ hk⟩
theorem But.alloc {g:Nat} {a w:World} (h:But g a w) (o:Obj):But g a (w.alloc o):=h.trans (But.of_below ((Below.refl _ _).alloc (Nat.le_refl _) o))
theorem B512.lt {w:World} {g:Nat} (h:B512 w g):g<w.heap.size:=by obtain ⟨_,_,_,h⟩:=h;exact h.lt
theorem B512.of_block {w w':World} {g:Nat} (h:B512 w g) (e:w'.heap[g]?=w.heap[g]?):B512 w' g:=by obtain ⟨zs,h1,h2,h3⟩:=h;exact ⟨zs,h1,h2,h3.of_block e⟩
theorem B512.below {w w':World} {g B:Nat} (h:B512 w g) (hb:Below B w w') (hg:g<B):B512 w' g:=h.of_block (hb.block g hg)
theorem B512.set {w:World} {g:Nat} (h:B512 w g) (i:Nat) {v:Int} (hv:0≤v∧v≤255):B512 (w.setCell ⟨g,i,none⟩ (.int .u8 v)) g:=by
 obtain ⟨zs,h1,h2,h3⟩:=h
 refine ⟨zs.set i v,by rw [List.length_set];exact h1,fun z hz=> ?_,h3.set i v⟩
 rcases List.mem_or_eq_of_mem_set hz with h|h
 ·exact h2 z h
 ·subst h;exact hv
theorem B512.at_ {w:World} {g:Nat} (h:B512 w g) {i:Nat} (hi:i<512): ∃ z:Int,w.cell? ⟨g,i,none⟩=some (.int .u8 z)∧w.frozen? ⟨g,i,none⟩=false:=by
 obtain ⟨zs,h1,h2,h3⟩:=h
 exact ⟨zs[i]'(by omega),h3.cell (List.getElem?_eq_getElem (by omega)),h3.frozen i⟩
def RdW (w:World) (A:Option Addr) (n:Nat):Prop:=0<n→ ∃ b off,A=some ⟨b,off,none⟩∧ ∀ j,j<n→ ∃ z:Int,(0≤z∧z≤255)∧w.cell? ⟨b,off+j,none⟩=some (.int .u8 z)
theorem RdW.set {w:World} {A:Option Addr} {n:Nat} (h:RdW w A n) (a:Addr) {v:Int} (hv:0≤v∧v≤255) {x:Value} (hx:w.cell? a=some x) (hf:w.frozen? a=false):RdW (w.setCell a (.int .u8 v)) A n:=by
 intro hn
 obtain ⟨b,off,e,hc⟩:=h hn
 refine ⟨b,off,e,fun j hj=> ?_⟩
 by_cases ha:a=⟨b,off+j,none⟩
 ·subst ha
  exact ⟨v,hv,by simp [World.cell?_setCell_same,hx]⟩
 ·obtain ⟨z,hz,hcz⟩:=hc j hj
  exact ⟨z,hz,(World.cell?_setCell_other w a _ _ ha).trans hcz⟩
end Go.Proofs.YtgbgngdakkiclaaGreatDoor.Hd

/-! KhHdTextsR -/
namespace Go.Proofs.YtgbgngdakkiclaaGreatDoor.Hd
open Go.RowKit Go.Lib
def LaidTo (g:Nat) (w:World) (e:Ending) (w':World):Prop:=
 (e= .returned (.tuple #[.slice none 0 0, .bool false])∨e= .returned (.tuple #[.slice (some ⟨g,0,none⟩) 512 512, .bool true]))∧B512 w' g∧But g w w'
theorem four_new (w:World) (o1 o2 o3 o4:Obj):((((w.alloc o1).alloc o2).alloc o3).alloc o4).heap[w.heap.size]?=some o1∧((((w.alloc o1).alloc o2).alloc o3).alloc o4).heap[w.heap.size+1]?=some o2∧
  ((((w.alloc o1).alloc o2).alloc o3).alloc o4).heap[w.heap.size+1+1]?=some o3∧((((w.alloc o1).alloc o2).alloc o3).alloc o4).heap[w.heap.size+1+1+1]?=some o4∧
  Below w.heap.size w ((((w.alloc o1).alloc o2).alloc o3).alloc o4)∧((((w.alloc o1).alloc o2).alloc o3).alloc o4).heap.size=w.heap.size+4:=by
 refine ⟨?_, ?_, ?_, ?_,((((Below.refl _ _).alloc (Nat.le_refl _) _).alloc (by simp) _).alloc (by simp;omega) _).alloc (by simp;omega) _,by simp⟩
 ·rw [Below.heap_alloc _ _ _ (by simp only [World.size_alloc];omega),Below.heap_alloc _ _ _ (by simp only [World.size_alloc];omega),Below.heap_alloc _ _ _ (by simp only [World.size_alloc];omega)];exact heap_alloc_new w _
 ·rw [Below.heap_alloc _ _ _ (by simp only [World.size_alloc];omega),Below.heap_alloc _ _ _ (by simp only [World.size_alloc];omega)];have:=heap_alloc_new (w.alloc o1) o2;rwa [World.size_alloc] at this
 ·rw [Below.heap_alloc _ _ _ (by simp only [World.size_alloc];omega)];have:=heap_alloc_new ((w.alloc o1).alloc o2) o3;rwa [World.size_alloc,World.size_alloc] at this
 ·have:=heap_alloc_new (((w.alloc o1).alloc o2).alloc o3) o4;rwa [World.size_alloc,World.size_alloc,World.size_alloc] at this
theorem cell_of {w:World} {b i:Nat} {C:Array Value} {t:TypeId} {v:Value} (h:w.heap[b]?=some (.cells C t)) (hv:C[i]?=some v):w.cell? ⟨b,i,none⟩=some v:=by
 rw [cell_of_row w b i _ _ (0,0) h];exact hv
theorem But.drew {g:Nat} {a w:World} (h:But g a w):But g a w.drew:=⟨h.os,h.tape,h.output,h.size,h.block⟩
theorem B512.drew {w:World} {g:Nat} (h:B512 w g):B512 w.drew g:=h
end Go.Proofs.YtgbgngdakkiclaaGreatDoor.Hd
