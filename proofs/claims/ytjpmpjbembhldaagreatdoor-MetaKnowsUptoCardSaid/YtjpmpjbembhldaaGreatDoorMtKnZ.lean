/-
  Texts of one chapter, merged.
-/
import Derived.Test.YtjpmpjbembhldaaGreatDoorMtTextZ
import Derived.Test.YtjpmpjbembhldaaGreatDoorMtMathZ
import Derived.Test.YtjpmpjbembhldaaGreatDoorKRx
import Derived.Test.YtjpmpjbembhldaaGreatDoorMtTold
import Derived.Test.YtjpmpjbembhldaaGreatDoorMtKnownZ
set_option linter.unusedVariables false
set_option linter.unusedSimpArgs false
namespace Go.Proofs.YtjpmpjbembhldaaGreatDoor
open Go.RowKit Go.Lib
open Px (R2 tl rcs RdR)
namespace M
theorem dec_of {t:List UInt8} {v most:Int} (hm:most≤4611686018427387904) (h:(Lib.atoiAll t= .ok v)∨(∀ u,Lib.atoiAll t≠ .ok u)):
  dec t most=if within v 0 most=true∧Lib.itoa v=t then some v else none:=by
 rcases h with h|h
 ·exact dec_ok h most
 ·rw [dec_err h most]
  split
  ·rename_i hc
   obtain ⟨h1,h2⟩:=hc
   unfold within at h1
   simp only [Bool.and_eq_true,decide_eq_true_eq] at h1
   have e:=dec_itoa h1.1 h1.2 (by omega)
   rw [h2,dec_err h most] at e
   exact e
  ·rfl
theorem dec_long {t:List UInt8} {most:Int} (hm:most≤4611686018427387904) (h:19<t.length):dec t most=none:=by
 unfold dec
 split
 ·rename_i n hn
  split
  ·rename_i hc
   obtain ⟨h1,h2⟩:=hc
   unfold within at h1
   simp only [Bool.and_eq_true,decide_eq_true_eq] at h1
   have e:=itoa_len h1.1 (by omega)
   rw [h2] at e
   omega
  ·rfl
 ·rfl
def numD (r:List Px.M.Rc) (k:ByteArray) (o most:Int):Int:=
 match Px.M.find r (tl k) with
 |some v=>(dec v most).getD (-1)
 |none=>o
theorem dec_low {t:List UInt8} {most n:Int} (h:dec t most=some n):0≤n:=by
 unfold dec at h
 split at h
 ·split at h
  ·rename_i hc
   cases h
   have h1:=hc.1
   unfold within at h1
   simp only [Bool.and_eq_true,decide_eq_true_eq] at h1
   exact h1.1
  ·cases h
 ·cases h
theorem numR_numD (r:List Px.M.Rc) (k:ByteArray) (o most:Int):
  numR r k most o=if ((Px.M.find r (tl k)).isSome&&decide (numD r k o most<0))=true then none else some (numD r k o most):=by
 unfold numR numD
 cases hf:Px.M.find r (tl k) with
 |none=>rfl
 |some v=>
  obtain ⟨x,hx⟩: ∃ x,dec v most=x:=⟨_,rfl⟩
  simp only [hx]
  cases x with
  |none=>simp
  |some n=>
   have h:=dec_low hx
   simp only [Option.getD_some,Option.isSome_some,Bool.true_and,decide_eq_true_eq]
   rw [if_neg (by omega)]
end M
theorem ret_i {a b:Int} (h:a=b):Ending.returned (.int .i64 a)= .returned (.int .i64 b):=by rw [h]
set_option maxRecDepth 100000 in
set_option maxHeartbeats 1000000 in
theorem refDecimal_any (s:ByteArray) (hs:s.size≤1048576) (most:Int) (hm:most≤4611686018427387904) (B:Nat) (w:World) (hB:B≤w.heap.size) (ht:Sp.EV B w):
  Calls Tryz.prog 82 #[.string s, .int .i64 most] w fun e w'=>e= .returned (.int .i64 ((M.dec (tl s) most).getD (-1)))∧Below w.heap.size w w':=by
 have HT:=hid ht
 have hlen:(tl s).length=s.size:=rfl
 clear ht
 go_enter Tryz.func82,Tryz.ntmps82
 go_wp2_with fail
 (with_reducible refine (Sp.atoi_any s hs B w HT.out).mono ?_)
 rintro e w1 ⟨v,ev,rfl,hb1,v0,v1,h⟩
 have HB1:=hid hb1
 have HT1:=hid (HT.out.on (hb1.mono hB))
 have HN:=hid (M.dec_of (t:=tl s) (v:=v) hm (h.elim (fun h=> .inl h.1) (fun h=> .inr h.1)))
 clear h hb1
 by_cases hlong:19<s.size
 ·have HN2:=hid (M.dec_long (t:=tl s) hm (by rw [hlen];exact hlong))
  have d1:decide ((19:Int)<(s.size:Int))=true:=by rw [decide_eq_true_eq];omega
  clear hlong HN hlen
  go_wp2
  first|go_ret2|go_ret
  exact ⟨ret_i (by rw [HN2.out];rfl),HB1.out⟩
 have d1:decide ((19:Int)<(s.size:Int))=false:=by rw [decide_eq_false_iff_not];omega
 clear hlong hlen
 by_cases hv:v<0
 ·have HN2:=hid (show M.dec (tl s) most=none by rw [HN.out,if_neg (by rintro ⟨h,_⟩;unfold M.within at h;simp at h;omega)])
  have d2:decide (v<0)=true:=by rw [decide_eq_true_eq];exact hv
  clear hv HN
  go_wp2
  first|go_ret2|go_ret
  exact ⟨ret_i (by rw [HN2.out];rfl),HB1.out⟩
 have d2:decide (v<0)=false:=by rw [decide_eq_false_iff_not];exact hv
 by_cases hv2:most<v
 ·have HN2:=hid (show M.dec (tl s) most=none by rw [HN.out,if_neg (by rintro ⟨h,_⟩;unfold M.within at h;simp at h;omega)])
  have d3:decide (most<v)=true:=by rw [decide_eq_true_eq];exact hv2
  clear hv hv2 HN
  go_wp2
  first|go_ret2|go_ret
  exact ⟨ret_i (by rw [HN2.out];rfl),HB1.out⟩
 have d3:decide (most<v)=false:=by rw [decide_eq_false_iff_not];exact hv2
 have hw:M.within v 0 most=true:=by unfold M.within;simp;omega
 have HI:=hid (Sp.itoa_any v v0 v1 B w1 HT1.out)
 by_cases he:Lib.itoa v=tl s
 ·have HN2:=hid (show M.dec (tl s) most=some v by rw [HN.out,if_pos ⟨hw,he⟩])
  have es:=Sp.str_eq_yes he
  rw [es] at HI
  clear he es hv hv2 hw HN
  go_wp2_with (go_at_call 23;(with_reducible refine HI.out.mono ?_);rintro e w2 ⟨rfl,hb2⟩)
  first|go_ret2|go_ret
  exact ⟨ret_i (by rw [HN2.out];rfl),HB1.out.trans (hb2.mono HB1.out.size)⟩
 ·have HN2:=hid (show M.dec (tl s) most=none by rw [HN.out,if_neg (by intro h;exact he h.2)])
  have HE:=hid he
  clear he hv hv2 hw HN
  generalize hx:(⟨(Lib.itoa v).toArray⟩:ByteArray)=x at HI
  have d4:(x.toList==s.toList)=false:=by
   rw [beq_eq_false_iff_ne,Sp.tl_eq,Sp.tl_eq,←hx];exact HE.out
  go_wp2_with (go_at_call 23;(with_reducible refine HI.out.mono ?_);rintro e w2 ⟨rfl,hb2⟩)
  first|go_ret2|go_ret
  exact ⟨ret_i (by rw [HN2.out];rfl),HB1.out.trans (hb2.mono HB1.out.size)⟩
theorem refTextR_any (A:Option Addr) (c:Nat) (l:List R2) (key o:ByteArray) (hl:l.length≤1048576) (w:World) (h:RdR w w.heap.size A l):
  Calls Tryz.prog 34 #[.slice A l.length c, .string key, .string o] w fun e w'=>e= .returned (.string (M.textR (rcs l) key o))∧Below w.heap.size w w':=by
 have HF:=hid (Px.refFind_any A c l key hl w h)
 clear h
 go_enter Tryz.func34,Tryz.ntmps34
 go_wp2_with fail
 (with_reducible refine HF.out.mono ?_)
 rintro e w1 ⟨v,b,rfl,hv,hb,hb1⟩
 have HB1:=hid hb1
 clear hb1
 cases hf:Px.M.find (rcs l) (tl key) with
 |none=>
  rw [hf] at hb
  obtain rfl:b=false:=hb
  have HN:=hid (show M.textR (rcs l) key o=o by unfold M.textR;rw [hf])
  clear hf hv
  go_wp2
  first|go_ret2|go_ret
  exact ⟨by rw [HN.out];rfl,HB1.out⟩
 |some t=>
  rw [hf] at hb hv
  obtain rfl:b=true:=hb
  have HN:=hid (show M.textR (rcs l) key o=v by
   unfold M.textR;rw [hf]
   exact Px.tl_inj (show t.toArray.toList=tl v by rw [hv];rfl))
  clear hf hv
  go_wp2
  first|go_ret2|go_ret
  exact ⟨by rw [HN.out];rfl,HB1.out⟩
theorem refNumR_any (A:Option Addr) (c:Nat) (l:List R2) (key:ByteArray) (o most:Int) (hm:most≤4611686018427387904) (hl:l.length≤1048576) (hz: ∀ r∈l,r.2.size≤1048576) (B:Nat) (w:World) (hB:B≤w.heap.size) (ht:Sp.EV B w) (h:RdR w w.heap.size A l):
  Calls Tryz.prog 39 #[.slice A l.length c, .string key, .int .i64 o, .int .i64 most] w fun e w'=>e= .returned (.int .i64 (M.numD (rcs l) key o most))∧Below w.heap.size w w':=by
 have HF:=hid (Px.refFind_any A c l key hl w h)
 have HT:=hid ht
 clear h ht
 go_enter Tryz.func39,Tryz.ntmps39
 go_wp2_with fail
 (with_reducible refine HF.out.mono ?_)
 rintro e w1 ⟨v,b,rfl,hv,hb,hb1⟩
 have HB1:=hid hb1
 have HT1:=hid (HT.out.on (hb1.mono hB))
 clear hb1
 cases hf:Px.M.find (rcs l) (tl key) with
 |none=>
  rw [hf] at hb
  obtain rfl:b=false:=hb
  have HN:=hid (show M.numD (rcs l) key o most=o by unfold M.numD;rw [hf])
  clear hf hv
  go_wp2
  first|go_ret2|go_ret
  exact ⟨ret_i (by rw [HN.out]),HB1.out⟩
 |some t=>
  rw [hf] at hb hv
  obtain rfl:b=true:=hb
  obtain rfl:tl v=t:=hv
  have hvs:v.size≤1048576:=by
   have hm2:=Px.M.mem_of_find hf
   obtain ⟨r,hr,e⟩:=List.mem_map.1 hm2
   have e2:v=r.2:=Px.tl_inj (congrArg Prod.snd e).symm
   rw [e2];exact hz r hr
  have HN:=hid (show M.numD (rcs l) key o most=(M.dec (tl v) most).getD (-1) by unfold M.numD;rw [hf])
  have HD:=hid (refDecimal_any v hvs most hm B w1 (Nat.le_trans hB HB1.out.size) HT1.out)
  clear hf hvs
  go_wp2_with (go_at_call 82;(with_reducible refine HD.out.mono ?_);rintro e w2 ⟨rfl,hb2⟩)
  first|go_ret2|go_ret
  exact ⟨ret_i (by rw [HN.out]),HB1.out.trans (hb2.mono HB1.out.size)⟩
end Go.Proofs.YtjpmpjbembhldaaGreatDoor

namespace Go.Proofs.YtjpmpjbembhldaaGreatDoor
open Go.RowKit Go.Lib
open Px (R2 tl rcs RdR OwnR)
attribute [local go_sem ↓] add_plain
theorem refLast_any (A:Option Addr) (c:Nat) (l:List ByteArray) (o:ByteArray) (hl:l.length≤1048576) (w:World) (h:RdT w w.heap.size A l):
  Calls Tryz.prog 35 #[.slice A l.length c, .string o] w fun e w'=>e= .returned (.string (M.lastOf l o))∧w=w':=by
 by_cases h0:l.length=0
 ·have HE:=hid (last_none h0 o)
  have hz:(l.length:Int)=0:=by omega
  clear h0 h
  go_enter Tryz.func35,Tryz.ntmps35
  go_wp2
  first|go_ret2|go_ret
  exact ⟨by rw [HE.out];rfl,rfl⟩
 ·obtain ⟨b,off,rfl,hb,hc⟩:=h (by omega)
  have hx:=hc _ _ (last_at (by omega) o)
  obtain ⟨j,hj⟩: ∃ j,l.length=j+1:=⟨l.length - 1,by omega⟩
  have e:l.length - 1=j:=by omega
  rw [e] at hx
  generalize l.length=n at hj hl⊢
  have hw:IntKind.i64.wrap ((n:Int) - 1)=(j:Int):=by rw [IntWalk.i64_in _ (by omega)];omega
  have dz:((n:Int)==0)=false:=by rw [beq_eq_false_iff_ne];omega
  have hjn:j<n:=by omega
  generalize M.lastOf l o=t at hx⊢
  clear hc h h0 e hj hl
  go_enter Tryz.func35,Tryz.ntmps35
  go_wp2
  first|go_ret2|go_ret
  exact ⟨rfl,rfl⟩
def othersOf (l:List R2):List R2:=l.filter fun r=> !M.isKey (tl r.1)
def OthIs (l:List R2) (w:World) (e:Ending) (w':World):Prop:= ∃ v,e= .returned v∧OwnR w' w.heap.size v (othersOf l)∧Below w.heap.size w w'
set_option maxRecDepth 100000 in
set_option maxHeartbeats 4000000 in
theorem refOthers_any (A:Option Addr) (c:Nat) (l:List R2) (hl:l.length≤1048576) (w:World) (h:RdR w w.heap.size A l):
  Calls Tryz.prog 44 #[.slice A l.length c] w (OthIs l w):=by
 have HR:=hid h
 have HK:=hid is_any
 clear h
 go_enter Tryz.func44,Tryz.ntmps44
 go_wp2
 go_loopw [3,4] (fun v3 iv wr=> ∃ (i:Nat) (L:List R2),iv= .int .i64 i∧i≤l.length∧Hid (OwnR wr w.heap.size v3 L)∧Hid (L=othersOf (l.take i))∧L.length≤i∧Hid (Below w.heap.size w wr)) (fun _ iv _=>l.length - (intOf iv).toNat)
 case atStart=>exact ⟨0, [],rfl,Nat.zero_le _,hid (OwnR.nil _ _),hid rfl,Nat.le_refl _,hid (Below.refl _ _)⟩
 case round=>
  obtain ⟨i,L,rfl,hi,HO,HE,hLi,HB⟩:=hrel
  by_cases hlt:i<l.length
  ·obtain ⟨b,off,rfl,hbb,hc1,hc2⟩:=(HR.out.below HB.out).at_ hlt
   have ht:l.take (i+1)=l.take i++ [l[i]]:=by rw [List.take_add_one,List.getElem?_eq_getElem hlt];rfl
   obtain ⟨r,hr⟩: ∃ r,l[i]=r:=⟨_,rfl⟩
   rw [hr] at hc1 hc2 ht
   clear hr
   obtain ⟨r1,r2⟩:=r
   dsimp only at hc1 hc2
   have hbs:=HB.out.size
   have HI:=hid (HK.out r1 wr)
   have HC:=hid (show ∀ V,Below wr.heap.size wr V→V.cell? ⟨b,off+i*2,none⟩=some (.string r1)∧V.cell? ⟨b,off+i*2+1,none⟩=some (.string r2) from fun V hV=>
    ⟨(hV.cell (p:=⟨b,off+i*2,none⟩) (by show b<_;omega)).trans hc1,(hV.cell (p:=⟨b,off+i*2+1,none⟩) (by show b<_;omega)).trans hc2⟩)
   cases hk:M.isKey (tl r1) with
   |true=>
    rw [hk] at HI
    have HE2:=hid (show L=othersOf (l.take (i+1)) from by rw [HE.out,ht];unfold othersOf;rw [List.filter_append];simp [hk])
    clear ht hk
    go_wp2_with (go_at_call 86;(with_reducible refine HI.out.mono ?_);rintro e w1 ⟨rfl,hb1⟩;have B1:=hid hb1;clear hb1)
    go_roundw
    case rel=>exact ⟨i+1,L,by go_num,by omega,hid (HO.out.below B1.out),HE2,by omega,hid (HB.out.trans (B1.out.mono hbs))⟩
    case measure=>simp [intOf];omega
   |false=>
    rw [hk] at HI
    have HE2:=hid (show L++ [(r1,r2)]=othersOf (l.take (i+1)) from by rw [HE.out,ht];unfold othersOf;rw [List.filter_append];simp [hk])
    clear ht hk
    go_wp2_with (first|(go_at_call 86;(with_reducible refine HI.out.mono ?_);rintro e w1 ⟨rfl,hb1⟩;(have B1:=hid hb1);(have O1:=hid (HO.out.below hb1));(have S1:=hb1.size);obtain ⟨x1,x2⟩:=HC.out w1 hb1;clear hb1)|(at_builtin;refine Px.wpList_appR rfl (.tmp 18) (.tmp 23) rfl w.heap.size u3 L (r1,r2) rfl rfl rfl O1.out (by omega) rfl (by omega) ?_))
    intro v5 w5 l5 HL5 hn5 o5 hb5 _
    have HB5:=hid ((HB.out.trans (B1.out.mono hbs)).trans hb5)
    have HE5:=hid (HL5.out.trans HE2.out)
    have HO5:=hid o5
    clear x1 x2 hb5 o5 HL5
    go_wp2_with fail
    go_roundw
    case rel=>exact ⟨i+1,l5,by go_num,by omega,HO5,HE5,by omega,HB5⟩
    case measure=>simp [intOf];omega
  ·obtain rfl:i=l.length:=by omega
   go_wp2_with fail
   first|go_ret2|go_ret
   refine ⟨_,rfl, ?_,HB.out⟩
   have h:=HE.out
   rw [List.take_length] at h
   rw [←h]
   exact HO.out
end Go.Proofs.YtjpmpjbembhldaaGreatDoor

namespace Go.Proofs.YtjpmpjbembhldaaGreatDoor
namespace M
open Px (tl R2 ltB ltB_ord)
open Px.M (Rc find merge)
def LowN (a b:Int):Prop:=a=b∨(a<0∧b<0)
def Low (m n:Met):Prop:= ∃ u g s r,n= { m with uid:=u,gid:=g,size:=s,real:=r } ∧LowN m.uid u∧LowN m.gid g∧LowN m.size s∧(m.size=s→m.real=r)
def LowO:Option Met→Option Met→Prop
 |none,none=>True
 |some m,some n=>Low m n
 |_,_=>False
def LowI:Option Int→Option Int→Prop
 |none,none=>True
 |some a,some b=>LowN a b
 |_,_=>False
theorem LowN.refl (a:Int):LowN a a:= .inl rfl
theorem LowI.refl: ∀ a:Option Int,LowI a a
 |none=>trivial
 |some a=>LowN.refl a
theorem numR_low (r:List Rc) (k:ByteArray) (most:Int) {a b:Int} (h:LowN a b):LowI (numR r k most a) (numR r k most b):=by
 unfold numR
 cases find r (tl k) with
 |none=>exact h
 |some v=>exact LowI.refl _
theorem not_within {a:Int} (h:a<0) (b:Int):within a 0 b=false:=by
 unfold within
 rw [Bool.and_eq_false_iff]
 exact .inl (by rw [decide_eq_false_iff_not];omega)
theorem low_numbers {m n:Met} (h:Low m n):m=n∨(hasNumbers m=false∧hasNumbers n=false):=by
 obtain ⟨u,g,s,r,rfl,hu,hg,hs,hr⟩:=h
 unfold hasNumbers
 rcases hu with hu|⟨h1,h2⟩
 ·rcases hg with hg|⟨h1,h2⟩
  ·rcases hs with hs|⟨h1,h2⟩
   ·have h3:=hr hs
    subst hu hg hs h3
    exact .inl rfl
   ·right
    constructor
    ·rw [not_within h1];simp
    ·dsimp only
     rw [not_within h2];simp
  ·right
   constructor
   ·rw [not_within h1];simp
   ·dsimp only
    rw [not_within h2];simp
 ·right
  constructor
  ·rw [not_within h1];simp
  ·dsimp only
   rw [not_within h2];simp
theorem low_toE {m n:Met} (h:Low m n):toE m=toE n∧(toE m=0→m=n):=by
 rcases low_numbers h with rfl|⟨h1,h2⟩
 ·exact ⟨rfl,fun _=>rfl⟩
 ·have e1:wrong m=if within m.kind 48 54=false then 31 else if hasTexts m=false then 33 else 32:=by unfold wrong;rw [h1];simp
  have e2:wrong n=if within n.kind 48 54=false then 31 else if hasTexts n=false then 33 else 32:=by unfold wrong;rw [h2];simp
  have e3:wrong n=wrong m:=by
   obtain ⟨u,g,s,r,rfl,_⟩:=h
   rw [e1,e2];rfl
  have e4:wrong m≠0:=by
   rw [e1]
   split
   ·decide
   ·split<;>decide
  have f1:toE m=wrong m:=by unfold toE;rw [if_pos e4]
  have f2:toE n=wrong m:=by unfold toE;rw [e3,if_pos e4]
  exact ⟨f1.trans f2.symm,fun h=>absurd (f1.symm.trans h) e4⟩
theorem taken_low (r:List Rc) {m n:Met} (h: ∃ u g s,n= { m with uid:=u,gid:=g,size:=s } ∧LowN m.uid u∧LowN m.gid g∧LowN m.size s):LowO (taken r m) (taken r n):=by
 obtain ⟨u,g,s,rfl,hu,hg,hs⟩:=h
 unfold taken
 have a1:=numR_low r kUid 4611686018427387904 hu
 have a2:=numR_low r kGid 4611686018427387904 hg
 have a3:=numR_low r kSize 1099511627776 hs
 dsimp only
 revert a1 a2 a3
 generalize numR r kUid 4611686018427387904 m.uid=o1
 generalize numR r kUid 4611686018427387904 u=p1
 generalize numR r kGid 4611686018427387904 m.gid=o2
 generalize numR r kGid 4611686018427387904 g=p2
 generalize numR r kSize 1099511627776 m.size=o3
 generalize numR r kSize 1099511627776 s=p3
 generalize timeR r kTime (m.sec,m.nan)=o4
 intro a1 a2 a3
 rcases o1 with _|o1<;>rcases p1 with _|p1<;>first|exact a1.elim|skip
 ·exact trivial
 rcases o2 with _|o2<;>rcases p2 with _|p2<;>first|exact a2.elim|skip
 ·exact trivial
 rcases o3 with _|o3<;>rcases p3 with _|p3<;>first|exact a3.elim|skip
 ·exact trivial
 rcases o4 with _|o4
 ·exact trivial
 exact ⟨p1,p2,p3,_,rfl,a1,a2,a3,fun _=>rfl⟩
theorem strip_low {m n:Met} (h:Low m n):Low (strip m) (strip n):=by
 obtain ⟨u,g,s,r,rfl,hu,hg,hs,hr⟩:=h
 refine ⟨u,g,if kindOf m=48 then s else 0,if kindOf m=48 then s else 0,rfl,hu,hg, ?_,fun h=>h⟩
 show LowN (if kindOf m=48 then m.size else 0) _
 split
 ·exact hs
 ·exact LowN.refl _
theorem dig_low {m n:Met} (h:Low m n) {hd hd':Hdr} (e1:hd'.kind=hd.kind) (e2:hd'.parts=hd.parts) (e3:hd'.real=hd.real) (r:List Rc) (more:List (Int × Int)):
  LowO (dig m hd r more) (dig n hd' r more):=by
 obtain ⟨u,g,s,x,rfl,hu,hg,hs,hr⟩:=h
 unfold dig
 rw [e1,e2,e3]
 dsimp only
 by_cases hk:m.kind=48
 ·rw [if_pos hk,if_pos hk]
  generalize find r (tl kMap)=o1
  generalize find r (tl kReal)=o2
  rcases o1 with _|o1
  ·rcases o2 with _|o2
   ·dsimp only
    by_cases h83:hd.kind=83
    ·rw [if_pos h83,if_pos h83]
     exact ⟨u,g,s,hd.real,rfl,hu,hg,hs,fun _=>rfl⟩
    ·rw [if_neg h83,if_neg h83]
     exact ⟨u,g,s,x,rfl,hu,hg,hs,hr⟩
   ·exact trivial
  ·rcases o2 with _|o2
   ·exact trivial
   ·dsimp only
    generalize Sp.M.parse o1=q1
    generalize dec o2 1099511627776=q2
    rcases q1 with _|q1
    ·exact trivial
    ·rcases q2 with _|q2
     ·exact trivial
     ·exact ⟨u,g,s,q2,rfl,hu,hg,hs,fun _=>rfl⟩
 ·rw [if_neg hk,if_neg hk]
  exact ⟨u,g,s,x,rfl,hu,hg,hs,hr⟩
def clampN (n:Int):Int:=if n< -1 then -1 else n
def clampH (h:Hdr):Hdr:= { h with uid:=clampN h.uid,gid:=clampN h.gid,size:=clampN h.size }
theorem low_clamp (n:Int):LowN n (clampN n):=by
 unfold clampN LowN
 split
 ·right;omega
 ·left;rfl
theorem known_low (h:Hdr) (recs:List Rc) (names links:List ByteArray) (more:List (Int × Int)):LowO (known h recs names links more) (known (clampH h) recs names links more):=by
 unfold known
 have h1:=taken_low (merge ltB recs []) (m:=told h names links) (n:=told (clampH h) names links) ⟨_,_,_,rfl,low_clamp _,low_clamp _,low_clamp _⟩
 revert h1
 generalize taken (merge ltB recs []) (told h names links)=o
 generalize taken (merge ltB recs []) (told (clampH h) names links)=p
 intro h1
 rcases o with _|m<;>rcases p with _|n<;>first|exact h1.elim|skip
 ·exact trivial
 have h2:=dig_low (strip_low h1) (hd:=h) (hd':=clampH h) rfl rfl rfl (merge ltB recs []) more
 show LowO ((dig (strip m) h (merge ltB recs []) more).map _) ((dig (strip n) (clampH h) (merge ltB recs []) more).map _)
 revert h2
 generalize dig (strip m) h (merge ltB recs []) more=o
 generalize dig (strip n) (clampH h) (merge ltB recs []) more=p
 intro h2
 rcases o with _|m<;>rcases p with _|n<;>first|exact h2.elim|skip
 ·exact trivial
 obtain ⟨u,g,s,x,rfl,hu,hg,hs,hr⟩:=h2
 exact ⟨u,g,s,x,rfl,hu,hg,hs,hr⟩
theorem fromE_clamp (h:Hdr) (recs:List Rc) (names links:List ByteArray) (more:List (Int × Int)):fromE (clampH h) recs names links more=fromE h recs names links more:=by
 have hl:=known_low h recs names links more
 unfold fromE
 have e:(clampH h).kind=h.kind:=rfl
 rw [e]
 split
 ·rfl
 ·revert hl
  generalize known h recs names links more=o
  generalize known (clampH h) recs names links more=p
  intro hl
  rcases o with _|m<;>rcases p with _|n<;>first|exact hl.elim|skip
  ·rfl
  ·exact (low_toE hl).1.symm
theorem fromM_clamp (h:Hdr) (recs:List Rc) (names links:List ByteArray) (more:List (Int × Int)):fromM (clampH h) recs names links more=fromM h recs names links more:=by
 have hl:=known_low h recs names links more
 unfold fromM
 rw [fromE_clamp]
 by_cases h0:fromE h recs names links more=0
 ·rw [if_pos h0,if_pos h0]
  unfold fromE at h0
  split at h0
  ·cases h0
  ·revert hl h0
   generalize known h recs names links more=o
   generalize known (clampH h) recs names links more=p
   intro hl h0
   rcases o with _|m<;>rcases p with _|n<;>first|exact hl.elim|skip
   ·rfl
   ·exact ((low_toE hl).2 h0).symm
 ·rw [if_neg h0,if_neg h0]
end M
end Go.Proofs.YtjpmpjbembhldaaGreatDoor
