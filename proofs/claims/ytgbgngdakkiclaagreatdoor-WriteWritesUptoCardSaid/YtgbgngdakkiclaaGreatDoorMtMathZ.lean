/-
  Texts of one chapter, merged.
-/
import Derived.Test.YtgbgngdakkiclaaGreatDoorKX
import Derived.Test.YtgbgngdakkiclaaGreatDoorKT
import Derived.Test.YtgbgngdakkiclaaGreatDoorKS
import Derived.Test.YtgbgngdakkiclaaGreatDoorKN
set_option linter.unusedVariables false
set_option linter.unusedSimpArgs false
namespace Go.Proofs.YtgbgngdakkiclaaGreatDoor
namespace M
open Px (tl R2 ltB)
open Px.M (Rc find merge)
structure Met where
 name:ByteArray:=⟨#[]⟩
 link:ByteArray:=⟨#[]⟩
 kind:Int:=0
 mode:Int:=0
 uid:Int:=0
 gid:Int:=0
 user:ByteArray:=⟨#[]⟩
 group:ByteArray:=⟨#[]⟩
 sec:Int:=0
 nan:Int:=0
 major:Int:=0
 minor:Int:=0
 size:Int:=0
 real:Int:=0
 holes:Bool:=false
 parts:List (Int × Int):= []
 extra:List R2:= []
structure Hdr where
 name:ByteArray:=⟨#[]⟩
 mode:Int:=0
 uid:Int:=0
 gid:Int:=0
 size:Int:=0
 mtime:Int:=0
 kind:Int:=0
 link:ByteArray:=⟨#[]⟩
 way:Int:=0
 user:ByteArray:=⟨#[]⟩
 group:ByteArray:=⟨#[]⟩
 major:Int:=0
 minor:Int:=0
 pre:ByteArray:=⟨#[]⟩
 parts:List (Int × Int):= []
 more:Bool:=false
 real:Int:=0
def kPath:ByteArray:=⟨#[112,97,116,104]⟩
def kLink:ByteArray:=⟨#[108,105,110,107,112,97,116,104]⟩
def kUser:ByteArray:=⟨#[117,110,97,109,101]⟩
def kGroup:ByteArray:=⟨#[103,110,97,109,101]⟩
def kUid:ByteArray:=⟨#[117,105,100]⟩
def kGid:ByteArray:=⟨#[103,105,100]⟩
def kSize:ByteArray:=⟨#[115,105,122,101]⟩
def kTime:ByteArray:=⟨#[109,116,105,109,101]⟩
def kMap:ByteArray:=⟨#[71,78,85,46,115,112,97,114,115,101,46,109,97,112]⟩
def kReal:ByteArray:=⟨#[71,78,85,46,115,112,97,114,115,101,46,115,105,122,101]⟩
def keys:List (List UInt8):= [tl kPath,tl kLink,tl kUser,tl kGroup,tl kUid,tl kGid,tl kSize,tl kTime,tl kMap,tl kReal]
def isKey (k:List UInt8):Bool:=decide (k∈keys)
def within (n lo up:Int):Bool:=decide (lo≤n)&&decide (n≤up)
def isLink (k:Int):Bool:=k==49||k==50
def isDev (k:Int):Bool:=k==51||k==52
def noNul (l:List UInt8):Bool:=l.all fun c=> !(c==0)
def isText (s:ByteArray) (lo up:Int):Bool:=within (s.size:Int) lo up&&noNul (tl s)
def slash (l:List UInt8):Bool:=l.getLast?==some 47
def cutsAt (l:List UInt8) (i:Nat):Bool:=(l[i]?==some 47)&&decide (1≤i)&&decide (i≤155)&&decide (i+2≤l.length)&&decide (l.length≤i+101)
def cutPlace (l:List UInt8):Option Nat:=(List.range l.length).find? (cutsAt l)
def split (s:ByteArray):ByteArray × ByteArray × Bool:=
 if s.size≤100 then (⟨#[]⟩,s,true)
 else match cutPlace (tl s) with
  |some i=>(s.extract 0 i,s.extract (i+1) s.size,true)
  |none=>(⟨#[]⟩,s.extract 0 100,false)
def dec (t:List UInt8) (most:Int):Option Int:=
 match Lib.atoiAll t with
 | .ok n=>if within n 0 most=true∧Lib.itoa n=t then some n else none
 |_=>none
def lastOf (l:List ByteArray) (o:ByteArray):ByteArray:=l.getLast?.getD o
def nameOf (h:Hdr):ByteArray:=if h.pre.size=0 then h.name else h.pre++⟨#[47]⟩++h.name
def told (h:Hdr) (names links:List ByteArray):Met:=
 { name:=lastOf names (nameOf h),link:=lastOf links h.link,kind:=h.kind,mode:=h.mode,uid:=h.uid,gid:=h.gid,user:=h.user,group:=h.group,sec:=(St.M.norm (h.mtime,0)).1,nan:=(St.M.norm (h.mtime,0)).2,major:=h.major,minor:=h.minor,size:=h.size }
def textR (r:List Rc) (k:ByteArray) (o:ByteArray):ByteArray:=
 match find r (tl k) with
 |some v=>⟨v.toArray⟩
 |none=>o
def numR (r:List Rc) (k:ByteArray) (most o:Int):Option Int:=
 match find r (tl k) with
 |some v=>dec v most
 |none=>some o
def timeR (r:List Rc) (k:ByteArray) (o:St.M.Tm):Option St.M.Tm:=
 match find r (tl k) with
 |some v=>(St.M.parse v).map St.M.norm
 |none=>some o
def taken (r:List Rc) (m:Met):Option Met:=
 match numR r kUid 4611686018427387904 m.uid,numR r kGid 4611686018427387904 m.gid,numR r kSize 1099511627776 m.size,timeR r kTime (m.sec,m.nan) with
 |some u,some g,some s,some t=>some { m with name:=textR r kPath m.name,link:=textR r kLink m.link,user:=textR r kUser m.user,group:=textR r kGroup m.group,uid:=u,gid:=g,size:=s,sec:=t.1,nan:=t.2 }
 |_,_,_,_=>none
def kindOf (m:Met):Int:=
 if (if m.kind=55∨m.kind=83 then 48 else m.kind)=48∧slash (tl m.name)=true then 53 else if m.kind=55∨m.kind=83 then 48 else m.kind
def strip (m:Met):Met:=
 { m with kind:=kindOf m,link:=if isLink (kindOf m) then m.link else ⟨#[]⟩,major:=if isDev (kindOf m) then m.major else 0,minor:=if isDev (kindOf m) then m.minor else 0,size:=if kindOf m=48 then m.size else 0,real:=if kindOf m=48 then m.size else 0 }
def some_ (l:List (Int × Int)):List (Int × Int):=l.filter fun p=> !(p.2==0)
def dig (m:Met) (h:Hdr) (r:List Rc) (more:List (Int × Int)):Option Met:=
 if m.kind=48 then
  match find r (tl kMap),find r (tl kReal) with
  |none,none=>if h.kind=83 then some { m with holes:=true,parts:=some_ (h.parts++more),real:=h.real } else some m
  |some t,some s=>
   match Sp.M.parse t,dec s 1099511627776 with
   |some l,some n=>some { m with holes:=true,parts:=some_ l,real:=n }
   |_,_=>none
  |_,_=>none
 else some m
def mk (r:Rc):R2:=(⟨r.1.toArray⟩,⟨r.2.toArray⟩)
def rc (r:R2):Rc:=(tl r.1,tl r.2)
def hasTexts (m:Met):Bool:=
 !(m.kind==48&&slash (tl m.name))&&(isText m.name 1 4096&&(isText m.link (if isLink m.kind then 1 else 0) (if isLink m.kind then 4096 else 0)&&(isText m.user 0 4096&&isText m.group 0 4096)))
def hasNumbers (m:Met):Bool:=
 within m.mode 0 2097151&&(within m.major 0 (if isDev m.kind then 2097151 else 0)&&(within m.minor 0 (if isDev m.kind then 2097151 else 0)&&(within m.uid 0 4611686018427387904&&(within m.gid 0 4611686018427387904&&
  (decide (St.M.norm (m.sec,m.nan)=(m.sec,m.nan))&&(within m.size 0 (if m.kind=48 then 1099511627776 else 0)&&(m.holes||m.real==m.size&&m.parts.isEmpty)))))))
def extraOk (last:List UInt8) (r:R2):Bool:=Px.M.right (rc r)&&(!isKey (tl r.1)&&(!(r.2.size==0)&&ltB last (tl r.1)))
def isExtra:List UInt8→List R2→Bool
 |_, []=>true
 |last,r::l=>extraOk last r&&isExtra (tl r.1) l
def hasHoles (m:Met):Bool:=m.kind==48&&(m.parts.all (fun p=> !(p.2==0))&&Sp.M.check m.parts m.size m.real==0)
def wrong (m:Met):Nat:=
 if within m.kind 48 54=false then 31
 else if hasTexts m=false then 33
 else if hasNumbers m=false then 32
 else if isExtra [] m.extra=false∨(m.holes=true∧hasHoles m=false) then 34
 else 0
def fits (n:Int) (wide:Int):Bool:=Nm.M.octFits n wide
def gName (m:Met):List Rc:=if (split m.name).2.2=true then [] else [(tl kPath,tl m.name)]
def gText (k s:ByteArray) (wide:Nat):List Rc:=if s.size≤wide then [] else [(tl k,tl s)]
def gNum (k:ByteArray) (n:Int) (wide:Int):List Rc:=if fits n wide=true then [] else [(tl k,Lib.itoa n)]
def timeFits (m:Met):Bool:=fits m.sec 12&&m.nan==0
def gTime (m:Met):List Rc:=if timeFits m=true then [] else [(tl kTime,St.M.pr (St.M.norm (m.sec,m.nan)))]
def layout (l:List (Int × Int)):List UInt8:=if l= [] then [48,44,48] else Sp.M.print l
def gHoles (m:Met):List Rc:=if m.holes=true then [(tl kMap,layout m.parts),(tl kReal,Lib.itoa m.real)] else []
def gives (m:Met):List Rc:=
 gName m++(gText kLink m.link 100++(gText kUser m.user 32++(gText kGroup m.group 32++(gNum kUid m.uid 8++(gNum kGid m.gid 8++(gNum kSize m.size 12++(gTime m++gHoles m)))))))
def recsOf (m:Met):List Rc:=merge ltB (gives m) (m.extra.map rc)
def head (m:Met):Hdr:=
 { way:=1,kind:=m.kind,mode:=m.mode,major:=m.major,minor:=m.minor,pre:=(split m.name).1,name:=(split m.name).2.1,link:=m.link.extract 0 100,user:=m.user.extract 0 32,group:=m.group.extract 0 32,uid:=if fits m.uid 8 then m.uid else 0,gid:=if fits m.gid 8 then m.gid else 0,size:=if fits m.size 12 then m.size else 0,mtime:=if timeFits m then m.sec else 0 }
def toE (m:Met):Nat:=if wrong m≠0 then wrong m else Px.M.printE (recsOf m)
def toH (m:Met):Hdr:=if toE m=0 then head m else {}
def toR (m:Met):List Rc:=if toE m=0 then recsOf m else []
def known (h:Hdr) (recs:List Rc) (names links:List ByteArray) (more:List (Int × Int)):Option Met:=
 ((taken (merge ltB recs []) (told h names links)).bind fun m=>dig (strip m) h (merge ltB recs []) more).map
   fun m=> { m with extra:=((merge ltB recs []).filter fun r=> !isKey r.1).map mk }
end M
end Go.Proofs.YtgbgngdakkiclaaGreatDoor

namespace Go.Proofs.YtgbgngdakkiclaaGreatDoor
namespace M
open Px (tl R2 ltB ltB_ord)
open Px.M (Rc find merge Rising find_cons find_app find_merge merge_rising rising_ext)
theorem tl_inj' {a b:ByteArray} (h:tl a=tl b):a=b:=by
 cases a;cases b
 unfold tl at h
 simp only at h
 rw [Array.toList_inj.1 h]
theorem mk_rc (r:R2):mk (rc r)=r:=rfl
theorem rc_mk (r:Rc):rc (mk r)=r:=rfl
theorem map_mk_rc (l:List R2):(l.map rc).map mk=l:=by
 rw [List.map_map]
 conv=>rhs;rw [←List.map_id l]
 exact List.map_congr_left fun r _=>mk_rc r
theorem find_one (k' v k:List UInt8):find [(k',v)] k=if k'=k then some v else none:=by
 rw [find_cons];rfl
theorem extra_all: ∀ {l:List R2} {last:List UInt8},isExtra last l=true→ ∀ r∈l,extraOk [] r=true∧ltB last (tl r.1)=true
 | [],_,_,r,hr=>absurd hr (by simp)
 |x::l,last,h,r,hr=>by
  unfold isExtra at h
  rw [Bool.and_eq_true] at h
  have key: ∀ y,extraOk last y=true→extraOk [] y=true∧ltB last (tl y.1)=true:=by
   intro y hy
   unfold extraOk at hy⊢
   simp only [Bool.and_eq_true] at hy⊢
   refine ⟨⟨hy.1,hy.2.1,hy.2.2.1, ?_⟩,hy.2.2.2⟩
   cases hl:tl y.1 with
   |nil=>
    have:=hy.2.2.2
    rw [hl] at this
    unfold ltB at this
    simp at this
   |cons c t=>unfold ltB;simp
  rcases List.mem_cons.1 hr with rfl|hr
  ·exact key _ h.1
  ·have:=extra_all h.2 r hr
   refine ⟨this.1,ltB_ord.tr _ _ _ (key _ h.1).2 this.2⟩
theorem extra_rising: ∀ {l:List R2} {last:List UInt8},isExtra last l=true→Rising ltB (l.map rc)
 | [],_,_=>trivial
 |x::l,last,h=>by
  unfold isExtra at h
  rw [Bool.and_eq_true] at h
  refine ⟨?_,extra_rising h.2⟩
  intro y hy
  obtain ⟨z,hz,rfl⟩:=List.mem_map.1 hy
  exact (extra_all h.2 z hz).2
theorem find_if (c:Prop) [Decidable c] (k' v k:List UInt8):find (if c then [] else [(k',v)]) k=if c then none else if k'=k then some v else none:=by
 by_cases h:c
 ·rw [if_pos h,if_pos h];rfl
 ·rw [if_neg h,if_neg h,find_one]
theorem find_holes (m:Met) (k:List UInt8):find (gHoles m) k=if m.holes=true then (if tl kReal=k then some (Lib.itoa m.real) else if tl kMap=k then some (layout m.parts) else none) else none:=by
 unfold gHoles
 by_cases h:m.holes=true
 ·rw [if_pos h,if_pos h,find_cons,find_one]
  by_cases h1:tl kReal=k
  ·rw [if_pos h1,if_pos h1];rfl
  ·rw [if_neg h1,if_neg h1];rfl
 ·rw [if_neg h,if_neg h];rfl
theorem find_gives (m:Met) (k:List UInt8):find (gives m) k=
  ((((((((find (gHoles m) k).or (find (gTime m) k)).or (find (gNum kSize m.size 12) k)).or (find (gNum kGid m.gid 8) k)).or (find (gNum kUid m.uid 8) k)).or (find (gText kGroup m.group 32) k)).or (find (gText kUser m.user 32) k)).or (find (gText kLink m.link 100) k)).or (find (gName m) k):=by
 unfold gives
 simp only [find_app]
theorem find_unknown (m:Met) {k:List UInt8} (h:isKey k=false):find (gives m) k=none:=by
 have hk:k∉keys:=by unfold isKey at h;simpa using h
 unfold keys at hk
 simp only [List.mem_cons,not_or,List.not_mem_nil,not_false_eq_true,and_true] at hk
 obtain ⟨h1,h2,h3,h4,h5,h6,h7,h8,h9,h10⟩:=hk
 rw [find_gives,find_holes]
 unfold gTime gNum gText gName
 simp only [find_if,if_neg (Ne.symm h1),if_neg (Ne.symm h2),if_neg (Ne.symm h3),if_neg (Ne.symm h4),if_neg (Ne.symm h5),if_neg (Ne.symm h6),if_neg (Ne.symm h7),if_neg (Ne.symm h8),if_neg (Ne.symm h9),if_neg (Ne.symm h10),ite_self,Option.or_none]
structure Right (m:Met):Prop where
 kind:48≤m.kind∧m.kind≤54
 noSlash:m.kind=48→slash (tl m.name)=false
 name:1≤m.name.size∧m.name.size≤4096
 link:if isLink m.kind=true then 1≤m.link.size∧m.link.size≤4096 else m.link.size=0
 user:m.user.size≤4096
 group:m.group.size≤4096
 nuls:noNul (tl m.name)=true∧noNul (tl m.link)=true∧noNul (tl m.user)=true∧noNul (tl m.group)=true
 mode:0≤m.mode∧m.mode≤2097151
 major:0≤m.major∧m.major≤if isDev m.kind=true then 2097151 else 0
 minor:0≤m.minor∧m.minor≤if isDev m.kind=true then 2097151 else 0
 uid:0≤m.uid∧m.uid≤4611686018427387904
 gid:0≤m.gid∧m.gid≤4611686018427387904
 time:St.M.norm (m.sec,m.nan)=(m.sec,m.nan)
 size:0≤m.size∧m.size≤if m.kind=48 then 1099511627776 else 0
 flat:m.holes=false→m.real=m.size∧m.parts= []
 extra:isExtra [] m.extra=true
 holes:m.holes=true→m.kind=48∧(m.parts.all fun p=> !(p.2==0))=true∧Sp.M.check m.parts m.size m.real=0
theorem within_iff {n lo up:Int} :within n lo up=true↔lo≤n∧n≤up:=by unfold within;simp
theorem right_of {m:Met} (h:wrong m=0):Right m:=by
 unfold wrong at h
 split at h
 ·cases h
 rename_i h1
 split at h
 ·cases h
 rename_i h2
 split at h
 ·cases h
 rename_i h3
 split at h
 ·cases h
 rename_i h4
 rw [Bool.not_eq_false] at h1 h2 h3
 rw [not_or,Bool.not_eq_false,not_and,Bool.not_eq_false] at h4
 unfold hasTexts isText at h2
 unfold hasNumbers at h3
 simp only [Bool.and_eq_true,Bool.not_eq_true',within_iff,Bool.or_eq_true,decide_eq_true_eq,Bool.and_eq_false_imp,beq_iff_eq,List.isEmpty_iff] at h1 h2 h3
 obtain ⟨t1,⟨t2,t3⟩,⟨t4,t5⟩,⟨t6,t7⟩,t8,t9⟩:=h2
 obtain ⟨n1,n2,n3,n4,n5,n6,n7,n8⟩:=h3
 refine { kind:=h1,noSlash:=t1,name:=by omega,link:= ?_,user:=by omega,group:=by omega,nuls:=⟨t3,t5,t7,t9⟩,mode:=n1,major:=n2,minor:=n3,uid:=n4,gid:=n5,time:=n6,size:=n7,flat:= ?_,extra:=h4.1,holes:= ?_ }
 ·by_cases hl:isLink m.kind=true
  ·rw [if_pos hl] at t4⊢;rw [if_pos hl] at t4;omega
  ·rw [if_neg hl] at t4⊢;rw [if_neg hl] at t4;omega
 ·intro hh
  rcases n8 with n8|n8
  ·rw [hh] at n8;cases n8
  ·exact n8
 ·intro hh
  have:=h4.2 hh
  unfold hasHoles at this
  simp only [Bool.and_eq_true,beq_iff_eq] at this
  exact this
theorem extra_unknown {m:Met} (R:Right m): ∀ r∈m.extra.map rc,isKey r.1=false∧r.2≠ []:=by
 intro r hr
 obtain ⟨x,hx,rfl⟩:=List.mem_map.1 hr
 have:=(extra_all R.extra x hx).1
 unfold extraOk at this
 simp only [Bool.and_eq_true,Bool.not_eq_true',beq_eq_false_iff_ne] at this
 refine ⟨this.2.1, ?_⟩
 intro e
 apply this.2.2.1
 show x.2.size=0
 have e':tl x.2= []:=e
 have:=congrArg List.length e'
 exact this
theorem size_ext (s:ByteArray) (i j:Nat):tl (s.extract i j)=((tl s).take j).drop i:=by
 unfold tl
 rw [ByteArray.data_extract,Array.toList_extract]
 simp [List.extract,List.drop_take]
theorem extract_all {s:ByteArray} {n:Nat} (h:s.size≤n):s.extract 0 n=s:=by
 apply tl_inj'
 rw [size_ext,List.drop_zero,List.take_of_length_le (by rw [Px.tl_len];exact h)]
theorem cutPlace_some {l:List UInt8} {i:Nat} (h:cutPlace l=some i):cutsAt l i=true:=by
 unfold cutPlace at h
 exact List.find?_some h
theorem long_name {m:Met} (h:(split m.name).2.2=false):100<m.name.size:=by
 unfold split at h
 by_cases hs:m.name.size≤100
 ·rw [if_pos hs] at h;cases h
 ·omega
theorem itoa_ne {n:Int} (h0:0≤n):Lib.itoa n≠ []:=by
 obtain ⟨k,rfl⟩:=Int.eq_ofNat_of_zero_le h0
 rw [Lib.itoa_nonneg]
 intro e
 have:=congrArg List.length e
 rw [Lib.decDigits_length] at this
 have:=Lib.nDigits_pos k
 simp at*
 omega
theorem pr_ne (t:St.M.Tm):St.M.pr t≠ []:=by
 intro e
 have:=congrArg List.length e
 unfold St.M.pr at this
 simp only [List.length_append,Lib.decDigits_length,List.length_nil] at this
 have:=Lib.nDigits_pos (St.M.sgn (St.M.below0 t) t).1.toNat
 omega
theorem walk_small {real:Int} : ∀ {l:List (Int × Int)} {e s:Int} {q:Int × Int},0≤e→Sp.M.walk real e s l=some q→ ∀ p∈l,0≤p.1∧0≤p.2∧p.1+p.2≤real
 | [],_,_,_,_,_,p,hp=>absurd hp (by simp)
 |x::l,e,s,q,h0,h,p,hp=>by
  unfold Sp.M.walk at h
  split at h
  ·cases h
  ·rename_i hx
   rcases List.mem_cons.1 hp with rfl|hp
   ·omega
   ·exact walk_small (by omega) h p hp
theorem check_facts {l:List (Int × Int)} {s r:Int} (h:Sp.M.check l s r=0):l.length≤1000∧0≤r∧r≤1099511627776∧Sp.M.small l:=by
 unfold Sp.M.check at h
 split at h
 ·cases h
 split at h
 ·cases h
 rename_i h1 h2
 refine ⟨by omega,by omega,by omega, ?_⟩
 cases hw:Sp.M.walk r 0 0 l with
 |none=>rw [hw] at h;cases h
 |some q=>
  intro p hp
  have:=walk_small (Int.le_refl 0) hw p hp
  omega
theorem layout_ne (l:List (Int × Int)):layout l≠ []:=by
 unfold layout
 split
 ·simp
 ·rename_i h;exact Sp.M.print_ne h
theorem toE_wrong {m:Met} (h:toE m=0):wrong m=0:=by
 unfold toE at h
 split at h
 ·rename_i h1;exact absurd h h1
 ·rename_i h1;simpa using h1
end M
end Go.Proofs.YtgbgngdakkiclaaGreatDoor

namespace Go.Proofs.YtgbgngdakkiclaaGreatDoor
namespace M
open Px (tl R2 ltB ltB_ord)
open Px.M (Rc find merge Rising)
theorem split_room (s:ByteArray):(split s).1.size≤155∧(split s).2.1.size≤100:=by
 unfold split
 by_cases hs:s.size≤100
 ·rw [if_pos hs]
  exact ⟨by show (0:Nat)≤155;omega,hs⟩
 ·rw [if_neg hs]
  cases hc:cutPlace (tl s) with
  |none=>
   refine ⟨by show (0:Nat)≤155;omega, ?_⟩
   show (s.extract 0 100).size≤100
   rw [ByteArray.size_extract];omega
  |some i=>
   have hi:=cutPlace_some hc
   unfold cutsAt at hi
   simp only [Bool.and_eq_true,decide_eq_true_eq,beq_iff_eq] at hi
   obtain ⟨⟨⟨⟨h1,h2⟩,h3⟩,h4⟩,h5⟩:=hi
   rw [Px.tl_len] at h5
   refine ⟨?_, ?_⟩
   ·show (s.extract 0 i).size≤155
    rw [ByteArray.size_extract];omega
   ·show (s.extract (i+1) s.size).size≤100
    rw [ByteArray.size_extract];omega
end M
end Go.Proofs.YtgbgngdakkiclaaGreatDoor

namespace Go.Proofs.YtgbgngdakkiclaaGreatDoor
namespace M
open Px (tl R2 ltB ltB_ord)
open Px.M (Rc find merge)
theorem nDigits_le: ∀ (k n:Nat),n<10^k→1≤k→Lib.nDigits n≤k:=by
 intro k
 induction k with
 |zero=>intro n _ h;omega
 |succ k ih=>
  intro n h _
  by_cases h1:n<10
  ·rw [Lib.nDigits_small h1];omega
  ·rw [Lib.nDigits,dif_neg h1]
   have hk:1≤k:=by
    rcases Nat.eq_zero_or_pos k with h0|h0
    ·subst h0;simp at h;omega
    ·exact h0
   have:=ih (n/10) (by rw [Nat.pow_succ] at h;omega) hk
   omega
theorem itoa_len {n:Int} (h0:0≤n) (h1:n≤9223372036854775807):(Lib.itoa n).length≤19:=by
 obtain ⟨k,rfl⟩:=Int.eq_ofNat_of_zero_le h0
 rw [Lib.itoa_nonneg,Lib.decDigits_length]
 exact nDigits_le 19 k (by omega) (by decide)
theorem trim0_len (l:List UInt8):(St.M.trim0 l).length≤l.length:=by
 unfold St.M.trim0
 rw [List.length_reverse]
 have h:=(List.dropWhile_sublist (fun c=>c==(48:UInt8)) (l:=l.reverse)).length_le
 rw [List.length_reverse] at h
 exact h
theorem pr_len (t:St.M.Tm):(St.M.pr (St.M.norm t)).length≤100:=by
 have ok:=St.M.norm_ok t
 generalize St.M.norm t=u at*
 obtain ⟨p1,p2,p3,p4,_⟩:=St.M.sgn_parts ok
 unfold St.M.pr
 rw [List.length_append,List.length_append,Lib.decDigits_length]
 have h1:(if St.M.below0 u=true then ([45]:List UInt8) else []).length≤1:=by split<;>simp
 have h2:=nDigits_le 16 (St.M.sgn (St.M.below0 u) u).1.toNat (by omega) (by decide)
 have h3:(St.M.fracText (St.M.sgn (St.M.below0 u) u).2.toNat).length≤20:=by
  unfold St.M.fracText
  split
  ·simp
  ·rw [List.length_cons]
   have h4:=trim0_len (St.M.pad9 (St.M.sgn (St.M.below0 u) u).2.toNat)
   have h5:(St.M.pad9 (St.M.sgn (St.M.below0 u) u).2.toNat).length≤18:=by
    unfold St.M.pad9
    rw [List.length_append,List.length_replicate,Lib.decDigits_length]
    have:=nDigits_le 9 (St.M.sgn (St.M.below0 u) u).2.toNat (by omega) (by decide)
    omega
   omega
 omega
theorem layout_len {l:List (Int × Int)} (h:l.length≤1000):(layout l).length≤30000:=by
 unfold layout
 split
 ·simp
 ·have:=Sp.M.print_len l
  omega
def shortR (r:Rc):Prop:=r.1.length≤100∧r.2.length≤1048576
theorem short_if {c:Prop} [Decidable c] {k v:List UInt8} (hk:k.length≤100) (hv:v.length≤1048576): ∀ r∈(if c then [] else [(k,v)]:List Rc),shortR r:=by
 intro r hr
 split at hr
 ·simp at hr
 ·rw [List.mem_singleton] at hr
  subst hr
  exact ⟨hk,hv⟩
theorem gives_short {m:Met} (R:Right m): ∀ r∈gives m,shortR r:=by
 have hl:m.link.size≤4096:=by
  have:=R.link
  split at this<;>omega
 have hsz:m.size≤1099511627776:=by
  have:=R.size.2
  split at this<;>omega
 intro r hr
 unfold gives at hr
 simp only [List.mem_append] at hr
 rcases hr with h|h|h|h|h|h|h|h|h
 ·unfold gName at h;exact short_if (by decide) (by have:=R.name.2;show m.name.size≤_;omega) r h
 ·unfold gText at h;exact short_if (by decide) (show m.link.size≤_ by omega) r h
 ·unfold gText at h;exact short_if (by decide) (by have:=R.user;show m.user.size≤_;omega) r h
 ·unfold gText at h;exact short_if (by decide) (by have:=R.group;show m.group.size≤_;omega) r h
 ·unfold gNum at h;exact short_if (by decide) (Nat.le_trans (itoa_len R.uid.1 (by have:=R.uid.2;omega)) (by decide)) r h
 ·unfold gNum at h;exact short_if (by decide) (Nat.le_trans (itoa_len R.gid.1 (by have:=R.gid.2;omega)) (by decide)) r h
 ·unfold gNum at h;exact short_if (by decide) (Nat.le_trans (itoa_len R.size.1 (by omega)) (by decide)) r h
 ·unfold gTime at h;exact short_if (by decide) (Nat.le_trans (pr_len _) (by decide)) r h
 ·unfold gHoles at h
  split at h
  ·rename_i hh
   obtain ⟨_,_,h3⟩:=R.holes hh
   obtain ⟨c1,c2,c3,_⟩:=check_facts h3
   simp only [List.mem_cons,List.not_mem_nil,or_false] at h
   rcases h with rfl|rfl
   ·exact ⟨show (tl kMap).length≤100 by decide,Nat.le_trans (layout_len c1) (by decide)⟩
   ·exact ⟨show (tl kReal).length≤100 by decide,Nat.le_trans (itoa_len c2 (by omega)) (by decide)⟩
  ·simp at h
theorem gives_len (m:Met):(gives m).length≤10:=by
 unfold gives
 simp only [List.length_append]
 have one: ∀ (c:Prop) [Decidable c] (x:Rc),(if c then [] else [x]:List Rc).length≤1:=by intro c _ x;split<;>simp
 have h1:(gName m).length≤1:=by unfold gName;exact one _ _
 have h2:(gText kLink m.link 100).length≤1:=by unfold gText;exact one _ _
 have h3:(gText kUser m.user 32).length≤1:=by unfold gText;exact one _ _
 have h4:(gText kGroup m.group 32).length≤1:=by unfold gText;exact one _ _
 have h5:(gNum kUid m.uid 8).length≤1:=by unfold gNum;exact one _ _
 have h6:(gNum kGid m.gid 8).length≤1:=by unfold gNum;exact one _ _
 have h7:(gNum kSize m.size 12).length≤1:=by unfold gNum;exact one _ _
 have h8:(gTime m).length≤1:=by unfold gTime;exact one _ _
 have h9:(gHoles m).length≤2:=by unfold gHoles;split<;>simp
 omega
theorem merge_mem {l o:List Rc} {r:Rc} (h:r∈merge ltB l o):r∈l∨r∈o:=by
 have h1:=Px.M.find_mem_rising ltB_ord (Px.M.merge_rising ltB_ord l o) h
 rw [Px.M.find_merge ltB_ord] at h1
 cases ho:find o r.1 with
 |some v=>
  rw [ho] at h1
  right
  have:v=r.2:=by
   cases v with
   |nil=>cases h1
   |cons c t=>exact Option.some.inj h1
  subst this
  exact Px.M.mem_of_find ho
 |none=>
  rw [ho] at h1
  left
  cases hl:find l r.1 with
  |none=>rw [hl] at h1;cases h1
  |some v=>
   rw [hl] at h1
   have:v=r.2:=by
    cases v with
    |nil=>cases h1
    |cons c t=>exact Option.some.inj h1
   subst this
   exact Px.M.mem_of_find hl
end M
end Go.Proofs.YtgbgngdakkiclaaGreatDoor
