/-
  Texts of one chapter, merged.
-/
import Derived.Test.YtgbgngdakkiclaaGreatDoorMtDig
import Derived.Test.YtgbgngdakkiclaaGreatDoorMtDelRZ
import Derived.Test.YtgbgngdakkiclaaGreatDoorMtTo
import Derived.Test.YtgbgngdakkiclaaGreatDoorMtMathZ
set_option linter.unusedVariables false
set_option linter.unusedSimpArgs false
namespace Go.Proofs.YtgbgngdakkiclaaGreatDoor
open Go.RowKit Go.Lib
open Px (R2 tl)
def stepM (r:List Px.M.Rc) (i:Nat) (m:M.Met):Option M.Met:=
 match Px.M.find r (tl (key i)) with
 |none=>some m
 |some v=>if takeOk ⟨v.toArray⟩ i=true then some (takeM ⟨v.toArray⟩ m i) else none
def steps (r:List Px.M.Rc):Nat→M.Met→Option M.Met
 |0,m=>some m
 |i+1,m=>(steps r i m).bind (stepM r i)
end Go.Proofs.YtgbgngdakkiclaaGreatDoor

namespace Go.Proofs.YtgbgngdakkiclaaGreatDoor
open Go.RowKit Go.Lib
open Px (R2 tl)
def isI64 (n:Int):Prop:= -9223372036854775808≤n∧n≤9223372036854775807
structure Fit1 (m:M.Met):Prop where
 kind:0≤m.kind∧m.kind≤255
 name:m.name.size≤1048576
 link:m.link.size≤1048576
 user:m.user.size≤1048576
 group:m.group.size≤1048576
 mode:isI64 m.mode
 uid:isI64 m.uid
 gid:isI64 m.gid
 sec:isI64 m.sec
 nan:isI64 m.nan
 major:isI64 m.major
 minor:isI64 m.minor
 sz:isI64 m.size
 real:isI64 m.real
end Go.Proofs.YtgbgngdakkiclaaGreatDoor

namespace Go.Proofs.YtgbgngdakkiclaaGreatDoor
open Go.RowKit Go.Lib
open Px (R2 tl)
attribute [local go_sem ↓] add_plain
structure FIn (w:World) (h:M.Hdr) (hp:Value) (l:List R2) (names links:List ByteArray) (more:List (Int × Int)) (A An Al Am:Option Addr):Prop where
 rparts: ∃ A c,hp= .slice A h.parts.length c∧Sp.RdP w w.heap.size A h.parts.length h.parts
 rrecs:Px.RdR w w.heap.size A l
 rnames:RdT w w.heap.size An names
 rlinks:RdT w w.heap.size Al links
 rmore:Sp.RdP w w.heap.size Am more.length more
 nparts:h.parts.length≤500000∧more.length≤500000
 nrecs:l.length≤500000
 nnames:names.length≤1048576∧links.length≤1048576
 fits: ∀ r∈l,r.1.size≤1048576∧r.2.size≤1048576
 kind:0≤h.kind∧h.kind≤255
 pn:h.pre.size+h.name.size<1000000
 texts:h.link.size≤1048576∧h.user.size≤1048576∧h.group.size≤1048576
 tnames:(∀ x∈names,x.size≤1048576)∧(∀ x∈links,x.size≤1048576)
 ints:isI64 h.mode∧isI64 h.uid∧isI64 h.gid∧isI64 h.major∧isI64 h.minor∧isI64 h.size∧isI64 h.real
 i64s:Sp.M.i64s h.parts∧Sp.M.i64s more
structure FrInv (w wf wr:World) (h:M.Hdr) (hp:Value) (m:M.Met) (g hi:Nat) (A:Option Addr) (c:Nat) (rs:List R2):Prop where
 met:MB wr g m (.slice none 0 0) (.slice none 0 0)
 res:MB wr (w.heap.size+1) {} (.slice none 0 0) (.slice none 0 0)
 hdr:HB wr w.heap.size h hp
 still:Still (g+1) hi wf wr
 own:Px.OwnR wr (g+1) (.slice A rs.length c) rs
 below:Below w.heap.size w wr
 gl:w.heap.size+1<g
 gh:g<hi
section
variable {w wf wr wr':World} {h:M.Hdr} {hp:Value} {m m':M.Met} {g hi:Nat} {A:Option Addr} {c:Nat} {rs:List R2}
theorem FrInv.his (I:FrInv w wf wr h hp m g hi A c rs):hi≤wr.heap.size:=I.still.1
theorem FrInv.later (I:FrInv w wf wr h hp m g hi A c rs) (hb:Below wr.heap.size wr wr'):FrInv w wf wr' h hp m g hi A c rs where
 met:=I.met.below hb (by have:=I.his;have:=I.gh;omega)
 res:=I.res.below hb (by have:=I.his;have:=I.gh;have:=I.gl;omega)
 hdr:=I.hdr.below hb (by have:=I.his;have:=I.gh;have:=I.gl;omega)
 still:=I.still.below hb
 own:=I.own.below hb
 below:=I.below.trans (hb.mono I.below.size)
 gl:=I.gl
 gh:=I.gh
theorem FrInv.take (I:FrInv w wf wr h hp m g hi A c rs) (hM:MB wr' g m' (.slice none 0 0) (.slice none 0 0)) (hF:Fg g wr wr'):FrInv w wf wr' h hp m' g hi A c rs where
 met:=hM
 res:=I.res.of_block (hF.block _ (by have:=I.his;have:=I.gh;have:=I.gl;omega) (by have:=I.gl;omega))
 hdr:=I.hdr.of_block (hF.block _ (by have:=I.his;have:=I.gh;have:=I.gl;omega) (by have:=I.gl;omega))
 still:=I.still.fg hF (Nat.lt_succ_self _)
 own:=own_fg I.own hF (Nat.lt_succ_self _)
 below:=hF.below I.below (by have:=I.gl;omega) I.below.size
 gl:=I.gl
 gh:=I.gh
end
end Go.Proofs.YtgbgngdakkiclaaGreatDoor

namespace Go.Proofs.YtgbgngdakkiclaaGreatDoor
open Go.RowKit Go.Lib
open Px (R2 tl)
theorem isI64_le {n:Int} {k:Int} (h:0≤n∧n≤k) (hk:k≤9223372036854775807):isI64 n:=by unfold isI64;omega
theorem isI64_0:isI64 0:=by unfold isI64;omega
theorem min_plain {w:World} {m:M.Met} (f:Fit1 m) (hp:m.parts= []) (he:m.extra= []):MIn w m (.slice none 0 0) (.slice none 0 0) where
 parts:=⟨none,0,by rw [hp];rfl,by rw [hp];exact Sp.RdP.none_⟩
 extra:=⟨none,0,by rw [he];rfl,by rw [he];exact Px.RdR.none_⟩
 nparts:=by rw [hp];exact Nat.zero_le _
 nextra:=by rw [he];exact Nat.zero_le _
 i64s:=by rw [hp];exact fun p hp=>by cases hp
 fits:=by rw [he];exact fun r hr=>by cases hr
 kind:=f.kind
 texts:=⟨f.name,f.link,f.user,f.group⟩
 ints:=⟨f.mode,f.uid,f.gid,f.sec,f.nan,f.major,f.minor,f.sz,f.real⟩
theorem recs_len {l:List Px.M.Rc} (h:Px.M.printE l=0):l.length≤1000:=by
 unfold Px.M.printE at h
 split at h
 ·cases h
 ·split at h
  ·cases h
  ·omega
theorem toH_parts (m:M.Met):(M.toH m).parts= []:=by
 unfold M.toH
 split<;>rfl
theorem extract_le (s:ByteArray) (k:Nat):(s.extract 0 k).size≤s.size:=by
 rw [ByteArray.size_extract];omega
theorem isI64_if {c:Bool} {n:Int} (h:isI64 n):isI64 (if c=true then n else 0):=by
 split
 ·exact h
 ·exact isI64_0
theorem fin_to {w:World} {m:M.Met} (hf: ∀ r∈m.extra,r.1.size≤1048576∧r.2.size≤1048576) {A:Option Addr} (hr:Px.RdR w w.heap.size A ((M.toR m).map M.mk)):
  FIn w (M.toH m) (.slice none 0 0) ((M.toR m).map M.mk) [] [] [] A none none none:=by
 have hp:=toH_parts m
 have base: ∀ {h:M.Hdr},M.toH m=h→(0≤h.kind∧h.kind≤255)→(h.pre.size+h.name.size<1000000)→(h.link.size≤1048576∧h.user.size≤1048576∧h.group.size≤1048576)→
   (isI64 h.mode∧isI64 h.uid∧isI64 h.gid∧isI64 h.major∧isI64 h.minor∧isI64 h.size∧isI64 h.real)→(M.toR m).length≤1000→(∀ r∈(M.toR m).map M.mk,r.1.size≤1048576∧r.2.size≤1048576)→
   FIn w (M.toH m) (.slice none 0 0) ((M.toR m).map M.mk) [] [] [] A none none none:=by
  rintro h rfl h1 h2 h3 h4 h5 h6
  exact {
   rparts:=⟨none,0,by rw [hp];rfl,by rw [hp];exact Sp.RdP.none_⟩
   rrecs:=hr
   rnames:=fun hn=>absurd hn (by simp)
   rlinks:=fun hn=>absurd hn (by simp)
   rmore:=Sp.RdP.none_
   nparts:=by rw [hp];simp
   nrecs:=by rw [List.length_map];omega
   nnames:=by simp
   fits:=h6
   kind:=h1
   pn:=h2
   texts:=h3
   tnames:=⟨fun x hx=>(by cases hx),fun x hx=>(by cases hx)⟩
   ints:=h4
   i64s:=⟨by rw [hp];exact (fun p hp=>by cases hp),fun p hp=>(by cases hp)⟩ }
 by_cases he:M.toE m=0
 ·have R:=M.right_of (M.toE_wrong he)
  have hH:M.toH m=M.head m:=by unfold M.toH;rw [if_pos he]
  have hR:M.toR m=M.recsOf m:=by unfold M.toR;rw [if_pos he]
  have hE:Px.M.printE (M.recsOf m)=0:=by
   have h:=he
   unfold M.toE at h
   split at h
   ·rename_i h1;exact absurd h h1
   ·exact h
  have hroom:=M.split_room m.name
  have hl:m.link.size≤4096:=by
   have:=R.link
   split at this<;>omega
  have dv: ∀ n:Int,(0≤n∧n≤if M.isDev m.kind=true then 2097151 else 0)→isI64 n:=by
   intro n hn
   unfold isI64
   split at hn<;>omega
  have sz:isI64 m.size:=by
   have:=R.size
   unfold isI64
   split at this<;>omega
  refine base hH ⟨by have:=R.kind.1;show (0:Int)≤m.kind;omega,by have:=R.kind.2;show m.kind≤255;omega⟩ ?_ ?_ ?_ ?_ ?_
  ·show (M.split m.name).1.size+(M.split m.name).2.1.size<1000000
   omega
  ·have h1:=extract_le m.link 100
   have h2:=extract_le m.user 32
   have h3:=extract_le m.group 32
   have h4:=R.user
   have h5:=R.group
   exact ⟨show (m.link.extract 0 100).size≤_ by omega,show (m.user.extract 0 32).size≤_ by omega,show (m.group.extract 0 32).size≤_ by omega⟩
  ·refine ⟨isI64_le R.mode (by decide),isI64_if (isI64_le R.uid (by decide)),isI64_if (isI64_le R.gid (by decide)),dv _ R.major,dv _ R.minor,isI64_if sz,isI64_0⟩
  ·rw [hR];exact recs_len hE
  ·rw [hR]
   intro r hr
   obtain ⟨q,hq,rfl⟩:=List.mem_map.1 hr
   rcases M.merge_mem hq with h1|h1
   ·have:=M.gives_short R q h1
    exact ⟨Nat.le_trans (show q.1.length≤100 from this.1) (by decide),show q.2.length≤1048576 from this.2⟩
   ·obtain ⟨x,hx,rfl⟩:=List.mem_map.1 h1
    rw [M.mk_rc]
    exact hf x hx
 ·have hH:M.toH m= {} :=by unfold M.toH;rw [if_neg he]
  have hR:M.toR m= []:=by unfold M.toR;rw [if_neg he]
  refine base hH (by decide) (by decide) (by decide) ⟨isI64_0,isI64_0,isI64_0,isI64_0,isI64_0,isI64_0,isI64_0⟩ (by rw [hR];exact Nat.zero_le _) (by rw [hR];exact fun r hr=>by cases hr)
theorem rcs_mk (l:List Px.M.Rc):Px.rcs (l.map M.mk)=l:=by
 unfold Px.rcs
 rw [List.map_map]
 exact List.map_id'' (fun r=>M.rc_mk r) l
theorem MIn.at_ {w w':World} {m:M.Met} {pv ev:Value} (h:MIn w m pv ev) (hp: ∃ A c,pv= .slice A m.parts.length c∧Sp.RdP w' w'.heap.size A m.parts.length m.parts) (he: ∃ A c,ev= .slice A m.extra.length c∧Px.RdR w' w'.heap.size A m.extra):MIn w' m pv ev:=
 { h with parts:=hp,extra:=he }
end Go.Proofs.YtgbgngdakkiclaaGreatDoor
