/-
  Texts of one chapter, merged.
-/
import Derived.Test.YtjpmpjbembhldaaGreatDoorMtDig
import Derived.Test.YtjpmpjbembhldaaGreatDoorMtDelRZ
import Derived.Test.YtjpmpjbembhldaaGreatDoorMtTo
import Derived.Test.YtjpmpjbembhldaaGreatDoorMtMathZ
set_option linter.unusedVariables false
set_option linter.unusedSimpArgs false
namespace Go.Proofs.YtjpmpjbembhldaaGreatDoor
open Go.RowKit Go.Lib
open Px (R2 tl)
def stepM (r:List Px.M.Rc) (i:Nat) (m:M.Met):Option M.Met:=
 match Px.M.find r (tl (key i)) with
 |none=>some m
 |some v=>if takeOk ⟨v.toArray⟩ i=true then some (takeM ⟨v.toArray⟩ m i) else none
def steps (r:List Px.M.Rc):Nat→M.Met→Option M.Met
 |0,m=>some m
 |i+1,m=>(steps r i m).bind (stepM r i)
theorem tl_back (v:List UInt8):tl ⟨v.toArray⟩=v:=by simp [tl,Px.tl]
theorem step0 (r:List Px.M.Rc) (m:M.Met):stepM r 0 m=some { m with name:=M.textR r M.kPath m.name } :=by
 unfold stepM M.textR key
 cases Px.M.find r (tl M.kPath)<;>rfl
theorem step1 (r:List Px.M.Rc) (m:M.Met):stepM r 1 m=some { m with link:=M.textR r M.kLink m.link } :=by
 unfold stepM M.textR key
 cases Px.M.find r (tl M.kLink)<;>rfl
theorem step2 (r:List Px.M.Rc) (m:M.Met):stepM r 2 m=some { m with user:=M.textR r M.kUser m.user } :=by
 unfold stepM M.textR key
 cases Px.M.find r (tl M.kUser)<;>rfl
theorem step3 (r:List Px.M.Rc) (m:M.Met):stepM r 3 m=some { m with group:=M.textR r M.kGroup m.group } :=by
 unfold stepM M.textR key
 cases Px.M.find r (tl M.kGroup)<;>rfl
theorem step4 (r:List Px.M.Rc) (m:M.Met):stepM r 4 m=(M.numR r M.kUid 4611686018427387904 m.uid).map fun n=> { m with uid:=n } :=by
 unfold stepM M.numR key
 cases Px.M.find r (tl M.kUid) with
 |none=>rfl
 |some v=>
  simp only [takeOk,takeM,tl_back]
  cases M.dec v 4611686018427387904<;>simp
theorem step5 (r:List Px.M.Rc) (m:M.Met):stepM r 5 m=(M.numR r M.kGid 4611686018427387904 m.gid).map fun n=> { m with gid:=n } :=by
 unfold stepM M.numR key
 cases Px.M.find r (tl M.kGid) with
 |none=>rfl
 |some v=>
  simp only [takeOk,takeM,tl_back]
  cases M.dec v 4611686018427387904<;>simp
theorem step6 (r:List Px.M.Rc) (m:M.Met):stepM r 6 m=(M.numR r M.kSize 1099511627776 m.size).map fun n=> { m with size:=n } :=by
 unfold stepM M.numR key
 cases Px.M.find r (tl M.kSize) with
 |none=>rfl
 |some v=>
  simp only [takeOk,takeM,tl_back]
  cases M.dec v 1099511627776<;>simp
theorem step7 (r:List Px.M.Rc) (m:M.Met):stepM r 7 m=(M.timeR r M.kTime (m.sec,m.nan)).map fun t=> { m with sec:=t.1,nan:=t.2 } :=by
 unfold stepM M.timeR key
 cases Px.M.find r (tl M.kTime) with
 |none=>rfl
 |some v=>
  simp only [takeOk,takeM,tl_back]
  cases St.M.parse v<;>simp
theorem steps_taken (r:List Px.M.Rc) (m:M.Met):steps r 8 m=M.taken r m:=by
 unfold M.taken
 simp only [steps,step0,step1,step2,step3,step4,Option.bind_some]
 cases M.numR r M.kUid 4611686018427387904 m.uid with
 |none=>rfl
 |some u=>
  simp only [Option.map_some,Option.bind_some,step5]
  cases M.numR r M.kGid 4611686018427387904 m.gid with
  |none=>rfl
  |some g=>
   simp only [Option.map_some,Option.bind_some,step6]
   cases M.numR r M.kSize 1099511627776 m.size with
   |none=>rfl
   |some s=>
    simp only [Option.map_some,Option.bind_some,step7]
    cases M.timeR r M.kTime (m.sec,m.nan) with
    |none=>rfl
    |some t=>rfl
theorem steps_none {r:List Px.M.Rc} {m:M.Met} {i:Nat} (h:steps r i m=none): ∀ k,steps r (i+k) m=none
 |0=>h
 |k+1=>by
  have ih:=steps_none h k
  show (steps r (i+k) m).bind _=none
  rw [ih]
  rfl
theorem taken_none {r:List Px.M.Rc} {m m':M.Met} {i:Nat} (hi:i<8) (h:steps r i m=some m') (h2:stepM r i m'=none):M.taken r m=none:=by
 have h1:steps r (i+1) m=none:=by
  show (steps r i m).bind _=none
  rw [h]
  exact h2
 have h3:=steps_none h1 (7 - i)
 rw [show i+1+(7 - i)=8 by omega] at h3
 rw [←steps_taken]
 exact h3
theorem steps_next {r:List Px.M.Rc} {m m' m2:M.Met} {i:Nat} (h:steps r i m=some m') (h2:stepM r i m'=some m2):steps r (i+1) m=some m2:=by
 show (steps r i m).bind _=_
 rw [h]
 exact h2
end Go.Proofs.YtjpmpjbembhldaaGreatDoor

namespace Go.Proofs.YtjpmpjbembhldaaGreatDoor
open Go.RowKit Go.Lib
open Px (R2 tl)
def isI64 (n:Int):Prop:= -9223372036854775808≤n∧n≤9223372036854775807
structure Fit1 (m:M.Met):Prop where
 kind:0≤m.kind∧m.kind≤255
 name:m.name.size≤1048576
 link:m.link.size≤1048576
 user:m.user.size≤1048576
 group:m.group.size≤1048576
 mode:isI64 m.mode
 uid:isI64 m.uid
 gid:isI64 m.gid
 sec:isI64 m.sec
 nan:isI64 m.nan
 major:isI64 m.major
 minor:isI64 m.minor
 sz:isI64 m.size
 real:isI64 m.real
theorem find_len: ∀ {r:List Px.M.Rc} {k v:List UInt8},(∀ x∈r,x.2.length≤1048576)→Px.M.find r k=some v→v.length≤1048576
 | [],k,v,_,h=>by rw [Px.M.find_nil] at h;cases h
 |x::r,k,v,hr,h=>by
  have ih:=find_len (r:=r) (k:=k) (v:=v) (fun y hy=>hr y (List.mem_cons_of_mem _ hy))
  rw [Px.M.find_cons] at h
  cases hf:Px.M.find r k with
  |none=>
   rw [hf] at h
   by_cases hk:x.1=k
   ·rw [if_pos hk] at h
    cases h
    exact hr x List.mem_cons_self
   ·rw [if_neg hk] at h
    cases h
  |some u=>
   rw [hf] at h
   cases h
   exact ih hf
theorem dec_range {t:List UInt8} {most n:Int} (h:M.dec t most=some n):0≤n∧n≤most:=by
 unfold M.dec at h
 split at h
 ·split at h
  ·rename_i hh
   cases h
   have:=hh.1
   unfold M.within at this
   simpa using this
  ·cases h
 ·cases h
theorem norm_range (t:St.M.Tm):isI64 (St.M.norm t).1∧isI64 (St.M.norm t).2:=by
 have h:=St.M.norm_ok t
 have:=h.s1
 have:=h.s2
 have:=h.n1
 have:=h.n2
 unfold isI64
 omega
theorem fit_step {r:List Px.M.Rc} {i:Nat} {m m':M.Met} (hr: ∀ x∈r,x.2.length≤1048576) (h:Fit1 m) (hs:stepM r i m=some m'):Fit1 m':=by
 unfold stepM at hs
 cases hf:Px.M.find r (tl (key i)) with
 |none=>
  rw [hf] at hs
  cases hs
  exact h
 |some v=>
  rw [hf] at hs
  have hl:ByteArray.size ⟨v.toArray⟩≤1048576:=by
   have:=find_len hr hf
   show v.toArray.size≤_
   simpa using this
  dsimp only at hs
  split at hs
  ·rename_i hok
   cases hs
   have hn: ∀ most,most≤4611686018427387904→0≤most→isI64 ((M.dec (tl ⟨v.toArray⟩) most).getD 0):=by
    intro most h1 h2
    cases hd:M.dec (tl ⟨v.toArray⟩) most with
    |none=>unfold isI64;simp
    |some n=>
     have:=dec_range hd
     unfold isI64
     simp only [Option.getD_some]
     omega
   match i with
   |0=>exact { h with name:=hl }
   |1=>exact { h with link:=hl }
   |2=>exact { h with user:=hl }
   |3=>exact { h with group:=hl }
   |4=>exact { h with uid:=hn _ (by decide) (by decide) }
   |5=>exact { h with gid:=hn _ (by decide) (by decide) }
   |6=>exact { h with sz:=hn _ (by decide) (by decide) }
   |k+7=>exact { h with sec:=(norm_range _).1,nan:=(norm_range _).2 }
  ·cases hs
theorem fit_strip {m:M.Met} (h:Fit1 m):Fit1 (M.strip m):=by
 have hk:0≤M.kindOf m∧M.kindOf m≤255:=by
  have:=h.kind
  unfold M.kindOf
  constructor<;>(repeat' split)<;>omega
 have z:isI64 0:=by unfold isI64;omega
 have hz:isI64 (M.strip m).size:=by
  unfold M.strip
  dsimp only
  split
  ·exact h.sz
  ·exact z
 refine { h with kind:=hk,link:= ?_,major:= ?_,minor:= ?_,sz:=hz,real:= ?_ }
 ·unfold M.strip
  dsimp only
  split
  ·exact h.link
  ·decide
 ·unfold M.strip
  dsimp only
  split
  ·exact h.major
  ·exact z
 ·unfold M.strip
  dsimp only
  split
  ·exact h.minor
  ·exact z
 ·exact hz
theorem fit_told {h:M.Hdr} {names links:List ByteArray} (hk:0≤h.kind∧h.kind≤255) (hpn:h.pre.size+h.name.size<1000000) (hl:h.link.size≤1048576) (hu:h.user.size≤1048576) (hg:h.group.size≤1048576)
  (hns: ∀ x∈names,x.size≤1048576) (hls: ∀ x∈links,x.size≤1048576) (h1:isI64 h.mode) (h2:isI64 h.uid) (h3:isI64 h.gid) (h4:isI64 h.major) (h5:isI64 h.minor) (h6:isI64 h.size):Fit1 (M.told h names links):=by
 have z:isI64 0:=by unfold isI64;omega
 have hlast: ∀ (l:List ByteArray) (o:ByteArray),(∀ x∈l,x.size≤1048576)→o.size≤1048576→(M.lastOf l o).size≤1048576:=by
  intro l o hl ho
  unfold M.lastOf
  cases hq:l.getLast? with
  |none=>exact ho
  |some x=>exact hl x (List.mem_of_getLast? hq)
 have hnm:(M.nameOf h).size≤1048576:=by
  unfold M.nameOf
  split
  ·omega
  ·simp only [ByteArray.size_append]
   have:ByteArray.size ⟨#[47]⟩=1:=rfl
   omega
 exact { kind:=hk,name:=hlast _ _ hns hnm,link:=hlast _ _ hls hl,user:=hu,group:=hg,mode:=h1,uid:=h2,gid:=h3,sec:=(norm_range _).1,nan:=(norm_range _).2,major:=h4,minor:=h5,sz:=h6,real:=z }
theorem nums_range: ∀ {ts:List (List UInt8)} {ns:List Int},Sp.M.nums ts=some ns→ ∀ n∈ns,isI64 n
 | [],ns,h,n,hn=>by
   cases h
   cases hn
 |t::ts,ns,h,n,hn=>by
  unfold Sp.M.nums at h
  cases ht:Sp.M.numOf t with
  |none=>rw [ht] at h;cases h
  |some v=>
   rw [ht] at h
   dsimp only at h
   cases hr:Sp.M.nums ts with
   |none=>rw [hr] at h;cases h
   |some l=>
    rw [hr] at h
    cases h
    rcases List.mem_cons.1 hn with rfl|hm
    ·cases ha:Lib.atoiAll t with
     |ok u=>
      rw [Sp.M.numOf_ok ha] at ht
      split at ht
      ·cases ht
       exact Lib.atoiAll_bounds ha
      ·cases ht
     |_=>rw [Sp.M.numOf_err (fun u hu=>by rw [ha] at hu;cases hu)] at ht;cases ht
    ·exact nums_range hr n hm
theorem pairs_range: ∀ {ns:List Int},(∀ n∈ns,isI64 n)→Sp.M.i64s (Sp.M.pairs ns)
 | [],_=>fun p hp=>by cases hp
 | [_],_=>fun p hp=>by cases hp
 |a::b::l,h=>fun p hp=>by
  rw [Sp.M.pairs] at hp
  rcases List.mem_cons.1 hp with rfl|hm
  ·exact ⟨h a (by simp),h b (by simp)⟩
  ·exact pairs_range (ns:=l) (fun n hn=>h n (by simp [hn])) p hm
theorem parse_range {s:List UInt8} {l:List (Int × Int)} (h:Sp.M.parse s=some l):Sp.M.i64s l:=by
 unfold Sp.M.parse at h
 split at h
 ·cases h
  exact fun p hp=>by cases hp
 ·cases hn:Sp.M.nums (Sp.M.cuts s) with
  |none=>rw [hn] at h;cases h
  |some ns=>
   rw [hn,Sp.M.parseN_some] at h
   split at h
   ·cases h
   ·cases h
    exact pairs_range (nums_range hn)
theorem some_range {l:List (Int × Int)} (h:Sp.M.i64s l):Sp.M.i64s (M.some_ l):=fun p hp=>h p (List.mem_filter.1 hp).1
theorem some_len {l:List (Int × Int)} {n:Nat} (h:l.length≤n):(M.some_ l).length≤n:=Nat.le_trans (List.length_filter_le _ _) h
theorem fit_dig {m m':M.Met} {h:M.Hdr} {r:List Px.M.Rc} {more:List (Int × Int)} (hm:Fit1 m) (hp:m.parts= []) (h1:Sp.M.i64s h.parts) (h2:Sp.M.i64s more) (hl:h.parts.length+more.length≤1048576) (hr:isI64 h.real)
  (hd:M.dig m h r more=some m'):Fit1 m'∧m'.parts.length≤1048576∧Sp.M.i64s m'.parts∧m'.extra=m.extra:=by
 have hm0:Fit1 m∧m.parts.length≤1048576∧Sp.M.i64s m.parts∧m.extra=m.extra:=⟨hm,by rw [hp];simp,by rw [hp];exact (fun p hq=>by cases hq),rfl⟩
 unfold M.dig at hd
 split at hd
 ·split at hd
  ·split at hd
   ·cases hd
    refine ⟨{ hm with real:=hr },some_len (by rw [List.length_append];exact hl),some_range (fun p hp=> ?_),rfl⟩
    rcases List.mem_append.1 hp with ha|hb
    ·exact h1 p ha
    ·exact h2 p hb
   ·cases hd
    exact hm0
  ·split at hd
   ·rename_i l n hl hn
    cases hd
    have hq:=dec_range hn
    refine ⟨{ hm with real:= ?_ },some_len (parse_len hl),some_range (parse_range hl),rfl⟩
    unfold isI64
    dsimp only
    omega
   ·cases hd
  ·cases hd
 ·cases hd
  exact hm0
end Go.Proofs.YtjpmpjbembhldaaGreatDoor

namespace Go.Proofs.YtjpmpjbembhldaaGreatDoor
open Go.RowKit Go.Lib
open Px (R2 tl)
attribute [local go_sem ↓] add_plain
structure FIn (w:World) (h:M.Hdr) (hp:Value) (l:List R2) (names links:List ByteArray) (more:List (Int × Int)) (A An Al Am:Option Addr):Prop where
 rparts: ∃ A c,hp= .slice A h.parts.length c∧Sp.RdP w w.heap.size A h.parts.length h.parts
 rrecs:Px.RdR w w.heap.size A l
 rnames:RdT w w.heap.size An names
 rlinks:RdT w w.heap.size Al links
 rmore:Sp.RdP w w.heap.size Am more.length more
 nparts:h.parts.length≤500000∧more.length≤500000
 nrecs:l.length≤500000
 nnames:names.length≤1048576∧links.length≤1048576
 fits: ∀ r∈l,r.1.size≤1048576∧r.2.size≤1048576
 kind:0≤h.kind∧h.kind≤255
 pn:h.pre.size+h.name.size<1000000
 texts:h.link.size≤1048576∧h.user.size≤1048576∧h.group.size≤1048576
 tnames:(∀ x∈names,x.size≤1048576)∧(∀ x∈links,x.size≤1048576)
 ints:isI64 h.mode∧isI64 h.uid∧isI64 h.gid∧isI64 h.major∧isI64 h.minor∧isI64 h.size∧isI64 h.real
 i64s:Sp.M.i64s h.parts∧Sp.M.i64s more
def FromIs (h:M.Hdr) (l:List R2) (names links:List ByteArray) (more:List (Int × Int)) (w:World) (e:Ending) (w':World):Prop:=
 ∃ pv ev,e= .returned (.tuple #[.agg (mcells (M.fromM h (Px.rcs l) names links more) pv ev), .int .u16 (M.fromE h (Px.rcs l) names links more:Nat)])∧MIn w' (M.fromM h (Px.rcs l) names links more) pv ev∧Below w.heap.size w w'
theorem results_from {tmps:Array Value} {g:Nat} {m:M.Met} {pv ev:Value} {n:Int} {w:World} (hb:MB w g m pv ev) (h2:tmps.getD 10 undef= .pointer (some ⟨g,0,none⟩)) (h3:tmps.getD 11 undef= .int .u16 n):
  (results Tryz.f11 tmps).run Tryz.prog w= .ok (.tuple #[.agg (mcells m pv ev), .int .u16 n]) w:=by
 rw [Array.getD_eq_getD_getElem?] at h2 h3
 have hl:=run_loadVar_row (P:=Tryz.prog) w g 45 45 (mcells m pv ev) (0,0) _ hb Tryz.underlying45 rfl met_size
 simp [results,Tryz.results11,h2,h3,asAddr,hl]
theorem rdT_later {w w':World} {A:Option Addr} {l:List ByteArray} (h:RdT w w.heap.size A l) (hb:Below w.heap.size w w'):RdT w' w'.heap.size A l:=fun hn=>by
 obtain ⟨b,off,e,hB,hc⟩:=h.below hb hn
 exact ⟨b,off,e,Nat.lt_of_lt_of_le hB hb.size,hc⟩
theorem merged_fit {l rs:List R2} (h:Px.rcs rs=Px.M.merge Px.ltB (Px.rcs l) (Px.rcs [])) (hl: ∀ r∈l,r.1.size≤1048576∧r.2.size≤1048576): ∀ r∈rs,r.1.size≤1048576∧r.2.size≤1048576:=by
 intro r hr
 have h1:Px.rc r∈Px.rcs rs:=List.mem_map_of_mem hr
 rw [h] at h1
 rcases M.merge_mem h1 with h2|h2
 ·obtain ⟨q,hq,he⟩:=List.mem_map.1 h2
  have e1:tl q.1=tl r.1:=congrArg Prod.fst he
  have e2:tl q.2=tl r.2:=congrArg Prod.snd he
  have:=hl q hq
  rw [tl_inj e1,tl_inj e2] at this
  exact this
 ·cases h2
structure FrInv (w wf wr:World) (h:M.Hdr) (hp:Value) (m:M.Met) (g hi:Nat) (A:Option Addr) (c:Nat) (rs:List R2):Prop where
 met:MB wr g m (.slice none 0 0) (.slice none 0 0)
 res:MB wr (w.heap.size+1) {} (.slice none 0 0) (.slice none 0 0)
 hdr:HB wr w.heap.size h hp
 still:Still (g+1) hi wf wr
 own:Px.OwnR wr (g+1) (.slice A rs.length c) rs
 below:Below w.heap.size w wr
 gl:w.heap.size+1<g
 gh:g<hi
section
variable {w wf wr wr':World} {h:M.Hdr} {hp:Value} {m m':M.Met} {g hi:Nat} {A:Option Addr} {c:Nat} {rs:List R2}
theorem FrInv.his (I:FrInv w wf wr h hp m g hi A c rs):hi≤wr.heap.size:=I.still.1
theorem FrInv.later (I:FrInv w wf wr h hp m g hi A c rs) (hb:Below wr.heap.size wr wr'):FrInv w wf wr' h hp m g hi A c rs where
 met:=I.met.below hb (by have:=I.his;have:=I.gh;omega)
 res:=I.res.below hb (by have:=I.his;have:=I.gh;have:=I.gl;omega)
 hdr:=I.hdr.below hb (by have:=I.his;have:=I.gh;have:=I.gl;omega)
 still:=I.still.below hb
 own:=I.own.below hb
 below:=I.below.trans (hb.mono I.below.size)
 gl:=I.gl
 gh:=I.gh
theorem FrInv.take (I:FrInv w wf wr h hp m g hi A c rs) (hM:MB wr' g m' (.slice none 0 0) (.slice none 0 0)) (hF:Fg g wr wr'):FrInv w wf wr' h hp m' g hi A c rs where
 met:=hM
 res:=I.res.of_block (hF.block _ (by have:=I.his;have:=I.gh;have:=I.gl;omega) (by have:=I.gl;omega))
 hdr:=I.hdr.of_block (hF.block _ (by have:=I.his;have:=I.gh;have:=I.gl;omega) (by have:=I.gl;omega))
 still:=I.still.fg hF (Nat.lt_succ_self _)
 own:=own_fg I.own hF (Nat.lt_succ_self _)
 below:=hF.below I.below (by have:=I.gl;omega) I.below.size
 gl:=I.gl
 gh:=I.gh
end
theorem min_empty (w:World):MIn w {} (.slice none 0 0) (.slice none 0 0) where
 parts:=⟨none,0,rfl,Sp.RdP.none_⟩
 extra:=⟨none,0,rfl,Px.RdR.none_⟩
 nparts:=Nat.zero_le _
 nextra:=Nat.zero_le _
 i64s:=fun p hp=>by cases hp
 fits:=fun r hr=>by cases hr
 kind:=by decide
 texts:=by decide
 ints:=by decide
theorem from34 {h:M.Hdr} {recs:List Px.M.Rc} {names links:List ByteArray} {more:List (Int × Int)} (hk:M.kindMay h.kind=true) (hn:M.known h recs names links more=none):M.fromE h recs names links more=34∧M.fromM h recs names links more= {} :=by
 have hE:M.fromE h recs names links more=34:=by unfold M.fromE;rw [if_neg (by rw [hk];decide),hn]
 exact ⟨hE,by unfold M.fromM;rw [hE];rfl⟩
theorem known_none1 {h:M.Hdr} {l rs:List R2} {names links:List ByteArray} {more:List (Int × Int)} {m0:M.Met} (hrs:Px.rcs rs=Px.M.merge Px.ltB (Px.rcs l) (Px.rcs [])) (hm0:M.told h names links=m0) (ht:M.taken (Px.rcs rs) m0=none):M.known h (Px.rcs l) names links more=none:=by
 have e:Px.M.merge Px.ltB (Px.rcs l) []=Px.rcs rs:=hrs.symm
 unfold M.known
 rw [e,hm0,ht]
 rfl
theorem known_is {h:M.Hdr} {l rs:List R2} {names links:List ByteArray} {more:List (Int × Int)} {m0 m:M.Met} (hrs:Px.rcs rs=Px.M.merge Px.ltB (Px.rcs l) (Px.rcs [])) (hm0:M.told h names links=m0) (ht:M.taken (Px.rcs rs) m0=some m):
  M.known h (Px.rcs l) names links more=(M.dig (M.strip m) h (Px.rcs rs) more).map fun m=> { m with extra:=((Px.rcs rs).filter fun r=> !M.isKey r.1).map M.mk } :=by
 have e:Px.M.merge Px.ltB (Px.rcs l) []=Px.rcs rs:=hrs.symm
 unfold M.known
 rw [e,hm0,ht]
 rfl
theorem known_none2 {h:M.Hdr} {l rs:List R2} {names links:List ByteArray} {more:List (Int × Int)} {m0 m:M.Met} (hrs:Px.rcs rs=Px.M.merge Px.ltB (Px.rcs l) (Px.rcs [])) (hm0:M.told h names links=m0) (ht:M.taken (Px.rcs rs) m0=some m) (hd:M.dig (M.strip m) h (Px.rcs rs) more=none):M.known h (Px.rcs l) names links more=none:=by
 rw [known_is hrs hm0 ht,hd]
 rfl
end Go.Proofs.YtjpmpjbembhldaaGreatDoor

namespace Go.Proofs.YtjpmpjbembhldaaGreatDoor
open Go.RowKit Go.Lib
open Px (R2 tl)
theorem isI64_le {n:Int} {k:Int} (h:0≤n∧n≤k) (hk:k≤9223372036854775807):isI64 n:=by unfold isI64;omega
theorem isI64_0:isI64 0:=by unfold isI64;omega
theorem min_plain {w:World} {m:M.Met} (f:Fit1 m) (hp:m.parts= []) (he:m.extra= []):MIn w m (.slice none 0 0) (.slice none 0 0) where
 parts:=⟨none,0,by rw [hp];rfl,by rw [hp];exact Sp.RdP.none_⟩
 extra:=⟨none,0,by rw [he];rfl,by rw [he];exact Px.RdR.none_⟩
 nparts:=by rw [hp];exact Nat.zero_le _
 nextra:=by rw [he];exact Nat.zero_le _
 i64s:=by rw [hp];exact fun p hp=>by cases hp
 fits:=by rw [he];exact fun r hr=>by cases hr
 kind:=f.kind
 texts:=⟨f.name,f.link,f.user,f.group⟩
 ints:=⟨f.mode,f.uid,f.gid,f.sec,f.nan,f.major,f.minor,f.sz,f.real⟩
theorem recs_len {l:List Px.M.Rc} (h:Px.M.printE l=0):l.length≤1000:=by
 unfold Px.M.printE at h
 split at h
 ·cases h
 ·split at h
  ·cases h
  ·omega
theorem toH_parts (m:M.Met):(M.toH m).parts= []:=by
 unfold M.toH
 split<;>rfl
theorem extract_le (s:ByteArray) (k:Nat):(s.extract 0 k).size≤s.size:=by
 rw [ByteArray.size_extract];omega
theorem isI64_if {c:Bool} {n:Int} (h:isI64 n):isI64 (if c=true then n else 0):=by
 split
 ·exact h
 ·exact isI64_0
theorem fin_to {w:World} {m:M.Met} (hf: ∀ r∈m.extra,r.1.size≤1048576∧r.2.size≤1048576) {A:Option Addr} (hr:Px.RdR w w.heap.size A ((M.toR m).map M.mk)):
  FIn w (M.toH m) (.slice none 0 0) ((M.toR m).map M.mk) [] [] [] A none none none:=by
 have hp:=toH_parts m
 have base: ∀ {h:M.Hdr},M.toH m=h→(0≤h.kind∧h.kind≤255)→(h.pre.size+h.name.size<1000000)→(h.link.size≤1048576∧h.user.size≤1048576∧h.group.size≤1048576)→
   (isI64 h.mode∧isI64 h.uid∧isI64 h.gid∧isI64 h.major∧isI64 h.minor∧isI64 h.size∧isI64 h.real)→(M.toR m).length≤1000→(∀ r∈(M.toR m).map M.mk,r.1.size≤1048576∧r.2.size≤1048576)→
   FIn w (M.toH m) (.slice none 0 0) ((M.toR m).map M.mk) [] [] [] A none none none:=by
  rintro h rfl h1 h2 h3 h4 h5 h6
  exact {
   rparts:=⟨none,0,by rw [hp];rfl,by rw [hp];exact Sp.RdP.none_⟩
   rrecs:=hr
   rnames:=fun hn=>absurd hn (by simp)
   rlinks:=fun hn=>absurd hn (by simp)
   rmore:=Sp.RdP.none_
   nparts:=by rw [hp];simp
   nrecs:=by rw [List.length_map];omega
   nnames:=by simp
   fits:=h6
   kind:=h1
   pn:=h2
   texts:=h3
   tnames:=⟨fun x hx=>(by cases hx),fun x hx=>(by cases hx)⟩
   ints:=h4
   i64s:=⟨by rw [hp];exact (fun p hp=>by cases hp),fun p hp=>(by cases hp)⟩ }
 by_cases he:M.toE m=0
 ·have R:=M.right_of (M.toE_wrong he)
  have hH:M.toH m=M.head m:=by unfold M.toH;rw [if_pos he]
  have hR:M.toR m=M.recsOf m:=by unfold M.toR;rw [if_pos he]
  have hE:Px.M.printE (M.recsOf m)=0:=by
   have h:=he
   unfold M.toE at h
   split at h
   ·rename_i h1;exact absurd h h1
   ·exact h
  have hroom:=M.split_room m.name
  have hl:m.link.size≤4096:=by
   have:=R.link
   split at this<;>omega
  have dv: ∀ n:Int,(0≤n∧n≤if M.isDev m.kind=true then 2097151 else 0)→isI64 n:=by
   intro n hn
   unfold isI64
   split at hn<;>omega
  have sz:isI64 m.size:=by
   have:=R.size
   unfold isI64
   split at this<;>omega
  refine base hH ⟨by have:=R.kind.1;show (0:Int)≤m.kind;omega,by have:=R.kind.2;show m.kind≤255;omega⟩ ?_ ?_ ?_ ?_ ?_
  ·show (M.split m.name).1.size+(M.split m.name).2.1.size<1000000
   omega
  ·have h1:=extract_le m.link 100
   have h2:=extract_le m.user 32
   have h3:=extract_le m.group 32
   have h4:=R.user
   have h5:=R.group
   exact ⟨show (m.link.extract 0 100).size≤_ by omega,show (m.user.extract 0 32).size≤_ by omega,show (m.group.extract 0 32).size≤_ by omega⟩
  ·refine ⟨isI64_le R.mode (by decide),isI64_if (isI64_le R.uid (by decide)),isI64_if (isI64_le R.gid (by decide)),dv _ R.major,dv _ R.minor,isI64_if sz,isI64_0⟩
  ·rw [hR];exact recs_len hE
  ·rw [hR]
   intro r hr
   obtain ⟨q,hq,rfl⟩:=List.mem_map.1 hr
   rcases M.merge_mem hq with h1|h1
   ·have:=M.gives_short R q h1
    exact ⟨Nat.le_trans (show q.1.length≤100 from this.1) (by decide),show q.2.length≤1048576 from this.2⟩
   ·obtain ⟨x,hx,rfl⟩:=List.mem_map.1 h1
    rw [M.mk_rc]
    exact hf x hx
 ·have hH:M.toH m= {} :=by unfold M.toH;rw [if_neg he]
  have hR:M.toR m= []:=by unfold M.toR;rw [if_neg he]
  refine base hH (by decide) (by decide) (by decide) ⟨isI64_0,isI64_0,isI64_0,isI64_0,isI64_0,isI64_0,isI64_0⟩ (by rw [hR];exact Nat.zero_le _) (by rw [hR];exact fun r hr=>by cases hr)
theorem rcs_mk (l:List Px.M.Rc):Px.rcs (l.map M.mk)=l:=by
 unfold Px.rcs
 rw [List.map_map]
 exact List.map_id'' (fun r=>M.rc_mk r) l
theorem others_eq (rs:List R2):((Px.rcs rs).filter fun r=> !M.isKey r.1).map M.mk=rs.filter other:=by
 unfold Px.rcs
 rw [List.filter_map,List.map_map]
 exact List.map_id'' (fun r=>M.mk_rc r) _
theorem from_is {h:M.Hdr} {recs:List Px.M.Rc} {names links:List ByteArray} {more:List (Int × Int)} {m3:M.Met} (hk:M.kindMay h.kind=true) (hn:M.known h recs names links more=some m3):
  M.fromE h recs names links more=M.toE m3∧M.fromM h recs names links more=if M.toE m3=0 then m3 else {} :=by
 have hE:M.fromE h recs names links more=M.toE m3:=by unfold M.fromE;rw [if_neg (by rw [hk];decide),hn]
 exact ⟨hE,by unfold M.fromM;rw [hE,hn];rfl⟩
theorem ownP_setRow {w:World} {b g:Nat} {v:Value} {l:List (Int × Int)} (h:Sp.OwnP w b v l) (hg:g<b) (cs:Array Value):Sp.OwnP (w.setRow g cs) b v l:=by
 refine ⟨h.1, ?_⟩
 rcases h.2 with hn|⟨g2,cap,cur,hv,hb,hr,rest⟩
 ·exact .inl hn
 ·exact .inr ⟨g2,cap,cur,hv,hb,(setRow_other w g g2 cs (by omega)).trans hr,rest⟩
theorem min_known {w:World} {b b2 c:Nat} {m2:M.Met} {pv:Value} {rs:List R2} {A:Option Addr} (hm:Fit1 m2∧m2.parts.length≤1048576∧Sp.M.i64s m2.parts) (hp:Sp.OwnP w b pv m2.parts)
  (ho:Px.OwnR w b2 (.slice A (rs.filter other).length c) (rs.filter other)) (hl:rs.length≤500000) (hf: ∀ r∈rs,r.1.size≤1048576∧r.2.size≤1048576):
  MIn w { m2 with extra:=rs.filter other } pv (.slice A (rs.filter other).length c) where
 parts:=by
  obtain ⟨A2,c2,e,hr,_⟩:=hp.rd
  exact ⟨A2,c2,e,hr⟩
 extra:=⟨A,c,rfl,own_rd ho⟩
 nparts:=hm.2.1
 nextra:=Nat.le_trans (List.length_filter_le _ _) hl
 i64s:=hm.2.2
 fits:=fun r hr=>hf r (List.mem_filter.1 hr).1
 kind:=hm.1.kind
 texts:=⟨hm.1.name,hm.1.link,hm.1.user,hm.1.group⟩
 ints:=⟨hm.1.mode,hm.1.uid,hm.1.gid,hm.1.sec,hm.1.nan,hm.1.major,hm.1.minor,hm.1.sz,hm.1.real⟩
theorem MIn.at_ {w w':World} {m:M.Met} {pv ev:Value} (h:MIn w m pv ev) (hp: ∃ A c,pv= .slice A m.parts.length c∧Sp.RdP w' w'.heap.size A m.parts.length m.parts) (he: ∃ A c,ev= .slice A m.extra.length c∧Px.RdR w' w'.heap.size A m.extra):MIn w' m pv ev:=
 { h with parts:=hp,extra:=he }
end Go.Proofs.YtjpmpjbembhldaaGreatDoor
