import Derived.Test.YtjpmpjbembhldaaGreatDoorKSa
import Derived.Test.YtjpmpjbembhldaaGreatDoorShelf
import Derived.Lib.AtoiTie
import Derived.Lib.ItoaMem
import Derived.Lib.AppendIntMem
import Derived.Test.YtjpmpjbembhldaaGreatDoorIterLaw
import Derived.Lib.Hide
import Derived.IntWalk
import Derived.Tactics
import Derived.Lib.OthersKept
set_option linter.unusedVariables false
set_option linter.unusedSimpArgs false
namespace Go.Proofs.YtjpmpjbembhldaaGreatDoor.Sp
open Go.RowKit Go.Lib
namespace M
theorem range_long {t:List UInt8} (h:Lib.atoiAll t= .range):13<t.length:=by
 rcases Nat.lt_or_ge 13 t.length with h1|h1
 ·exact h1
 ·rw [Lib.atoiAll_short t (by omega)] at h
  cases ha:Lib.atoi t with
  |none=>rw [ha] at h;cases h
  |some v=>rw [ha] at h;cases h
theorem numOf_ok {t:List UInt8} {v:Int} (h:Lib.atoiAll t= .ok v):numOf t=if t.length≤13∧0≤v∧Lib.itoa v=t then some v else none:=by
 unfold numOf;rw [h];rfl
theorem numOf_err {t:List UInt8} (h: ∀ v,Lib.atoiAll t≠ .ok v):numOf t=none:=by
 unfold numOf numE
 split
 ·rename_i v hv;exact absurd hv (h v)
 ·rfl
theorem zero_not {t:List UInt8} (h: ∀ v,Lib.atoiAll t≠ .ok v):Lib.itoa 0≠t:=by
 intro e
 subst e
 exact h 0 (atoi_dec 0 (by decide))
end M
def TB (B:Nat) (w:World):Prop:=Lib.TabBelow Tryz.prog B w "internal/strconv.uint64pow10" .u64 Lib.pow10Tab
theorem TB.on {B:Nat} {w w':World} (h:TB B w) (hb:Below B w w'):TB B w':=Lib.TabBelow.on h hb
def ErrAt (g B:Nat) (w:World):Prop:=g<B∧ ∃ te pe,w.cell? ⟨g,0,none⟩=some (.iface te pe)
theorem ErrAt.on {g B:Nat} {w w':World} (h:ErrAt g B w) (hb:Below B w w'):ErrAt g B w':=by
 obtain ⟨h1,te,pe,h2⟩:=h
 exact ⟨h1,te,pe,(hb.cell (p:=⟨g,0,none⟩) h1).trans h2⟩
structure EV (B:Nat) (w:World):Prop where
 tens:TB B w
 syn:ErrAt 2 B w
 ran:ErrAt 3 B w
theorem EV.on {B:Nat} {w w':World} (h:EV B w) (hb:Below B w w'):EV B w':=⟨h.tens.on hb,h.syn.on hb,h.ran.on hb⟩
theorem EV.up {B B':Nat} {w:World} (h:EV B w) (hB:B≤B'):EV B' w:=⟨fun w' hb=>h.tens w' (hb.mono hB),⟨Nat.lt_of_lt_of_le h.syn.1 hB,h.syn.2⟩,⟨Nat.lt_of_lt_of_le h.ran.1 hB,h.ran.2⟩⟩
def AtoiIs (t:List UInt8) (w:World) (e:Ending) (w':World):Prop:=
 ∃ (v:Int) (ev:Value),e= .returned (.tuple #[.int .i64 v,ev])∧Below w.heap.size w w'∧ -9223372036854775808≤v∧v≤9223372036854775807∧
   ((Lib.atoiAll t= .ok v∧ev= .nilIface)∨((∀ u,Lib.atoiAll t≠ .ok u)∧(∃ x y,ev= .iface x y)∧(v=0∨13<t.length)))
theorem atoi_any (s:ByteArray) (hs:s.size≤1048576) (B:Nat) (w:World) (ht:EV B w):
  Calls Tryz.prog 118 #[.string s] w (AtoiIs (tl s) w):=by
 have hbw: ∀ w',(w'=w∨ ∃ t,w'=Lib.bytesWorld w 5 t)→Below w.heap.size w w':=by
  rintro w' (rfl|⟨t,rfl⟩)
  ·exact Below.refl _ _
  ·exact Lib.bytesWorld_below _ _ _
 cases ha:Lib.atoiAll (tl s)
 ·rename_i v
  refine (Tryz.strconv_Atoi_ok s (by omega) v ha w).mono ?_
  rintro e w' ⟨rfl,hw⟩
  have:=Lib.atoiAll_bounds ha
  exact ⟨v,_,rfl,hbw _ hw,this.1,this.2, .inl ⟨ha,rfl⟩⟩
 ·obtain ⟨_,te,pe,hc⟩:=ht.syn
  refine (Tryz.strconv_Atoi_syntax s (by omega) ha _ w hc (.inr ⟨te,pe,rfl⟩)).mono ?_
  rintro e w' ⟨N,rfl,_,_,hb⟩
  exact ⟨0,_,rfl,hb,by decide,by decide, .inr ⟨(fun u h=>by rw [ha] at h;cases h),⟨_,_,rfl⟩, .inl rfl⟩⟩
 ·obtain ⟨_,te,pe,hc⟩:=ht.ran
  refine (Tryz.strconv_Atoi_range s (by omega) ha _ w hc (.inr ⟨te,pe,rfl⟩)).mono ?_
  rintro e w' ⟨N,rfl,_,_,hb⟩
  have:=Lib.atoiSat_bounds (tl s)
  exact ⟨_,_,rfl,hb,this.1,this.2, .inr ⟨(fun u h=>by rw [ha] at h;cases h),⟨_,_,rfl⟩, .inr (M.range_long ha)⟩⟩
theorem itoa_any (n:Int) (h0: -9223372036854775808≤n) (h1:n≤9223372036854775807) (B:Nat) (w:World) (ht:EV B w):
  Calls Tryz.prog 23 #[.int .i64 n] w fun e w'=>e= .returned (.string ⟨(Lib.itoa n).toArray⟩)∧Below w.heap.size w w':=by
 refine (Tryz.strconv_Itoa n h0 h1 w ht.tens.here).mono ?_
 rintro e w' ⟨rfl,k,os,rfl⟩
 exact ⟨rfl,Lib.below_grow _ _ (Nat.le_refl _) _ _⟩
def numV:Option Int→Value
 |none=> .tuple #[.int .i64 0, .bool false]
 |some n=> .tuple #[.int .i64 n, .bool true]
theorem ret_num {a b:Option Int} (h:a=b):Ending.returned (numV a)= .returned (numV b):=by rw [h]
theorem str_eq_yes {v:Int} {s:ByteArray} (h:Lib.itoa v=tl s):(⟨(Lib.itoa v).toArray⟩:ByteArray)=s:=tl_inj (by rw [tl_mk];exact h)
set_option maxRecDepth 100000 in
set_option maxHeartbeats 1000000 in
theorem number_any (s:ByteArray) (hs:s.size≤1048576) (B:Nat) (w:World) (hB:B≤w.heap.size) (ht:EV B w):
  Calls Tryz.prog 117 #[.string s] w fun e w'=>e= .returned (numV (M.numOf (tl s)))∧Below w.heap.size w w':=by
 have HT:=hid ht
 by_cases hlong:13<s.size
 ·have HN:=hid (M.numOf_long (t:=tl s) (by rw [tl_len];exact hlong))
  have d1:decide ((13:Int)<(s.size:Int))=true:=by rw [decide_eq_true_eq];omega
  clear hlong ht
  go_enter Tryz.func117,Tryz.ntmps117
  go_wp2
  go_ret2
  exact ⟨ret_num HN.out.symm,Below.refl _ _⟩
 have HS:=hid (show (tl s).length≤13 by rw [tl_len];omega)
 have d1:decide ((13:Int)<(s.size:Int))=false:=by rw [decide_eq_false_iff_not];omega
 clear hlong ht
 go_enter Tryz.func117,Tryz.ntmps117
 go_wp2_with fail
 (with_reducible refine (atoi_any s hs B w HT.out).mono ?_)
 rintro e w1 ⟨v,ev,rfl,hb1,v0,v1,h⟩
 have HB1:=hid hb1
 have HT1:=hid (HT.out.on (hb1.mono hB))
 clear d1
 rcases h with ⟨ha,rfl⟩|⟨ha,⟨x,y,rfl⟩,_⟩
 ·have HN:=hid (M.numOf_ok ha)
  clear ha hb1
  by_cases hv:v<0
  ·have HN2:=hid (show M.numOf (tl s)=none by rw [HN.out,if_neg (by omega)])
   have d2:decide (v<0)=true:=by rw [decide_eq_true_eq];exact hv
   go_wp2
   go_ret2
   exact ⟨ret_num HN2.out.symm,HB1.out⟩
  ·have d2:decide (v<0)=false:=by rw [decide_eq_false_iff_not];exact hv
   have HI:=hid (itoa_any v v0 v1 B w1 HT1.out)
   by_cases he:Lib.itoa v=tl s
   ·have HN2:=hid (show M.numOf (tl s)=some v by rw [HN.out,if_pos ⟨HS.out,by omega,he⟩])
    have es:=str_eq_yes he
    rw [es] at HI
    clear he es hv
    go_wp2_with (go_at_call 23;(with_reducible refine HI.out.mono ?_);rintro e w2 ⟨rfl,hb2⟩)
    go_ret2
    exact ⟨ret_num HN2.out.symm,HB1.out.trans (hb2.mono HB1.out.size)⟩
   ·have HN2:=hid (show M.numOf (tl s)=none by rw [HN.out,if_neg (by intro h;exact he h.2.2)])
    have HE:=hid he
    clear he hv
    generalize hx:(⟨(Lib.itoa v).toArray⟩:ByteArray)=x at HI
    have d3:(x.toList==s.toList)=false:=by
     rw [beq_eq_false_iff_ne,tl_eq,tl_eq,←hx];exact HE.out
    go_wp2_with (go_at_call 23;(with_reducible refine HI.out.mono ?_);rintro e w2 ⟨rfl,hb2⟩)
    go_ret2
    exact ⟨ret_num HN2.out.symm,HB1.out.trans (hb2.mono HB1.out.size)⟩
 ·have HN:=hid (M.numOf_err ha)
  clear ha hb1
  go_wp2
  go_ret2
  exact ⟨ret_num HN.out.symm,HB1.out⟩
end Go.Proofs.YtjpmpjbembhldaaGreatDoor.Sp
namespace Go.Proofs.YtjpmpjbembhldaaGreatDoor.Sp
open Go.RowKit Go.Shelf
attribute [local go_sem] Oper.semAt_some
def sl:ByteArray:=⟨#[44]⟩
def SeqOk (b1 b2 b3:Nat) (s:ByteArray) (W:World):Prop:=
 Boxed W b1 9 (.string sl)∧Boxed W b2 9 (.string s)∧Boxed W b3 3 (.int .i64 0)
theorem boxed_turned {own:Nat→Prop} {A B:World} {b:Nat} {t:TypeId} {v:Value} (h:Boxed A b t v) (ht:Turned own A B) (hn: ¬ own b):Boxed B b t v:=(ht.block b h.lt hn).trans h
theorem boxed_spared {own:Nat→Prop} {A B:World} {b:Nat} {t:TypeId} {v:Value} (h:Boxed A b t v) (ht:Spared own A B) (hn:own b):Boxed B b t v:=(ht.block b hn h.lt).trans h
theorem tl_take (r:ByteArray) (k:Nat):tl (r.extract 0 k)=(tl r).take k:=by
 unfold tl;simp [ByteArray.data_extract]
theorem tl_drop (r:ByteArray) (k:Nat):tl (r.extract k r.size)=(tl r).drop k:=by
 unfold tl;simp [ByteArray.data_extract]
 rw [List.take_of_length_le]
 simp
theorem boxed_set_far {A:World} {b c:Nat} {t:TypeId} {v u:Value} (h:Boxed A b t v) (hne:b≠c):Boxed (A.setCell ⟨c,0,none⟩ u) b t v:=h.kept (grownBy_setCell' A c u) (fun e=>hne (by injection e))
def pvOf (b1 b2 b3 k:Nat):Prop:=k=b1∨k=b2∨k=b3
def SeqAt (s:ByteArray) (b1 b2 b3:Nat) (J:List ByteArray→World→Prop) (pre:List ByteArray) (r:ByteArray) (wr:World):Prop:=
 M.cuts (tl s)=pre.map tl++M.cuts (tl r)∧SeqOk b1 b2 b3 r wr∧J pre wr
def strLen:Option Value→Nat
 |some (.string r)=>r.size
 |_=>0
set_option maxRecDepth 100000 in
set_option maxHeartbeats 1000000 in
theorem seq_iter (s:ByteArray) (hs:s.size≤1048576) (b1 b2 b3:Nat) (h12:b1≠b2) (h32:b3≠b2):
  Iter Tryz.prog 176 #[.pointer (some ⟨b1,0,none⟩), .pointer (some ⟨b2,0,none⟩), .pointer (some ⟨b3,0,none⟩)] (fun x:ByteArray=> #[.string x]) (pvOf b1 b2 b3) 0
   (fun xs=>xs.map tl=M.cuts (tl s)) (fun pre=>pre.map tl<+:M.cuts (tl s)) (fun xs=>xs.map tl<+:M.cuts (tl s)) (SeqOk b1 b2 b3 s):=by
 intro n l J Jx W hok hJ hJx hY h0
 refine callsIn_of_wp Tryz.func176 rfl trivial ?_ rfl
 simp only [Tryz.ntmps176,List.size_toArray,List.length_cons,List.length_nil,Nat.reduceAdd,Nat.reduceSub,Array.replicate_succ,Array.replicate_zero,List.push_toArray,List.append_toArray,List.nil_append,List.cons_append]
 have hc1:=hok.1.cell
 have hc2:=hok.2.1.cell
 have hc3:=hok.2.2.cell
 unfold sl at hc1
 gi_wp2_with fail
 gi_loopw [7] (fun _ wr=> ∃ pre r,SeqAt s b1 b2 b3 J pre r wr∧W.heap.size≤wr.heap.size) (fun _ wr=>strLen (wr.cell? ⟨b2,0,none⟩))
 case atStart=>exact ⟨[],s,⟨by simp,hok,h0⟩,Nat.le_refl _⟩
 case round=>
  obtain ⟨pre,r,⟨hp,⟨hb1,hb2,hb3⟩,hj⟩,hsz⟩:=hrel
  have hc1:=hb1.cell
  have hc2:=hb2.cell
  have hc3:=hb3.cell
  have hf2:=hb2.frozen
  unfold sl at hc1
  have hge:=M.indexByte_ge (tl r) 44
  have hrl:(tl r).length=r.size:=rfl
  by_cases hi:Lib.indexByte (tl r) 44= -1
  ·have hlast:=M.cut_none hi
   obtain ⟨fn,tmps,assign,body,hy,hR⟩:=hY (n - 1) pre r wr hj (by omega) (by rw [hp,hlast];simp)
   have HP:=Lib.hid hp;clear hp
   have HL:=Lib.hid hlast;clear hlast
   have HI:=Lib.hid hi;clear hi
   clear hrl
   gi_wp2_with (first
    |(refine ⟨trivial,noDepth, ?_⟩;gi_at_call 178;refine (callsIn_wide.2 (Tryz.strings_Index_one _ _ _)).mono ?_;rintro e w' ⟨rfl,rfl⟩;rw [show Lib.indexByte r.data.toList 44= -1 from HI.out]))
   refine ⟨noDepth, ?_⟩
   refine hR.mono ?_
   rintro e W' ⟨hsp,⟨rfl,hj'⟩|⟨rfl,hj'⟩⟩
   ·gi_wp2
    go_end0
    refine ⟨⟨_,rfl⟩, .inl ⟨_, ?_,hj'⟩⟩
    rw [HP.out,HL.out];simp
   ·gi_wp2
    go_end0
    refine ⟨⟨_,rfl⟩, .inr ⟨_, ?_,hj'⟩⟩
    rw [HP.out,HL.out];simp
  ·obtain ⟨k,hk⟩: ∃ k:Nat,Lib.indexByte (tl r) 44=k:=⟨(Lib.indexByte (tl r) 44).toNat,by omega⟩
   obtain ⟨hkl,hcut⟩:=M.cut_some hk
   rw [hrl] at hkl
   obtain ⟨fn,tmps,assign,body,hy,hR⟩:=hY (n - 1) pre (r.extract 0 k) wr hj (by omega) (by rw [hp,hcut];simp only [List.map_append,List.map_cons,List.map_nil,tl_take];exact ⟨M.cuts (List.drop (k+1) (tl r)),by simp⟩)
   have HP:=Lib.hid hp;clear hp
   have HC:=Lib.hid hcut;clear hcut
   have HK:=Lib.hid hk;clear hk
   have hk2:r.size≤1048576:=by
    have h1:=M.cuts_tail HP.out
    have h2:(tl s).length=s.size:=rfl
    omega
   clear hrl hi hge
   gi_wp2_with (first
    |(refine ⟨trivial,noDepth, ?_⟩;gi_at_call 178;refine (callsIn_wide.2 (Tryz.strings_Index_one _ _ _)).mono ?_;rintro e w' ⟨rfl,rfl⟩;rw [show Lib.indexByte r.data.toList 44=(k:Int) from HK.out]))
   refine ⟨noDepth, ?_⟩
   refine hR.mono ?_
   rintro e W' ⟨hsp,⟨rfl,hj'⟩|⟨rfl,hj'⟩⟩
   ·have gb1:=boxed_spared hb1 hsp (.inl (.inl rfl))
    have gb2:=boxed_spared hb2 hsp (.inl (.inr (.inl rfl)))
    have gb3:=boxed_spared hb3 hsp (.inl (.inr (.inr rfl)))
    have gc1:=gb1.cell
    have gc2:=gb2.cell
    have gf2:=gb2.frozen
    unfold sl at gc1
    have e1:IntKind.i64.wrap ((k:Int)+1)=(k:Int)+1:=IntWalk.i64_in _ (by omega)
    have e3:(1:Int)+(k:Int)=((k+1:Nat):Int):=by omega
    gi_wp2
    refine ⟨⟨pre++ [r.extract 0 k],r.extract (k+1) r.size,⟨?_,⟨boxed_set_far gb1 (fun e=>h12 e),gb2.set _,boxed_set_far gb3 (fun e=>h32 e)⟩, ?_⟩, ?_⟩, ?_⟩
    ·rw [HP.out,HC.out,tl_drop]
     simp [tl_take]
    ·exact hJ _ _ _ hj' (Turned.setCell (.inl (.inr (.inl rfl))) _ _)
    ·exact Nat.le_trans hsz (Nat.le_trans hsp.size (Turned.setCell (own:=fun _=>True) (p:=⟨b2,0,none⟩) trivial W' _).size)
    ·rw [(gb2.set (.string (r.extract (k+1) r.size))).cell,hc2]
     simp only [strLen,ByteArray.size_extract]
     omega
   ·gi_wp2
    refine bodyPost_ret (results_none rfl _ _ _) rfl ?_
    refine ⟨⟨_,rfl⟩, .inr ⟨_, ?_,hj'⟩⟩
    rw [HP.out,HC.out]
    simp only [List.map_append,List.map_cons,List.map_nil,tl_take]
    exact ⟨M.cuts (List.drop (k+1) (tl r)),by simp⟩
set_option maxHeartbeats 1000000 in
theorem seq_make (s:ByteArray) (w:World):
  Calls Tryz.prog 116 #[.string s, .string sl] w fun e w'=>
   e= .returned (.func (.func 176) #[] #[.pointer (some ⟨w.heap.size+1,0,none⟩), .pointer (some ⟨w.heap.size,0,none⟩), .pointer (some ⟨w.heap.size+2,0,none⟩)])∧
    w'=((w.alloc (.cells #[.string s] 9)).alloc (.cells #[.string sl] 9)).alloc (.cells #[.int .i64 0] 3):=by
 go_enter Tryz.func116,Tryz.ntmps116
 go_wp2
 go_ret
 exact ⟨rfl,rfl⟩
theorem seq_ok (s:ByteArray) (w:World) (o1 o2:Obj):
  SeqOk (w.heap.size+1) w.heap.size (w.heap.size+2) s (((((w.alloc (.cells #[.string s] 9)).alloc (.cells #[.string sl] 9)).alloc (.cells #[.int .i64 0] 3)).alloc o1).alloc o2):=by
 refine ⟨?_, ?_, ?_⟩
 ·have h:=Boxed.new (w.alloc (.cells #[.string s] 9)) 9 (.string sl)
  rw [World.size_alloc] at h
  exact ((h.alloc _).alloc _).alloc _
 ·exact ((((Boxed.new w 9 (.string s)).alloc _).alloc _).alloc _).alloc _
 ·have h:=Boxed.new ((w.alloc (.cells #[.string s] 9)).alloc (.cells #[.string sl] 9)) 3 (.int .i64 0)
  rw [World.size_alloc,World.size_alloc] at h
  exact (h.alloc _).alloc _
end Go.Proofs.YtjpmpjbembhldaaGreatDoor.Sp
namespace Go.Proofs.YtjpmpjbembhldaaGreatDoor.Sp
open Go.RowKit Go.Shelf Go.Lib
attribute [local go_sem] Oper.semAt_some
namespace M
theorem nums_prefix_none {a b:List (List UInt8)} (h:nums a=none):nums (a++b)=none:=by rw [nums_app,h];rfl
theorem nums_snoc {a:List (List UInt8)} {t:List UInt8} {ns:List Int} (h:nums a=some ns):nums (a++ [t])=(numOf t).map (fun n=>ns++ [n]):=by
 rw [nums_app,h]
 unfold nums
 cases numOf t with
 |none=>rfl
 |some v=>simp [nums]
theorem parse_no {s:List UInt8} (hs:s≠ []) {pre:List (List UInt8)} (hp:pre<+:cuts s) (h:nums pre=none∨2000<pre.length):parse s=none:=by
 obtain ⟨q,hq⟩:=hp
 unfold parse
 rw [if_neg hs]
 rcases h with h|h
 ·rw [←hq,nums_prefix_none h];rfl
 ·cases hn:nums (cuts s) with
  |none=>rfl
  |some ns=>
   have:=nums_len hn
   rw [←hq,List.length_append] at this
   rw [parseN_some,if_pos (.inr (by omega))]
theorem parse_odd {s:List UInt8} (hs:s≠ []) {ns:List Int} (hn:nums (cuts s)=some ns) (h:ns.length%2=1):parse s=none:=by
 unfold parse
 rw [if_neg hs,hn,parseN_some,if_pos (.inl h)]
theorem parse_yes {s:List UInt8} (hs:s≠ []) {ns:List Int} (hn:nums (cuts s)=some ns) (h:ns.length%2=0) (hl:ns.length≤2000):parse s=some (pairs ns):=by
 unfold parse
 rw [if_neg hs,hn,parseN_some,if_neg (by omega)]
theorem pairs_odd {ms:List Int} {a:Int} (h:ms.length%2=0):pairs (ms++ [a])=pairs ms:=by rw [pairs_app _ _ h];simp [pairs]
theorem pairs_two {ms:List Int} {a b:Int} (h:ms.length%2=0):pairs ((ms++ [a])++ [b])=pairs ms++ [(a,b)]:=by rw [List.append_assoc,pairs_app _ _ h];rfl
end M
theorem ownsRow_turned {own:Nat→Prop} {A B:World} {base:Nat} {e:TypeId} {size n:Nat} {v:Value} {xs:List Value} (h:A.ownsRow base e size v n xs) (ht:Turned own A B) (hn: ∀ k,base≤k→ ¬ own k):B.ownsRow base e size v n xs:=by
 refine ⟨h.1, ?_⟩
 rcases h.2 with ⟨hv,h0⟩|⟨g,cap,cur,hv,hb,hg,h1⟩
 ·exact .inl ⟨hv,h0⟩
 ·exact .inr ⟨g,cap,cur,hv,hb,(ht.block g (Array.getElem?_eq_some_iff.1 hg).1 (hn g hb)).trans hg,h1⟩
theorem ownsRow_block {A:World} {base:Nat} {e:TypeId} {size n:Nat} {v:Value} {xs:List Value} (h:A.ownsRow base e size v n xs): ∀ g,v.ownBlock=some g→base≤g:=by
 intro g hg
 rcases h.2 with ⟨hv,_⟩|⟨g',cap,cur,hv,hb,_⟩
 ·subst hv;simp [Value.ownBlock] at hg
 ·subst hv
  have:g'=g:=by simpa [Value.ownBlock] using hg
  omega
theorem wpListIn_appP {F:Fence} {n:Nat} {W:World} {ops:Array Oper} {rest:List Oper} {o:Oper} {a:Act} {Q:Exit→Act→World→Prop} (hgd:o.guard=none) (s x:Operand)
  (ho:o.op= .call { callee:= .builtin .append,args:= #[s,x],argTypes:= #[22,22] })
  (base:Nat) (v:Value) (l:List M.Pt) (p q:Int) (hs:a.eval s=v) (hown:OwnP W base v l) (hbase:base≤W.heap.size)
  (hx:a.eval x= .slice (some ⟨W.heap.size,0,none⟩) 1 1) (hl:l.length≤1048576)
  (h: ∀ v' w',Hid (OwnP w' base v' (l++ [(p,q)]))→Hid (Below base W w')→Hid ((W.alloc (.cells #[.int .i64 p, .int .i64 q] 52)).grownBy w' v.ownBlock)→wpListIn F n Tryz.prog ops Q rest (a.put o.dst v') w'):
  wpListIn F n Tryz.prog ops Q (o::rest) a (W.alloc (.cells #[.int .i64 p, .int .i64 q] 52)):=by
 obtain ⟨i0,hi,hz0,hz1,hz2⟩:=info_parts part_parts
 have hownA:(W.alloc (.cells #[.int .i64 p, .int .i64 q] 52)).ownsRow base 52 2 v l.length (pcells l):=World.ownsRow.alloc hown _
 refine wpListIn_append_own _ hgd s x 22 ho base 52 i0 (.agg #[.int .i64 0, .int .i64 0]) 2 16 Tryz.underlying22 hi hz0 hz1 hz2 rfl (by decide) v l.length (pcells l) hs hownA ⟨W.heap.size,0,none⟩ 1 1 [.int .i64 p, .int .i64 q] hx rfl ?_ ?_ ?_ ?_ ?_ ?_
 ·intro j u hj
  match j,hj with
  |0,hj=>simp at hj;subst hj;simp [Addr.add,World.cell?_alloc_mark]
  |1,hj=>simp at hj;subst hj;simp [Addr.add,World.cell?_alloc_mark]
 ·intro u hu
  simp at hu
  rcases hu with rfl|rfl<;>rfl
 ·unfold maxLen;omega
 ·omega
 ·simp;omega
 ·intro v' w' hown' hgrow _
  refine h v' w' (Lib.hid ?_) (Lib.hid ?_) (Lib.hid hgrow)
  ·unfold OwnP
   rw [pcells_app,List.length_append]
   exact hown'
  ·refine below_grown ((Below.refl base W).alloc hbase _) hgrow (by simp;omega) ?_
   intro g hg
   rcases hownA.2 with ⟨rfl,_⟩|⟨g',cap,cur,rfl,hb,_⟩
   ·simp [Value.ownBlock] at hg
   ·have:g'=g:=by simpa [Value.ownBlock] using hg
    omega
def PartsTo (o:Option (List M.Pt)) (w:World) (e:Ending) (w':World):Prop:=
 ∃ v,e= .returned (.tuple #[v, .bool o.isSome])∧OwnP w' w.heap.size v (o.getD [])∧Below w.heap.size w w'
structure PB (w V:World) (v:Value) (pa pl:Int) (b:Bool):Prop where
 res:Boxed V w.heap.size 22 (.slice none 0 0)
 ok:Boxed V (w.heap.size+1) 4 (.bool false)
 box:Boxed V (w.heap.size+2) 22 v
 part:BoxP V (w.heap.size+3) pa pl
 whole:Boxed V (w.heap.size+4) 4 (.bool b)
 turned:Turned (fun k=>w.heap.size≤k) w V
theorem BoxP.turned {own:Nat→Prop} {A B:World} {g:Nat} {p q:Int} (h:BoxP A g p q) (ht:Turned own A B) (hn: ¬ own g):BoxP B g p q:=(ht.block g h.lt hn).trans h
theorem PB.on {w A B:World} {v:Value} {pa pl:Int} {b:Bool} (h:PB w A v pa pl b) {own:Nat→Prop} (ht:Turned own A B) (hn: ∀ k,own k→w.heap.size+5≤k):PB w B v pa pl b:=
 ⟨boxed_turned h.res ht (fun ho=>by have:=hn _ ho;omega),boxed_turned h.ok ht (fun ho=>by have:=hn _ ho;omega),boxed_turned h.box ht (fun ho=>by have:=hn _ ho;omega),h.part.turned ht (fun ho=>by have:=hn _ ho;omega),
  boxed_turned h.whole ht (fun ho=>by have:=hn _ ho;omega),h.turned.trans (ht.mono (fun k hk=>by have:=hn k hk;omega))⟩
theorem BoxP.far {A:World} {g c:Nat} {p q:Int} (h:BoxP A g p q) (hne:g≠c) (i:Nat) (u:Value):BoxP (A.setCell ⟨c,i,none⟩ u) g p q:=(heap_setCell_other A ⟨c,i,none⟩ g u hne).trans h
theorem boxed_set_far2 {A:World} {b c i:Nat} {t:TypeId} {v u:Value} (h:Boxed A b t v) (hne:b≠c):Boxed (A.setCell ⟨c,i,none⟩ u) b t v:=(heap_setCell_other A ⟨c,i,none⟩ b u hne).trans h
theorem PB.setWhole {w A:World} {v:Value} {pa pl:Int} {b:Bool} (h:PB w A v pa pl b) (b':Bool):PB w (A.setCell ⟨w.heap.size+4,0,none⟩ (.bool b')) v pa pl b':=
 ⟨boxed_set_far h.res (by omega),boxed_set_far h.ok (by omega),boxed_set_far h.box (by omega),h.part.far (by omega) 0 _,h.whole.set _,h.turned.trans (.setCell (p:=⟨w.heap.size+4,0,none⟩) (Nat.le_add_right _ _) _ _)⟩
theorem PB.setAt {w A:World} {v:Value} {pa pl:Int} {b:Bool} (h:PB w A v pa pl b) (x:Int):PB w (A.setCell ⟨w.heap.size+3,0,none⟩ (.int .i64 x)) v x pl b:=
 ⟨boxed_set_far h.res (by omega),boxed_set_far h.ok (by omega),boxed_set_far h.box (by omega),h.part.set0 x,boxed_set_far h.whole (by omega),h.turned.trans (.setCell (p:=⟨w.heap.size+3,0,none⟩) (Nat.le_add_right _ _) _ _)⟩
theorem PB.setLen {w A:World} {v:Value} {pa pl:Int} {b:Bool} (h:PB w A v pa pl b) (x:Int):PB w (A.setCell ⟨w.heap.size+3,1,none⟩ (.int .i64 x)) v pa x b:=
 ⟨boxed_set_far2 h.res (by omega),boxed_set_far2 h.ok (by omega),boxed_set_far2 h.box (by omega),h.part.set1 x,boxed_set_far2 h.whole (by omega),h.turned.trans (.setCell (p:=⟨w.heap.size+3,1,none⟩) (Nat.le_add_right _ _) _ _)⟩
theorem PB.setBox {w A:World} {v:Value} {pa pl:Int} {b:Bool} (h:PB w A v pa pl b) (x:Value):PB w (A.setCell ⟨w.heap.size+2,0,none⟩ x) x pa pl b:=
 ⟨boxed_set_far h.res (by omega),boxed_set_far h.ok (by omega),h.box.set _,h.part.far (by omega) 0 _,boxed_set_far h.whole (by omega),h.turned.trans (.setCell (p:=⟨w.heap.size+2,0,none⟩) (Nat.le_add_right _ _) _ _)⟩
theorem PB.setNo {w A:World} {v:Value} {pa pl:Int} {b:Bool} (h:PB w A v pa pl b):PB w ((A.setCell ⟨w.heap.size,0,none⟩ (.slice none 0 0)).setCell ⟨w.heap.size+1,0,none⟩ (.bool false)) v pa pl b:=
 ⟨boxed_set_far (h.res.set _) (by omega),(boxed_set_far h.ok (by omega)).set _,boxed_set_far (boxed_set_far h.box (by omega)) (by omega),(h.part.far (by omega) 0 _).far (by omega) 0 _,boxed_set_far (boxed_set_far h.whole (by omega)) (by omega),
  (h.turned.trans (.setCell (p:=⟨w.heap.size,0,none⟩) (Nat.le_refl _) _ _)).trans (.setCell (p:=⟨w.heap.size+1,0,none⟩) (Nat.le_add_right _ _) _ _)⟩
theorem PB.new (w:World):PB w (((((w.alloc (.cells #[.slice none 0 0] 22)).alloc (.cells #[.bool false] 4)).alloc (.cells #[.slice none 0 0] 22)).alloc (.cells #[.int .i64 0, .int .i64 0] 52)).alloc (.cells #[.bool true] 4)) (.slice none 0 0) 0 0 true:=by
 have h1:=Boxed.new (w.alloc (.cells #[.slice none 0 0] 22)) 4 (.bool false)
 have h2:=Boxed.new ((w.alloc (.cells #[.slice none 0 0] 22)).alloc (.cells #[.bool false] 4)) 22 (.slice none 0 0)
 have h3:=BoxP.new (((w.alloc (.cells #[.slice none 0 0] 22)).alloc (.cells #[.bool false] 4)).alloc (.cells #[.slice none 0 0] 22)) 0 0
 have h4:=Boxed.new ((((w.alloc (.cells #[.slice none 0 0] 22)).alloc (.cells #[.bool false] 4)).alloc (.cells #[.slice none 0 0] 22)).alloc (.cells #[.int .i64 0, .int .i64 0] 52)) 4 (.bool true)
 simp only [World.size_alloc] at h1 h2 h3 h4
 exact ⟨((((Boxed.new w 22 (.slice none 0 0)).alloc _).alloc _).alloc _).alloc _,((h1.alloc _).alloc _).alloc _,(h2.alloc _).alloc _,(Below.heap_alloc _ _ _ (by simp)).trans h3,h4,
  ((((Turned.alloc _ _ _).trans (.alloc _ _ _)).trans (.alloc _ _ _)).trans (.alloc _ _ _)).trans (.alloc _ _ _)⟩
def ParseAt (w:World) (pre:List ByteArray) (V:World):Prop:=
 ∃ (ns:List Int) (v:Value) (pa pl:Int) (b:Bool),M.nums (pre.map tl)=some ns∧ns.length≤2000∧PB w V v pa pl b∧((b=true∧ns.length%2=0)∨(b=false∧ ∃ ms,ns=ms++ [pa]∧ms.length%2=0))∧OwnP V (w.heap.size+10) v (M.pairs ns)
def ParseNo (w:World) (pre:List ByteArray) (V:World):Prop:=
 (∃ v pa pl b,PB w V v pa pl b)∧(M.nums (pre.map tl)=none∨2000<pre.length)
theorem results_parse {tmps:Array Value} {a b:Nat} {u v:Value} {w:World} (h2:tmps.getD 2 undef= .pointer (some ⟨a,0,none⟩)) (h3:tmps.getD 3 undef= .pointer (some ⟨b,0,none⟩))
  (c1:w.cell? ⟨a,0,none⟩=some u) (c2:w.cell? ⟨b,0,none⟩=some v):(results Tryz.f75 tmps).run Tryz.prog w= .ok (.tuple #[u,v]) w:=by
 simp only [results,show Tryz.f75.results= #[ResultVar.cell 2 22,ResultVar.cell 3 4] from rfl]
 rw [Array.getD_eq_getD_getElem?] at h2 h3
 simp [go_sem,h2,h3,c1,c2]
set_option maxRecDepth 100000 in
set_option maxHeartbeats 2000000 in
theorem parse_in (s:ByteArray) (hs:s.size≤1048576) (B:Nat) (w:World) (n:Nat) (hB:B≤w.heap.size) (ht:EV B w):
  CallsIn Fence.wide n Tryz.prog 75 #[.string s] w fun e w'=> ∃ v,e= .returned (.tuple #[v, .bool (M.parse (tl s)).isSome])∧OwnP w' (w.heap.size) v ((M.parse (tl s)).getD [])∧Turned (fun k=>w.heap.size≤k) w w':=by
 have HT:=hid ht
 clear ht
 refine callsIn_of_wp_marks Tryz.func75 rfl trivial ?_ rfl
 simp only [Tryz.ntmps75,List.size_toArray,List.length_cons,List.length_nil,Nat.reduceAdd,Nat.reduceSub,Array.replicate_succ,Array.replicate_zero,List.push_toArray,List.append_toArray,List.nil_append,List.cons_append]
 by_cases h0:tl s= []
 ·have HP:=hid (show M.parse (tl s)=some [] by rw [h0];rfl)
  have he:s.toList.isEmpty=true:=by rw [tl_eq,h0];rfl
  clear h0
  gi_wp2
  have hb1:=((Boxed.new w 22 (.slice none 0 0)).alloc (.cells #[.bool false] 4))
  have hb2:=Boxed.new (w.alloc (.cells #[.slice none 0 0] 22)) 4 (.bool true)
  rw [World.size_alloc] at hb2
  have ht2:Turned (fun k=>w.heap.size≤k) w ((w.alloc (.cells #[.slice none 0 0] 22)).alloc (.cells #[.bool true] 4)):=(Turned.alloc _ _ _).trans (.alloc _ _ _)
  refine ⟨_,results_parse rfl rfl (((Boxed.new w 22 (.slice none 0 0)).alloc _).cell) hb2.cell,_,by rw [HP.out];rfl, ?_,ht2⟩
  rw [HP.out]
  exact OwnP.nil _ _
 have HN:=hid h0
 have he:s.toList.isEmpty=false:=by rw [tl_eq];simpa using h0
 clear h0
 gi_wp2_with (first
  |(refine ⟨trivial,noDepth, ?_⟩;gi_at_call 116;refine (callsIn_wide.2 (seq_make _ _)).mono ?_;rintro e w' ⟨rfl,rfl⟩))
 have hPB:=PB.new w
 obtain ⟨W5,hW5⟩: ∃ W5,(((((w.alloc (.cells #[.slice none 0 0] 22)).alloc (.cells #[.bool false] 4)).alloc (.cells #[.slice none 0 0] 22)).alloc (.cells #[.int .i64 0, .int .i64 0] 52)).alloc (.cells #[.bool true] 4))=W5:=⟨_,rfl⟩
 have hs5:W5.heap.size=w.heap.size+5:=by rw [←hW5];simp
 rw [hW5] at hPB
 rw [hW5]
 clear hW5
 rw [show w.heap.size+1+1+1+1+1=W5.heap.size from by omega,show w.heap.size+1+1+1+1=w.heap.size+4 from rfl,show w.heap.size+1+1+1=w.heap.size+3 from rfl,show w.heap.size+1+1=w.heap.size+2 from rfl]
 have HZ:=hid (show (((W5.alloc (.cells #[.string s] 9)).alloc (.cells #[.string sl] 9)).alloc (.cells #[.int .i64 0] 3)).heap.size=W5.heap.size+3 by simp)
 have HS5:=hid hs5
 clear hs5
 have hown: ∀ k,ownOf (pvOf (W5.heap.size+1) W5.heap.size (W5.heap.size+2)) 2 (((W5.alloc (.cells #[.string s] 9)).alloc (.cells #[.string sl] 9)).alloc (.cells #[.int .i64 0] 3)) k→w.heap.size+5≤k∧k<w.heap.size+10:=by
  have h1:=HZ.out;have h2:=HS5.out
  rintro k ((rfl|rfl|rfl)|⟨h3,h4⟩)<;>omega
 have hne:tl s≠ []:=HN.out
 have hNE:=hid hne
 clear hne
 refine wpIn_range (gf:=176) (lb:= #[.pointer (some ⟨W5.heap.size+1,0,none⟩), .pointer (some ⟨W5.heap.size,0,none⟩), .pointer (some ⟨W5.heap.size+2,0,none⟩)]) rfl (enters_of Tryz.func176 (by kernel_rfl) rfl)
  (seq_iter s hs (W5.heap.size+1) W5.heap.size (W5.heap.size+2) (by omega) (by omega)) (fun o1 o2=>seq_ok s W5 o1 o2) ?pv (fun _=>rfl)
  (fun pre V=>ParseAt w pre V) (fun j pre V=>j= .ret∧ParseNo w pre V) ?hI ?hIx ?h0
  (fun x=> { tmps:= #[.string s,undef, .pointer (some ⟨w.heap.size,0,none⟩), .pointer (some ⟨w.heap.size+1,0,none⟩), .pointer (some ⟨w.heap.size+2,0,none⟩), .pointer (some ⟨w.heap.size+3,0,none⟩), .pointer (some ⟨w.heap.size+4,0,none⟩), .string x,undef,undef, .string s, .bool false, .string s,.func (.func 176) #[] #[.pointer (some ⟨W5.heap.size+1,0,none⟩), .pointer (some ⟨W5.heap.size,0,none⟩), .pointer (some ⟨W5.heap.size+2,0,none⟩)], .string x,undef,undef,undef,undef,undef,undef,undef,undef,undef,undef,undef,undef,undef,undef,undef,undef,undef,undef,undef,undef,undef,undef,undef,undef,undef,undef],defers:= [] }) ?assign ?body ?done ?stop
 case pv=>
  have:=HZ.out
  rintro k (rfl|rfl|rfl)<;>omega
 case hI=>
  rintro pre A B ⟨ns,v,pa,pl,b,h1,h2,h3,h4,h5⟩ ht
  exact ⟨ns,v,pa,pl,b,h1,h2,h3.on ht (fun k hk=>(hown k hk).1),h4,ownsRow_turned h5 ht (fun k hk ho=>by have:=hown k ho;omega)⟩
 case hIx=>
  rintro j pre A B ⟨h0,⟨v,pa,pl,b,h3⟩,h4⟩ ht
  exact ⟨h0,⟨v,pa,pl,b,h3.on ht (fun k hk=>(hown k hk).1)⟩,h4⟩
 case h0=>
  have h:PB w (((W5.alloc (.cells #[.string s] 9)).alloc (.cells #[.string sl] 9)).alloc (.cells #[.int .i64 0] 3)) (.slice none 0 0) 0 0 true:=
   hPB.on (own:=fun _=>False) (((Turned.alloc _ _ _).trans (.alloc _ _ _)).trans (.alloc _ _ _)) (fun _ h=>h.elim)
  exact ⟨[],_,0,0,true,rfl,Nat.zero_le _,h, .inl ⟨rfl,rfl⟩,OwnP.nil _ _⟩
 case assign=>
  intro l' m x V K hK
  gi_wp2
  exact hK
 case body=>
  rintro l' m pre x V ⟨ns,v,pa,pl,b,hn,hnl,hpb,hpar,hown2⟩ hsz hR
  have hxl:x.size≤1048576:=by
   obtain ⟨q,hq⟩:=hR
   have:=M.joinlen_cuts (tl s)
   rw [←hq] at this
   simp at this
   have h6:(tl x).length=x.size:=rfl
   have h7:(tl s).length=s.size:=rfl
   omega
  have hbv:Below w.heap.size w V:=hpb.turned.below (fun _ hk=>hk) (Nat.le_refl _)
  have HC:=hid (number_any x hxl B V (Nat.le_trans hB hbv.size) (HT.out.on (hbv.mono hB)))
  have hbase:w.heap.size+10≤V.heap.size:=by have h1:=HZ.out;have h2:=HS5.out;omega
  have HON:=hid hown2
  have HPB:=hid hpb
  have HNS:=hid (M.nums_snoc (t:=tl x) hn)
  have hpl:=M.pairs_len ns
  clear hown2 hR hbv hn
  gi_wp2_with fail
  refine ⟨trivial,noDepth, ?_⟩
  refine (CallsIn.inRound _ (callsIn_wide.2 HC.out)).mono ?_
  rintro e V1 ⟨rfl,hb1⟩
  have htn:Turned (fun k=>V.heap.size≤k) V V1:= .of_below hb1 (fun k hk h=>absurd hk (by omega))
  have hpb1:=HPB.out.on htn (fun k hk=>by omega)
  have hon1:OwnP V1 (w.heap.size+10) v (M.pairs ns):=HON.out.later hb1
  have hsp1:Spared (ownOf (pvOf (W5.heap.size+1) W5.heap.size (W5.heap.size+2)) (0+2) (((W5.alloc (.cells #[.string s] 9)).alloc (.cells #[.string sl] 9)).alloc (.cells #[.int .i64 0] 3))) V V1:=
   ⟨hb1.size,fun k ho hk=>hb1.block k hk⟩
  have hbase1:w.heap.size+10≤V1.heap.size:=Nat.le_trans hbase hb1.size
  have HSP:=hid hsp1
  have HON1:=hid hon1
  have HB1:=hid hb1
  have HPB1:=hid hpb1
  clear HON HPB HC htn hon1 hsp1 hb1
  obtain ⟨A0,c0,rfl,_,_⟩:=HON1.out.rd
  have cr0:=hpb1.res.cell
  have cr1:=hpb1.ok.cell
  have cr2:=hpb1.box.cell
  have cr3:=hpb1.part.cell0
  have cr4:=hpb1.part.cell1
  have cr5:=hpb1.whole.cell
  have fr0:=hpb1.res.frozen
  have fr1:=hpb1.ok.frozen
  have fr2:=hpb1.box.frozen
  have fr3:=hpb1.part.frozen 0
  have fr4:=hpb1.part.frozen 1
  have fr5:=hpb1.whole.frozen
  clear hpb1
  cases hnx:M.numOf (tl x) with
  |none=>
   rw [hnx] at HNS
   have HNO:=hid (show M.nums ((pre++ [x]).map tl)=none by rw [List.map_append,List.map_singleton];exact HNS.out)
   unfold numV
   dsimp only
   clear hnx HNS hpar
   gi_wp2
   refine ⟨HSP.out.trans (Spared.turned ((Turned.setCell (own:=fun k=>k<w.heap.size+5) (p:=⟨w.heap.size,0,none⟩) (by show w.heap.size<_;omega) V1 _).trans (.setCell (p:=⟨w.heap.size+1,0,none⟩) (by show w.heap.size+1<_;omega) _ _)) (fun k hk ho=>by have:=hown k ho;omega)),rfl,⟨_,_,_,_,HPB1.out.setNo⟩, .inl HNO.out⟩
  |some nx=>
   rw [hnx] at HNS
   have HNY:=hid (show M.nums ((pre++ [x]).map tl)=some (ns++ [nx]) by rw [List.map_append,List.map_singleton];exact HNS.out)
   unfold numV
   dsimp only
   clear hnx HNS
   by_cases hfull:(M.pairs ns).length=1000
   ·have HLG:=hid (show 2000<(pre++ [x]).length by
     have h1:=M.nums_len HNY.out
     rw [List.length_map,List.length_append,List.length_singleton] at h1
     rw [←h1];omega)
    have d1:((((M.pairs ns).length:Nat):Int)==1000)=true:=by rw [beq_iff_eq];omega
    clear hpar hpl
    gi_wp2
    refine ⟨HSP.out.trans (Spared.turned ((Turned.setCell (own:=fun k=>k<w.heap.size+5) (p:=⟨w.heap.size,0,none⟩) (by show w.heap.size<_;omega) V1 _).trans (.setCell (p:=⟨w.heap.size+1,0,none⟩) (by show w.heap.size+1<_;omega) _ _)) (fun k hk ho=>by have:=hown k ho;omega)),rfl,⟨_,_,_,_,HPB1.out.setNo⟩, .inr HLG.out⟩
   ·have d1:((((M.pairs ns).length:Nat):Int)==1000)=false:=by rw [beq_eq_false_iff_ne];omega
    rcases hpar with ⟨rfl,hev⟩|⟨rfl,ms,rfl,hev⟩
    ·have HPR:=hid (M.pairs_odd (a:=nx) hev)
     have HEV:=hid hev
     have h2k:=hid (show ns.length+1≤2000 by omega)
     clear hpl hev
     have g1:=HPB1.out.setWhole false
     have gf:=g1.part.frozen 0
     have gc:=g1.part.cell0
     generalize hpn:(M.pairs ns).length=pn at*
     gi_wp2
     refine ⟨HSP.out.trans (Spared.turned ((Turned.setCell (own:=fun k=>k<w.heap.size+5) (p:=⟨w.heap.size+4,0,none⟩) (by show w.heap.size+4<_;omega) V1 _).trans (.setCell (p:=⟨w.heap.size+3,0,none⟩) (by show w.heap.size+3<_;omega) _ _)) (fun k hk ho=>by have:=hown k ho;omega)), ?_⟩
     refine ⟨ns++ [nx],_,nx,pl,false,HNY.out,by rw [List.length_append,List.length_singleton];exact h2k.out,g1.setAt nx, .inr ⟨rfl,ns,rfl,HEV.out⟩, ?_⟩
     rw [HPR.out]
     exact OwnP.set (OwnP.set HON1.out (by show w.heap.size+4<_;omega) _) (by show w.heap.size+3<_;omega) _
    ·have HPR:=hid (M.pairs_two (a:=pa) (b:=nx) hev)
     have HPQ:=hid (M.pairs_odd (a:=pa) hev)
     have h2k:=hid (show (ms++ [pa]).length+1≤2000 by rw [List.length_append,List.length_singleton] at*;omega)
     have HEV:=hid (show ((ms++ [pa])++ [nx]).length%2=0 by simp;omega)
     clear hpl hev
     have g1:=HPB1.out.setWhole true
     have g2:=g1.setLen nx
     have gf:=g1.part.frozen 1
     have gc:=g1.part.cell1
     have k0:=g2.part.cell0
     have k1:=g2.part.cell1
     have kb:=g2.box.cell
     have fb:=g2.box.frozen
     have HG2:=hid g2
     have ho2:OwnP ((V1.setCell ⟨w.heap.size+4,0,none⟩ (.bool true)).setCell ⟨w.heap.size+3,1,none⟩ (.int .i64 nx)) (w.heap.size+10) (.slice A0 (M.pairs (ms++ [pa])).length c0) (M.pairs (ms++ [pa])):=
      OwnP.set (OwnP.set HON1.out (by show w.heap.size+4<_;omega) _) (by show w.heap.size+3<_;omega) _
     have hl2:(M.pairs (ms++ [pa])).length≤1048576:=by rw [M.pairs_len];omega
     have hbs2:w.heap.size+10≤((V1.setCell ⟨w.heap.size+4,0,none⟩ (.bool true)).setCell ⟨w.heap.size+3,1,none⟩ (.int .i64 nx)).heap.size:=by simpa [World.setCell] using hbase1
     have HO2:=hid ho2
     clear g1 g2 ho2
     gi_wp2_with (gi_at_builtin;refine Hid.out ?_)
     refine Lib.hid ?_
     refine wpListIn_appP rfl _ _ rfl (w.heap.size+10) (.slice A0 (M.pairs (ms++ [pa])).length c0) (M.pairs (ms++ [pa])) pa nx (by simp [Act.eval]) HO2.out hbs2 (by simp [Act.eval]) hl2 ?_
     intro v' w9 ho9 hb9 hg9
     have ht9:=Turned.grown (own:=fun k=>w.heap.size+10≤k) hg9.out (fun r e=>ownsRow_block HO2.out r e)
     have ht8:=(Turned.alloc (fun k=>w.heap.size+10≤k) ((V1.setCell ⟨w.heap.size+4,0,none⟩ (.bool true)).setCell ⟨w.heap.size+3,1,none⟩ (.int .i64 nx)) (.cells #[.int .i64 pa, .int .i64 nx] 52)).trans ht9
     have g9:=HG2.out.on ht8 (fun k hk=>Nat.le_trans (by omega) hk)
     have c9:=g9.box.cell
     have f9:=g9.box.frozen
     obtain ⟨A9,cc9,hv9,_,_⟩:=ho9.out.rd
     subst hv9
     have G9:=hid g9
     have T8:=hid ht8
     clear g9 ht8 ht9
     gi_wp2
     refine ⟨HSP.out.trans (Spared.turned ((((Turned.setCell (own:=fun k=>k<w.heap.size+5∨w.heap.size+10≤k) (p:=⟨w.heap.size+4,0,none⟩) (.inl (by show w.heap.size+4<_;omega)) V1 _).trans (.setCell (p:=⟨w.heap.size+3,1,none⟩) (.inl (by show w.heap.size+3<_;omega)) _ _)).trans (T8.out.mono (fun k hk=> .inr hk))).trans (.setCell (p:=⟨w.heap.size+2,0,none⟩) (.inl (by show w.heap.size+2<_;omega)) _ _)) (fun k hk ho=>by have:=hown k ho;omega)), ?_⟩
     refine ⟨_,_,pa,nx,true,HNY.out,by rw [List.length_append,List.length_singleton];exact h2k.out,G9.out.setBox _, .inl ⟨rfl,HEV.out⟩, ?_⟩
     rw [HPR.out,←HPQ.out]
     have ho10:=ho9.out
     rw [show (M.pairs (ms++ [pa])++ [(pa,nx)]).length=(M.pairs (ms++ [pa])).length+1 by simp] at ho10
     exact OwnP.set (p:=⟨w.heap.size+2,0,none⟩) ho10 (by show w.heap.size+2<_;omega) _
 case done=>
  rintro xs V hS ⟨ns,v,pa,pl,b,hn,hnl,hpb,hpar,hown2⟩ hsz hk
  obtain ⟨A0,c0,rfl,_,_⟩:=hown2.rd
  have HON:=hid hown2
  have HPB:=hid hpb
  rw [hS] at hn
  obtain ⟨v,hv⟩: ∃ v,v=Value.slice A0 (M.pairs ns).length c0:=⟨_,rfl⟩
  have cr5:=hpb.whole.cell
  have cr2:=hpb.box.cell
  have fr0:=hpb.res.frozen
  have fr1:=hpb.ok.frozen
  have cr0:=hpb.res.cell
  have cr1:=hpb.ok.cell
  have hK:(((W5.alloc (.cells #[.string s] 9)).alloc (.cells #[.string sl] 9)).alloc (.cells #[.int .i64 0] 3)).heap.size=w.heap.size+8:=by rw [HZ.out,HS5.out]
  have e0:w.heap.size+8≠w.heap.size:=by omega
  have e1:w.heap.size+8≠w.heap.size+1:=by omega
  rw [hK] at hk
  have HKD:=hid hk
  have HKK:=hid hK
  clear hk hK hpb hown2
  rcases hpar with ⟨rfl,hev⟩|⟨rfl,ms,rfl,hev⟩
  ·have HY:=hid (M.parse_yes hNE.out hn hev hnl)
   clear hn hev
   have HV:=hid hv
   clear hv
   gi_wp2
   rw [←HV.out] at HPB HON⊢
   have hk2:=((Below.heap_setCell _ ⟨w.heap.size+1,0,none⟩ (.bool true) _ e1).trans (Below.heap_setCell V ⟨w.heap.size,0,none⟩ v _ e0)).trans HKD.out
   refine ⟨by simp, .inl ⟨_,_,by rw [HKK.out],run_takeDeferred hk2, ?_⟩⟩
   have k2:=boxed_set_far (u:= .bool true) (HPB.out.res.set v) (show w.heap.size≠w.heap.size+1 by omega)
   have k3:=(boxed_set_far (u:=v) HPB.out.ok (show w.heap.size+1≠w.heap.size by omega)).set (.bool true)
   have hp:=Turned.putObj (own:=fun k=>k=w.heap.size+8) rfl ((V.setCell ⟨w.heap.size,0,none⟩ v).setCell ⟨w.heap.size+1,0,none⟩ (.bool true)) (.deferred none)
   refine ⟨_,results_parse rfl rfl (boxed_turned k2 hp (fun e=>e0 e.symm)).cell (boxed_turned k3 hp (fun e=>e1 e.symm)).cell,v,by rw [HY.out];rfl, ?_, ?_⟩
   ·rw [HY.out]
    exact OwnP.lower (ownsRow_turned (OwnP.set (OwnP.set HON.out (by show w.heap.size<_;omega) _) (by show w.heap.size+1<_;omega) _) hp (fun k hk ho=>by omega)) (by omega)
   ·exact ((HPB.out.turned.trans (.setCell (p:=⟨w.heap.size,0,none⟩) (Nat.le_refl _) _ _)).trans (.setCell (p:=⟨w.heap.size+1,0,none⟩) (Nat.le_succ _) _ _)).trans (hp.mono (fun k hk=>by omega))
  ·have HY:=hid (M.parse_odd hNE.out hn (by rw [List.length_append,List.length_singleton];omega))
   clear hn hev
   gi_wp2
   have hk2:=((Below.heap_setCell _ ⟨w.heap.size+1,0,none⟩ (.bool false) _ e1).trans (Below.heap_setCell V ⟨w.heap.size,0,none⟩ (.slice none 0 0) _ e0)).trans HKD.out
   refine ⟨by simp, .inl ⟨_,_,by rw [HKK.out],run_takeDeferred hk2, ?_⟩⟩
   have k2:=boxed_set_far (u:= .bool false) (HPB.out.res.set (.slice none 0 0)) (show w.heap.size≠w.heap.size+1 by omega)
   have k3:=(boxed_set_far (u:= .slice none 0 0) HPB.out.ok (show w.heap.size+1≠w.heap.size by omega)).set (.bool false)
   have hp:=Turned.putObj (own:=fun k=>k=w.heap.size+8) rfl ((V.setCell ⟨w.heap.size,0,none⟩ (.slice none 0 0)).setCell ⟨w.heap.size+1,0,none⟩ (.bool false)) (.deferred none)
   refine ⟨_,results_parse rfl rfl (boxed_turned k2 hp (fun e=>e0 e.symm)).cell (boxed_turned k3 hp (fun e=>e1 e.symm)).cell, .slice none 0 0,by rw [HY.out];rfl, ?_, ?_⟩
   ·rw [HY.out]
    exact OwnP.nil _ _
   ·exact ((HPB.out.turned.trans (.setCell (p:=⟨w.heap.size,0,none⟩) (Nat.le_refl _) _ _)).trans (.setCell (p:=⟨w.heap.size+1,0,none⟩) (Nat.le_succ _) _ _)).trans (hp.mono (fun k hk=>by omega))
 case stop=>
  rintro j pre V hS ⟨rfl,⟨v,pa,pl,b,hpb⟩,hno⟩ hsz hk
  have HY:=hid (M.parse_no hNE.out hS (by rw [List.length_map];exact hno))
  have hK:(((W5.alloc (.cells #[.string s] 9)).alloc (.cells #[.string sl] 9)).alloc (.cells #[.int .i64 0] 3)).heap.size=w.heap.size+8:=by rw [HZ.out,HS5.out]
  rw [hK] at hk
  clear hno hS
  gi_wp2
  refine ⟨by simp, .inl ⟨_,_,by rw [hK],run_takeDeferred hk, ?_⟩⟩
  have hp:=Turned.putObj (own:=fun k=>k=w.heap.size+8) rfl V (.deferred none)
  refine ⟨_,results_parse rfl rfl (boxed_turned hpb.res hp (by omega)).cell (boxed_turned hpb.ok hp (by omega)).cell, .slice none 0 0,by rw [HY.out];rfl, ?_, ?_⟩
  ·rw [HY.out]
   exact OwnP.nil _ _
  ·exact hpb.turned.trans (hp.mono (fun k hk=>by omega))
theorem parse_any (s:ByteArray) (hs:s.size≤1048576) (B:Nat) (w:World) (hB:B≤w.heap.size) (ht:EV B w):
  Calls Tryz.prog 75 #[.string s] w (PartsTo (M.parse (tl s)) w):=
 (callsIn_wide.1 (parse_in s hs B w 0 hB ht)).mono fun _ _ ⟨v,he,ho,ht⟩=>⟨v,he,ho,ht.below (fun _ hk=>hk) (Nat.le_refl _)⟩
end Go.Proofs.YtjpmpjbembhldaaGreatDoor.Sp
namespace Go.Proofs.YtjpmpjbembhldaaGreatDoor.Sp
open Go.RowKit Go.Lib
theorem Rd.lit (w:World) (t:TypeId) (mark:Nat × Nat) (zs:List Int) (hz:u8s zs):Rd (w.alloc (.cells (bcells zs).toArray t mark)) (w.heap.size+1) (some ⟨w.heap.size,0,none⟩) zs.length zs:=by
 refine ⟨rfl,hz,fun _=>⟨_,0,rfl,Nat.lt_succ_self _,fun j z hj=> ?_⟩⟩
 rw [World.cell?_alloc_mark,Nat.zero_add]
 simp [bcells,hj]
end Go.Proofs.YtjpmpjbembhldaaGreatDoor.Sp
namespace Go.Proofs.YtjpmpjbembhldaaGreatDoor.Sp
open Go.RowKit Go.Lib
theorem wpList_appY1 {W:World} {ops:Array Oper} {rest:List Oper} {o:Oper} {a:Act} {Q:Exit→Act→World→Prop} (hgd:o.guard=none) (s x:Operand)
  (ho:o.op= .call { callee:= .builtin .append,args:= #[s,x],argTypes:= #[26,26] })
  (base:Nat) (v:Value) (zs:List Int) (z:Int) (hs:a.eval s=v) (hown:OwnY W base v zs) (hbase:base≤W.heap.size) (hz:0≤z∧z≤255)
  (hx:a.eval x= .slice (some ⟨W.heap.size,0,none⟩) 1 1) (hl:zs.length≤1048576)
  (h: ∀ v' w',Hid (OwnY w' base v' (zs++ [z]))→Hid (Below base W w')→Hid ((W.alloc (.cells #[.int .u8 z] 5)).grownBy w' v.ownBlock)→wpList Tryz.prog ops Q rest (a.put o.dst v') w'):
  wpList Tryz.prog ops Q (o::rest) a (W.alloc (.cells #[.int .u8 z] 5)):=by
 have hrd:Rd (W.alloc (.cells #[.int .u8 z] 5)) (W.heap.size+1) (some ⟨W.heap.size,0,none⟩) 1 [z]:=Rd.lit W 5 (0,0) [z] (by intro y hy;rw [List.mem_singleton] at hy;subst hy;exact hz)
 refine wpList_app_bytes hgd s x ho base v zs hs (World.ownsRow.alloc hown _) (W.heap.size+1) (some ⟨W.heap.size,0,none⟩) 1 1 [z] hx hrd (by omega) (by rw [World.size_alloc];omega) ?_
 intro v' w' h1 h2 _
 exact h v' w' (Lib.hid h1) (Lib.hid (below_grown ((Below.refl base W).alloc hbase _) h2 (by rw [World.size_alloc];omega) (fun g e=>(World.ownsRow.lt hown g e).1))) (Lib.hid h2)
end Go.Proofs.YtjpmpjbembhldaaGreatDoor.Sp
namespace Go.Proofs.YtjpmpjbembhldaaGreatDoor.Sp
open Go.RowKit Go.Lib
def ints (l:List UInt8):List Int:=l.map fun c=>(c.toNat:Int)
theorem ints_app (a b:List UInt8):ints (a++b)=ints a++ints b:=by simp [ints]
theorem ints_len (a:List UInt8):(ints a).length=a.length:=by simp [ints]
theorem ints_u8 (a:List UInt8):u8s (ints a):=by
 intro z hz
 obtain ⟨c,_,rfl⟩:=List.mem_map.1 hz
 have:=c.toNat_lt
 omega
theorem bcells_ints (a:List UInt8):bcells (ints a)=Lib.byteCells a:=by simp [bcells,ints,Lib.byteCells]
def KP (w w':World):Prop:= ∀ g p q,BoxP w g p q→BoxP w' g p q
theorem KP.trans {a b c:World} (h:KP a b) (k:KP b c):KP a c:=fun g p q hb=>k g p q (h g p q hb)
theorem BoxP.alloc {w:World} {g:Nat} {p q:Int} (h:BoxP w g p q) (o:Obj):BoxP (w.alloc o) g p q:=(Below.heap_alloc w o g h.lt).trans h
theorem KP.grown {W w':World} {base:Nat} {v:Value} {zs:List Int} {o:Obj} (hown:OwnY (W.alloc o) base v zs) (hg:(W.alloc o).grownBy w' v.ownBlock):KP W w':=by
 intro g p q hb
 have hb2:=hb.alloc o
 refine (hg.block g hb2.lt ?_).trans hb2
 intro e
 rcases hown.2 with ⟨rfl,_⟩|⟨g',cap,cur,rfl,_,hh,_⟩
 ·simp [Value.ownBlock] at e
 ·have hc2:g=g':=by simpa [Value.ownBlock] using e
  subst hc2
  unfold BoxP at hb2
  rw [hb2] at hh
  injection hh with hh
  injection hh with _ ht
  exact absurd ht (by decide)
set_option maxRecDepth 100000 in
set_option maxHeartbeats 1000000 in
theorem appendNumber_any (base:Nat) (v:Value) (L:List UInt8) (x:Int) (w:World) (ho:OwnY w base v (ints L)) (hb:base≤w.heap.size) (ht:EV base w) (hL:L.length≤1048576) (hx: -9223372036854775808≤x∧x≤9223372036854775807):
  Calls Tryz.prog 107 #[v, .int .i64 x] w fun e w'=> ∃ v',e= .returned v'∧OwnY w' base v' (ints (L++M.numT x))∧Below base w w'∧KP w w':=by
 obtain ⟨A,c,rfl,_,_⟩:=own_room ho
 have hc: -9223372036854775808≤M.clip13 x∧M.clip13 x≤9223372036854775807:=by unfold M.clip13;omega
 have hown:w.ownsRow base 5 1 (.slice A (ints L).length c) L.length (Lib.byteCells L):=by
  have:=ho
  unfold OwnY at this
  rw [bcells_ints,ints_len] at this
  rw [ints_len]
  exact this
 have HC:=hid (Tryz.strconv_AppendInt_10 base L.length (M.clip13 x) hc.1 hc.2 (.slice A (ints L).length c) (Lib.byteCells L) w hown hb (by omega) ht.tens)
 unfold M.clip13 at HC
 have HI:=hid (show M.numT x=Lib.itoa (min (max x 0) 9999999999999) from rfl)
 clear hown ho hc
 go_enter Tryz.func107,Tryz.ntmps107
 go_wp2_with fail
 (with_reducible refine HC.out.mono ?_)
 rintro e w1 ⟨v1,rfl,ho1,hb1,hk1⟩
 have HO:=hid (show OwnY w1 base v1 (ints (L++M.numT x)) by
  unfold OwnY
  rw [bcells_ints,ints_len,HI.out,List.length_append]
  have e:Lib.byteCells (L++Lib.itoa (min (max x 0) 9999999999999))=Lib.byteCells L++Lib.byteCells (Lib.itoa (min (max x 0) 9999999999999)):=by simp [Lib.byteCells]
  rw [e]
  exact ho1)
 have HB:=hid hb1
 have HK:=hid hk1
 clear ho1 hb1 hk1 HC HI
 obtain ⟨A1,c1,rfl,_,_⟩:=own_room HO.out
 go_wp2
 go_ret
 exact ⟨_,rfl,HO.out,HB.out,fun g p q hb=>HK.out g _ hb (by simp) (fun c fz e=>by injection e with _ e;exact absurd e (by decide))⟩
set_option maxRecDepth 100000 in
set_option maxHeartbeats 4000000 in
theorem print_any (A:Option Addr) (n c:Nat) (l:List M.Pt) (w:World) (B:Nat) (hr:RdP w w.heap.size A n l) (hi:M.i64s l) (hn:n≤3000) (hB:B≤w.heap.size) (ht:EV B w):
  Calls Tryz.prog 61 #[.slice A n c] w fun e w'=>e= .returned (.string (strOf (ints (M.print l))))∧Below w.heap.size w w':=by
 have HL:=hid hr.len
 have HR:=hid (fun (W:World) (hW:Below w.heap.size w W)=>hr.below hW)
 have HI:=hid hi
 have HT:=hid (fun (W:World) (hW:Below w.heap.size w W)=>(ht.up hB).on hW)
 clear hr hi ht
 go_enter Tryz.func61,Tryz.ntmps61
 go_wp2
 go_loopw [3,8] (fun bv iv wr=> ∃ (k:Nat),iv= .int .i64 k∧k≤n∧Hid (OwnY wr w.heap.size bv (ints (M.print (l.take k))))∧Hid (Below w.heap.size w wr)) (fun _ iv _=>n - (RowKit.intOf iv).toNat)
 case atStart=>exact ⟨0,rfl,Nat.zero_le _,hid (OwnY.nil _ _),hid (Below.refl _ _)⟩
 case round=>
  obtain ⟨k,rfl,hk,HO,HB⟩:=hrel
  obtain ⟨A1,c1,rfl,_,_⟩:=own_room HO.out
  have hbs:=HB.out.size
  by_cases hlt:k<n
  ·obtain ⟨b,off,⟨p,q⟩,rfl,hb,hp,hc1,hc2⟩:=(HR.out wr HB.out).at_ hlt
   obtain ⟨hp64,hq64⟩:=HI.out _ (List.mem_of_getElem? hp)
   dsimp only at hc1 hc2 hp64 hq64
   have d1:decide (k<n)=true:=by rw [decide_eq_true_eq];exact hlt
   obtain ⟨k1,hk1⟩: ∃ k1,k1=k+1:=⟨_,rfl⟩
   have htk:l.take (k+1)=l.take k++ [(p,q)]:=by
    obtain ⟨hkl,he⟩:=List.getElem?_eq_some_iff.1 hp
    rw [List.take_succ_eq_append_getElem hkl,he]
   have hps:=M.print_snoc (l.take k) (p,q)
   rw [←htk,←hk1] at hps
   have hpl:=M.print_len (l.take k)
   rw [List.length_take] at hpl
   have hpl2:(M.print (l.take k)).length≤90000:=by omega
   have hn1:=M.numT_len p
   have hn2:=M.numT_len q
   have HBX:=hid (HB.out.alloc hbs (.cells #[.int .i64 p, .int .i64 q] 52))
   have hbx:=BoxP.new wr p q
   have HOX:Hid (OwnY (wr.alloc (.cells #[.int .i64 p, .int .i64 q] 52)) w.heap.size (.slice A1 (ints (M.print (l.take k))).length c1) (ints (M.print (l.take k)))):=hid (World.ownsRow.alloc HO.out _)
   have HQ:=hid (⟨hp64,hq64⟩:_∧_)
   have HPS:=hid hps
   generalize hL0:M.print (l.take k)=L0 at*
   have HL0:=hid hL0
   have k0':=hbx.cell0
   clear hps htk hp hL0 hpl HO hp64 hq64
   by_cases hk0:k=0
   ·subst hk0
    simp only [Nat.zero_mul,Nat.add_zero] at hc1 hc2
    obtain ⟨LA,hLA⟩: ∃ LA,LA=L0:=⟨_,rfl⟩
    have HFIN:=hid (show M.print (l.take k1)=LA++(M.numT p++44::M.numT q) by
     rw [HPS.out,if_pos (by simp),hLA,←HL0.out];rfl)
    rw [←hLA] at HOX hpl2⊢
    have hla:LA.length≤500000:=by omega
    have HV:=hid HOX.out
    have HBV:=hid HBX.out
    have HXV:=hid hbx
    clear hLA hbx HOX HBX
    go_wp2_with fail
    (with_reducible refine (appendNumber_any w.heap.size _ LA p _ HV.out HBV.out.size (HT.out _ HBV.out) (by omega) HQ.out.1).mono ?_)
    rintro e w2 ⟨v2,rfl,ho2,hb2,hk2⟩
    obtain ⟨A2,c2,rfl,_,_⟩:=own_room ho2
    have hlb:(LA++M.numT p).length≤600000:=by rw [List.length_append];omega
    have HB2:=hid (HBV.out.trans hb2)
    have hbx2:=hk2 _ _ _ HXV.out
    have HX2:=hid hbx2
    have HO2:=hid ho2
    have hbs2:=HB2.out.size
    clear HV HBV HXV ho2 hb2 hk2 hbx2 hla
    generalize hLB:LA++M.numT p=LB at*
    have HLB:=hid hLB
    clear hLB
    have hlb2:(ints LB).length≤1048576:=by rw [ints_len];omega
    go_wp2_with (refine wpList_appY1 rfl (.tmp 22) (.tmp 23) rfl w.heap.size _ (ints LB) 44 (by simp [Act.eval]) HO2.out hbs2 (by decide) (by simp [Act.eval]) hlb2 ?_;intro v3 w3 ho3 hb3 hg3;refine Hid.out ?_)
    refine Lib.hid ?_
    have hbx3:=KP.grown (show OwnY (w2.alloc (.cells #[.int .u8 44] 5)) w.heap.size _ _ from World.ownsRow.alloc HO2.out _) hg3.out _ _ _ HX2.out
    have k1':=hbx3.cell1
    obtain ⟨A3,c3,hv3,_,_⟩:=own_room ho3.out
    subst hv3
    have ho3':OwnY w3 w.heap.size (.slice A3 ((ints LB).length+1) c3) (ints (LB++ [44])):=by
     have h:=ho3.out
     rw [List.length_append,List.length_singleton] at h
     rw [ints_app];exact h
    have HO3:=hid ho3'
    have HB3:=hid (HB2.out.trans hb3.out)
    go_wp2_with fail
    have hlc:(LB++ [44]).length≤1048576:=by rw [List.length_append];simp;omega
    (with_reducible refine (appendNumber_any w.heap.size _ (LB++ [44]) q _ HO3.out HB3.out.size (HT.out _ HB3.out) hlc HQ.out.2).mono ?_)
    rintro e w4 ⟨v4,rfl,ho4,hb4,hk4⟩
    rw [show LB++ [44]++M.numT q=LB++44::M.numT q by simp] at ho4
    obtain ⟨A4,c4,rfl,_,_⟩:=own_room ho4
    have HO4:=hid ho4
    have HB4:=hid (HB3.out.trans hb4)
    clear ho4 hb4 hk4 ho3 hb3 hg3 HX2 HO2 HB2 HO3 HB3
    go_wp2
    go_roundw
    case rel=>exact ⟨k1,(by subst hk1;first|rfl|go_num),by omega,hid (by rw [HFIN.out,show LA++(M.numT p++44::M.numT q)=LB++44::M.numT q by rw [←HLB.out];simp];exact HO4.out),HB4⟩
    case measure=>simp [RowKit.intOf]<;>omega
   ·have hkp:0<k:=by omega
    have hkp2:(0:Int)<(k:Int):=by omega
    have hbs1:=HBX.out.size
    have hl0:(ints L0).length≤1048576:=by rw [ints_len];omega
    go_wp2_with (refine wpList_appY1 rfl (.tmp 15) (.tmp 16) rfl w.heap.size _ (ints L0) 44 (by simp [Act.eval]) HOX.out hbs1 (by decide) (by simp [Act.eval]) hl0 ?_;intro v1 w1 ho1 hb1 hg1;refine Hid.out ?_)
    refine Lib.hid ?_
    have hbx1:=KP.grown (show OwnY ((wr.alloc (.cells #[.int .i64 p, .int .i64 q] 52)).alloc (.cells #[.int .u8 44] 5)) w.heap.size _ _ from World.ownsRow.alloc HOX.out _) hg1.out _ _ _ hbx
    have k0'':=hbx1.cell0
    obtain ⟨A9,c9,hv1,_,_⟩:=own_room ho1.out
    subst hv1
    have ho1':OwnY w1 w.heap.size (.slice A9 ((ints L0).length+1) c9) (ints (L0++ [44])):=by
     have h:=ho1.out
     rw [List.length_append,List.length_singleton] at h
     rw [ints_app];exact h
    have HV:=hid ho1'
    have HBV:=hid (HBX.out.trans hb1.out)
    have HXV:=hid hbx1
    go_wp2_with fail
    obtain ⟨LA,hLA⟩: ∃ LA,LA=L0++ [44]:=⟨_,rfl⟩
    have HFIN:=hid (show M.print (l.take k1)=LA++(M.numT p++44::M.numT q) by
     rw [HPS.out,if_neg (by
      intro e
      have:=congrArg List.length e
      rw [List.length_take,HL.out] at this
      simp at this
      omega),hLA]
     simp [M.ptT])
    have hla:LA.length≤500000:=by rw [hLA,List.length_append];simp;omega
    rw [←hLA] at HV
    clear hLA hbx HOX HBX hl0 ho1 hb1 hg1
    (with_reducible refine (appendNumber_any w.heap.size _ LA p _ HV.out HBV.out.size (HT.out _ HBV.out) (by omega) HQ.out.1).mono ?_)
    rintro e w2 ⟨v2,rfl,ho2,hb2,hk2⟩
    obtain ⟨A2,c2,rfl,_,_⟩:=own_room ho2
    have hlb:(LA++M.numT p).length≤600000:=by rw [List.length_append];omega
    have HB2:=hid (HBV.out.trans hb2)
    have hbx2:=hk2 _ _ _ HXV.out
    have HX2:=hid hbx2
    have HO2:=hid ho2
    have hbs2:=HB2.out.size
    clear HV HBV HXV ho2 hb2 hk2 hbx2 hla
    generalize hLB:LA++M.numT p=LB at*
    have HLB:=hid hLB
    clear hLB
    have hlb2:(ints LB).length≤1048576:=by rw [ints_len];omega
    go_wp2_with (refine wpList_appY1 rfl (.tmp 22) (.tmp 23) rfl w.heap.size _ (ints LB) 44 (by simp [Act.eval]) HO2.out hbs2 (by decide) (by simp [Act.eval]) hlb2 ?_;intro v3 w3 ho3 hb3 hg3;refine Hid.out ?_)
    refine Lib.hid ?_
    have hbx3:=KP.grown (show OwnY (w2.alloc (.cells #[.int .u8 44] 5)) w.heap.size _ _ from World.ownsRow.alloc HO2.out _) hg3.out _ _ _ HX2.out
    have k1':=hbx3.cell1
    obtain ⟨A3,c3,hv3,_,_⟩:=own_room ho3.out
    subst hv3
    have ho3':OwnY w3 w.heap.size (.slice A3 ((ints LB).length+1) c3) (ints (LB++ [44])):=by
     have h:=ho3.out
     rw [List.length_append,List.length_singleton] at h
     rw [ints_app];exact h
    have HO3:=hid ho3'
    have HB3:=hid (HB2.out.trans hb3.out)
    go_wp2_with fail
    have hlc:(LB++ [44]).length≤1048576:=by rw [List.length_append];simp;omega
    (with_reducible refine (appendNumber_any w.heap.size _ (LB++ [44]) q _ HO3.out HB3.out.size (HT.out _ HB3.out) hlc HQ.out.2).mono ?_)
    rintro e w4 ⟨v4,rfl,ho4,hb4,hk4⟩
    rw [show LB++ [44]++M.numT q=LB++44::M.numT q by simp] at ho4
    obtain ⟨A4,c4,rfl,_,_⟩:=own_room ho4
    have HO4:=hid ho4
    have HB4:=hid (HB3.out.trans hb4)
    clear ho4 hb4 hk4 ho3 hb3 hg3 HX2 HO2 HB2 HO3 HB3
    go_wp2
    go_roundw
    case rel=>exact ⟨k1,(by subst hk1;first|rfl|go_num),by omega,hid (by rw [HFIN.out,show LA++(M.numT p++44::M.numT q)=LB++44::M.numT q by rw [←HLB.out];simp];exact HO4.out),HB4⟩
    case measure=>simp [RowKit.intOf]<;>omega
  ·obtain rfl:k=n:=by omega
   have e1:l.take k=l:=List.take_of_length_le (Nat.le_of_eq HL.out)
   have ho:=HO.out
   rw [e1] at ho
   obtain ⟨A2,c2,hv2,hr2,_⟩:=ho.rd (ints_u8 _)
   rw [e1]
   injection hv2 with r1 r2 r3
   subst r1 r3
   have cv:=run_str hr2 c1
   have d1:decide (k<k)=false:=by simp
   clear hlt ho hr2
   obtain ⟨S,hS⟩: ∃ S,S=strOf (ints (M.print l)):=⟨_,rfl⟩
   rw [←hS] at cv
   have HS:=hid hS
   clear hS
   go_wp2
   go_ret
   exact ⟨by rw [←HS.out];rfl,HB.out⟩
end Go.Proofs.YtjpmpjbembhldaaGreatDoor.Sp
