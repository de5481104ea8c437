import Derived.Test.YtjpmpjbembhldaaGreatDoorKT
set_option linter.unusedVariables false
set_option linter.unusedSimpArgs false
set_option linter.unusedVariables false
set_option linter.unusedSimpArgs false
namespace Go.Proofs.YtjpmpjbembhldaaGreatDoor.St
open Go.RowKit
def NumTo (o:Option Nat) (w:World) (e:Ending) (w':World):Prop:=e= .returned (numV o)∧w=w'
set_option maxRecDepth 100000 in
set_option maxHeartbeats 4000000 in
theorem digits15_any (s:ByteArray) (w:World):
  Calls Tryz.prog 83 #[.string s, .int .i64 1, .int .i64 15, .int .i64 0] w (NumTo (M.number (tl s) 15) w):=by
 by_cases h0:tl s= []
 ·obtain rfl:s=⟨#[]⟩:=tl_inj (by rw [h0];rfl)
  have hn:=M.number_none (l:=tl ⟨#[]⟩) (most:=15) (.inl h0)
  have HN:=Lib.hid hn
  clear hn h0
  go_enter Tryz.func83,Tryz.ntmps83
  go_wp2
  go_ret2
  exact ⟨ret_num HN.out.symm,rfl⟩
 have hpos:0<s.size:=by rw [←tl_len];exact List.length_pos_iff.2 h0
 have hd1:decide ((s.size:Int)<1)=false:=by rw [decide_eq_false_iff_not];omega
 by_cases hlong:15<s.size
 ·have hn:=M.number_none (l:=tl s) (most:=15) (.inr (.inl hlong))
  have HN:=Lib.hid hn
  have hd:decide ((s.size:Int)>15)=true:=by rw [decide_eq_true_eq];omega
  clear hn h0 hpos hlong
  go_enter Tryz.func83,Tryz.ntmps83
  go_wp2
  go_ret2
  exact ⟨ret_num HN.out.symm,rfl⟩
 have hle:s.size≤15:=by omega
 have hd:decide ((s.size:Int)>15)=false:=by rw [decide_eq_false_iff_not];omega
 have HNE:=Lib.hid h0
 clear hlong h0 hpos
 go_enter Tryz.func83,Tryz.ntmps83
 go_wp2
 clear hd hd1
 go_loop [10,11] (fun s10 s11=> ∃ i n:Nat,s10= .int .i64 n∧s11= .int .i64 i∧i≤s.size∧Hid (((tl s).take i).all M.isDig=true)∧Hid (M.num ((tl s).take i) 0=n)) (fun _ s11=>s.size - (intOf s11).toNat)
 case atStart=>exact ⟨0,0,rfl,rfl,Nat.zero_le _,Lib.hid rfl,Lib.hid rfl⟩
 case round=>
  obtain ⟨i,n,rfl,rfl,hi,hA,hN⟩:=hrel
  by_cases hp:i<s.size
  ·have hb256:(s[i]'hp).toNat<256:=UInt8.toNat_lt _
   by_cases hk:M.isDig ((tl s)[i]'hp)=true
   ·have hs:=all_take_succ hp hA.out hk
    have hbd:=num_bound hA.out hp (by rw [tl_len];omega)
    rw [hN.out] at hbd
    have hst:=num_take_succ (l:=tl s) hp
    rw [hN.out,at_tl] at hst
    rw [M.isDig_iff,at_tl] at hk
    obtain ⟨k1,k2⟩:=hk
    have HS:=Lib.hid hs
    have HTT:=Lib.hid hst
    have e1:decide (((s[i]'hp).toNat:Int)<48)=false:=by rw [decide_eq_false_iff_not];omega
    have e2:decide (((s[i]'hp).toNat:Int)>57)=false:=by rw [decide_eq_false_iff_not];omega
    clear hs hst hA hN
    go_wp2
    go_round
    case rel=>exact ⟨i+1,10*n+((s[i]'hp).toNat - 48),by go_num,by go_num,by omega,HS,Lib.hid (by rw [HTT.out])⟩
    case measure=>simp [intOf];omega
   ·have hk':M.isDig ((tl s)[i]'hp)=false:=by simpa using hk
    have HF:=Lib.hid (M.number_none (l:=tl s) (most:=15) (.inr (.inr (all_not hp hk'))))
    rw [M.isDig_iff,at_tl] at hk
    clear hk' hA hN
    by_cases c1:(s[i]'hp).toNat<48
    ·have e1:decide (((s[i]'hp).toNat:Int)<48)=true:=by rw [decide_eq_true_eq];omega
     clear hk
     go_wp2
     go_ret2
     exact ⟨ret_num HF.out.symm,rfl⟩
    ·have e1:decide (((s[i]'hp).toNat:Int)<48)=false:=by rw [decide_eq_false_iff_not];omega
     have e2:decide (((s[i]'hp).toNat:Int)>57)=true:=by rw [decide_eq_true_eq];omega
     clear hk
     go_wp2
     go_ret2
     exact ⟨ret_num HF.out.symm,rfl⟩
  ·obtain rfl:i=s.size:=by omega
   have hall:(tl s).all M.isDig=true:=by
    have:=hA.out
    rwa [List.take_of_length_le (by rw [tl_len];omega)] at this
   have hnum:M.num (tl s) 0=n:=by
    have:=hN.out
    rwa [List.take_of_length_le (by rw [tl_len];omega)] at this
   have HF:=Lib.hid (M.number_some (most:=15) HNE.out (by rw [tl_len];exact hle) hall)
   rw [hnum] at HF
   clear hall hnum hN hA hp hi
   go_wp2
   go_ret2
   exact ⟨ret_num HF.out.symm,rfl⟩
theorem take9_step {l:List UInt8} {k:Nat} (hk:k<l.length):M.num ((l++M.nine).take (k+1)) 0=10*M.num ((l++M.nine).take k) 0+((l[k]).toNat - 48):=by
 rw [List.take_succ_eq_append_getElem (by rw [List.length_append];omega),M.num_snoc,List.getElem_append_left hk]
theorem take9_nought {l:List UInt8} {k:Nat} (hk:l.length≤k) (h9:k<9):M.num ((l++M.nine).take (k+1)) 0=10*M.num ((l++M.nine).take k) 0:=by
 have hl:k<(l++M.nine).length:=by rw [List.length_append,M.nine_len];omega
 rw [List.take_succ_eq_append_getElem hl,M.num_snoc,List.getElem_append_right hk]
 have:M.nine[k - l.length]'(by rw [M.nine_len];omega)=48:=by
  unfold M.nine
  rw [List.getElem_replicate]
 rw [this]
 rfl
theorem take9_bound {l:List UInt8} {k:Nat} (h:(l.take k).all M.isDig=true) (h9:k<9):M.num ((l++M.nine).take k) 0≤99999999:=by
 have hd:((l++M.nine).take k).all M.isDig=true:=by
  rw [List.take_append,List.all_append,h,Bool.true_and,List.all_eq_true]
  intro c hc
  have:=List.eq_of_mem_replicate (List.mem_of_mem_take hc)
  subst this
  rfl
 have h1:=M.num_lt _ 0 hd
 have h2:10^((l++M.nine).take k).length≤10^8:=Nat.pow_le_pow_right (by omega) (by rw [List.length_take];omega)
 omega
set_option maxRecDepth 100000 in
set_option maxHeartbeats 4000000 in
theorem digits18_any (s:ByteArray) (w:World):
  Calls Tryz.prog 83 #[.string s, .int .i64 1, .int .i64 18, .int .i64 9] w (NumTo (M.billionths (tl s)) w):=by
 have hnone:M.number (tl s) 18=none→M.billionths (tl s)=none:=fun h=>by unfold M.billionths;rw [if_pos h]
 by_cases h0:tl s= []
 ·obtain rfl:s=⟨#[]⟩:=tl_inj (by rw [h0];rfl)
  have hn:=hnone (M.number_none (l:=tl ⟨#[]⟩) (most:=18) (.inl h0))
  have HN:=Lib.hid hn
  clear hn h0 hnone
  go_enter Tryz.func83,Tryz.ntmps83
  go_wp2
  go_ret2
  exact ⟨ret_num HN.out.symm,rfl⟩
 have hpos:0<s.size:=by rw [←tl_len];exact List.length_pos_iff.2 h0
 have hd1:decide ((s.size:Int)<1)=false:=by rw [decide_eq_false_iff_not];omega
 by_cases hlong:18<s.size
 ·have hn:=hnone (M.number_none (l:=tl s) (most:=18) (.inr (.inl hlong)))
  have HN:=Lib.hid hn
  have hd:decide ((s.size:Int)>18)=true:=by rw [decide_eq_true_eq];omega
  clear hn h0 hpos hlong hnone
  go_enter Tryz.func83,Tryz.ntmps83
  go_wp2
  go_ret2
  exact ⟨ret_num HN.out.symm,rfl⟩
 have hle:s.size≤18:=by omega
 have hd:decide ((s.size:Int)>18)=false:=by rw [decide_eq_false_iff_not];omega
 have HNE:=Lib.hid h0
 have HNN:=Lib.hid hnone
 clear hlong h0 hpos hnone
 go_enter Tryz.func83,Tryz.ntmps83
 go_wp2
 clear hd hd1
 go_loop [10,11] (fun s10 s11=> ∃ i n:Nat,s10= .int .i64 n∧s11= .int .i64 i∧i≤18∧Hid (((tl s).take i).all M.isDig=true)∧Hid (M.num ((tl s++M.nine).take (min i 9)) 0=n)) (fun _ s11=>18 - (intOf s11).toNat)
 case atStart=>exact ⟨0,0,rfl,rfl,Nat.zero_le _,Lib.hid rfl,Lib.hid rfl⟩
 case round=>
  obtain ⟨i,n,rfl,rfl,hi,hA,hN⟩:=hrel
  by_cases hp:i<s.size
  ·have hb256:(s[i]'hp).toNat<256:=UInt8.toNat_lt _
   by_cases hk:M.isDig ((tl s)[i]'hp)=true
   ·have HS:=Lib.hid (all_take_succ hp hA.out hk)
    have hkk:=hk
    rw [M.isDig_iff,at_tl] at hkk
    obtain ⟨k1,k2⟩:=hkk
    have e1:decide (((s[i]'hp).toNat:Int)<48)=false:=by rw [decide_eq_false_iff_not];omega
    have e2:decide (((s[i]'hp).toNat:Int)>57)=false:=by rw [decide_eq_false_iff_not];omega
    by_cases h9:i<9
    ·have hbd:=take9_bound hA.out h9
     have hst:=take9_step (l:=tl s) hp
     have hn0:=hN.out
     rw [Nat.min_eq_left (by omega)] at hn0
     rw [hn0] at hbd hst
     rw [at_tl] at hst
     have HTT:=Lib.hid hst
     have e3:decide ((i:Int)<9)=true:=by rw [decide_eq_true_eq];omega
     clear hst hA hN hn0 hk
     go_wp2
     go_round
     case rel=>exact ⟨i+1,10*n+((s[i]'hp).toNat - 48),by go_num,by go_num,by omega,HS,Lib.hid (by rw [Nat.min_eq_left (by omega)];exact HTT.out)⟩
     case measure=>simp [intOf];omega
    ·have hN2:M.num ((tl s++M.nine).take (min (i+1) 9)) 0=n:=by
      have:=hN.out
      rw [Nat.min_eq_right (by omega)] at this⊢
      exact this
     have HN2:=Lib.hid hN2
     have e3:decide ((i:Int)<9)=false:=by rw [decide_eq_false_iff_not];omega
     clear hA hN hk h9 hN2
     go_wp2
     go_round
     case rel=>exact ⟨i+1,n,rfl,by go_num,by omega,HS,HN2⟩
     case measure=>simp [intOf];omega
   ·have hk':M.isDig ((tl s)[i]'hp)=false:=by simpa using hk
    have HF:=Lib.hid (HNN.out (M.number_none (l:=tl s) (most:=18) (.inr (.inr (all_not hp hk')))))
    rw [M.isDig_iff,at_tl] at hk
    clear hk' hA hN
    by_cases c1:(s[i]'hp).toNat<48
    ·have e1:decide (((s[i]'hp).toNat:Int)<48)=true:=by rw [decide_eq_true_eq];omega
     clear hk
     go_wp2
     go_ret2
     exact ⟨ret_num HF.out.symm,rfl⟩
    ·have e1:decide (((s[i]'hp).toNat:Int)<48)=false:=by rw [decide_eq_false_iff_not];omega
     have e2:decide (((s[i]'hp).toNat:Int)>57)=true:=by rw [decide_eq_true_eq];omega
     clear hk
     go_wp2
     go_ret2
     exact ⟨ret_num HF.out.symm,rfl⟩
  ·have d1:decide (i<s.size)=false:=by rw [decide_eq_false_iff_not];omega
   have hall:(tl s).all M.isDig=true:=by
    have:=hA.out
    rwa [List.take_of_length_le (by rw [tl_len];omega)] at this
   by_cases h9:i<9
   ·have hst:=take9_nought (l:=tl s) (k:=i) (by rw [tl_len];omega) h9
    have hbd:=take9_bound hA.out h9
    have hn0:=hN.out
    rw [Nat.min_eq_left (by omega)] at hn0
    rw [hn0] at hbd hst
    have HTT:=Lib.hid hst
    have HS:Hid (((tl s).take (i+1)).all M.isDig=true):=Lib.hid (by rw [List.take_of_length_le (by rw [tl_len];omega)];exact hall)
    have e3:decide ((i:Int)<9)=true:=by rw [decide_eq_true_eq];omega
    clear hst hA hN hn0 hp hall
    go_wp2
    go_round
    case rel=>exact ⟨i+1,10*n,by go_num,by go_num,by omega,HS,Lib.hid (by rw [Nat.min_eq_left (by omega)];exact HTT.out)⟩
    case measure=>simp [intOf];omega
   ·have hfin:M.billionths (tl s)=some n:=by
     unfold M.billionths
     rw [if_neg (by rw [M.number_some HNE.out (by rw [tl_len];exact hle) hall];simp)]
     have:=hN.out
     rw [Nat.min_eq_right (by omega)] at this
     rw [this]
    have HF:=Lib.hid hfin
    have e3:decide ((i:Int)<9)=false:=by rw [decide_eq_false_iff_not];omega
    clear hfin hA hN h9 hp hall
    go_wp2
    go_ret2
    exact ⟨ret_num HF.out.symm,rfl⟩
end Go.Proofs.YtjpmpjbembhldaaGreatDoor.St
set_option linter.unusedVariables false
set_option linter.unusedSimpArgs false
namespace Go.Proofs.YtjpmpjbembhldaaGreatDoor.St
open Go.RowKit Go.Shelf
theorem digits15_bare (s:ByteArray) (w:World):Calls Tryz.prog 83 #[.string s, .int .i64 1, .int .i64 15, .int .i64 0] w fun e w'=>e= .returned (numV (M.number (tl s) 15))∧w=w':=digits15_any s w
theorem digits18_bare (s:ByteArray) (w:World):Calls Tryz.prog 83 #[.string s, .int .i64 1, .int .i64 18, .int .i64 9] w fun e w'=>e= .returned (numV (M.billionths (tl s)))∧w=w':=digits18_any s w
def numI (o:Option Nat):Int:=((o.getD 0:Nat):Int)
theorem numV_eq (o:Option Nat):numV o= .tuple #[.int .i64 (numI o), .bool o.isSome]:=by
 cases o<;>rfl
theorem ptOf_step {l:List UInt8} {j:Nat} (hj:j<l.length):(M.ptOf (l.drop j)).length=if l[j]=46 then 0 else (M.ptOf (l.drop (j+1))).length+1:=by
 rw [List.drop_eq_getElem_cons hj]
 unfold M.ptOf
 rw [List.takeWhile_cons]
 by_cases h:l[j]=46
 ·rw [if_pos h,h];rfl
 ·rw [if_neg h]
  have:(!(l[j]==46))=true:=by simpa using h
  rw [if_pos this]
  rfl
theorem byte_ne {c d:UInt8} (h:c≠d):((c.toNat:Int)==(d.toNat:Int))=false:=by
 rw [beq_eq_false_iff_ne]
 intro e
 exact h (UInt8.toNat_inj.1 (by omega))
def restOf (sg:Bool) (x:List UInt8):Option M.Tm:=
 match M.number (M.ptOf x) 15 with
 |none=>none
 |some a=>match M.frac x with
  |none=>none
  |some b=>some (M.sgn sg (a,b))
def restBy (sg p:Bool) (o1 o2:Option Nat):Option M.Tm:=
 match o1 with
 |none=>none
 |some a=>match (if p=true then o2 else some 0) with
  |none=>none
  |some b=>some (M.sgn sg (a,b))
theorem restOf_eq (l:List UInt8):M.parse l=restOf (M.minus l) (M.noSign l):=rfl
set_option maxRecDepth 100000 in
set_option maxHeartbeats 8000000 in
theorem refParse_any (s:ByteArray) (hs:s.size≤1048576) (w:World):Calls Tryz.prog 41 #[.string s] w (ParseIs (M.parse (tl s)) w):=by
 rw [restOf_eq]
 have hcs:(M.minus (tl s)=true∧ ∃ h:0<s.size,s[0]'h=45)∨(M.minus (tl s)=false∧ ∃ h:0<s.size,s[0]'h≠45)∨(M.minus (tl s)=false∧s.size=0):=by
  rcases Nat.eq_zero_or_pos s.size with h0|h0
  ·right;right
   refine ⟨?_,h0⟩
   have:tl s= []:=List.eq_nil_of_length_eq_zero (by rw [tl_len];exact h0)
   rw [this];rfl
  ·have e:(tl s).head?=some (s[0]'h0):=by
    rw [List.head?_eq_getElem?,List.getElem?_eq_getElem (by rw [tl_len];exact h0)]
    rfl
   by_cases h:s[0]'h0=45
   ·left
    exact ⟨by unfold M.minus;rw [e,h];rfl,h0,h⟩
   ·right;left
    exact ⟨by unfold M.minus;rw [e,decide_eq_false_iff_not];simpa using h,h0,h⟩
 have hb0:Below w.heap.size w (w.alloc (.cells #[.int .i64 0, .int .i64 0] 43)):=(Below.refl _ w).alloc (Nat.le_refl _) _
 obtain ⟨x,hx⟩: ∃ x:ByteArray,tl x=M.noSign (tl s):=⟨⟨(M.noSign (tl s)).toArray⟩,rfl⟩
 have hxs:x.size≤1048576:=by
  have:=noSign_le (tl s)
  rw [←hx,tl_len,tl_len] at this
  omega
 have hx1:M.minus (tl s)=true→s.extract 1 s.size=x:=fun h=>by
  refine tl_inj ?_
  rw [hx]
  unfold M.noSign
  rw [if_pos h,ext_back,tl_mk,List.drop_one]
 have hx0:M.minus (tl s)=false→s=x:=fun h=>by
  refine tl_inj ?_
  rw [hx]
  unfold M.noSign
  rw [if_neg (by rw [h];decide)]
 rw [←hx]
 have hKl:=M.ptOf_le (tl x)
 rw [tl_len] at hKl
 have hP:=ext_front x (M.ptOf (tl x)).length hKl
 rw [M.ptOf_take] at hP
 have hF:=ext_back x ((M.ptOf (tl x)).length+1)
 have C1:=fun W=>digits15_bare ⟨(M.ptOf (tl x)).toArray⟩ W
 have C2:=fun W=>digits18_bare ⟨((tl x).drop ((M.ptOf (tl x)).length+1)).toArray⟩ W
 rw [tl_mk (M.ptOf (tl x))] at C1
 rw [tl_mk ((tl x).drop ((M.ptOf (tl x)).length+1))] at C2
 have hR:restOf (M.minus (tl s)) (tl x)=restBy (M.minus (tl s)) (decide ((M.ptOf (tl x)).length<x.size)) (M.number (M.ptOf (tl x)) 15) (M.billionths ((tl x).drop ((M.ptOf (tl x)).length+1))):=by
  unfold restOf restBy M.frac M.aftPt
  rw [tl_len]
  by_cases h:(M.ptOf (tl x)).length<x.size
  ·simp [h]
  ·simp [h]
 have hb1:=fun a (h:M.number (M.ptOf (tl x)) 15=some a)=>M.number_lt h
 have hb2:=fun b (h:M.billionths ((tl x).drop ((M.ptOf (tl x)).length+1))=some b)=>M.billionths_lt h
 rw [hR]
 clear hR
 have hK0:(M.ptOf ((tl x).drop 0)).length=(M.ptOf (tl x)).length:=rfl
 have hKb:decide ((M.ptOf (tl x)).length<x.size)=decide ((M.ptOf (tl x)).length<x.size):=rfl
 generalize M.number (M.ptOf (tl x)) 15=o1 at*
 generalize M.billionths ((tl x).drop ((M.ptOf (tl x)).length+1))=o2 at*
 obtain ⟨P,hPe⟩: ∃ P:ByteArray,(⟨(M.ptOf (tl x)).toArray⟩:ByteArray)=P:=⟨_,rfl⟩
 obtain ⟨F,hFe⟩: ∃ F:ByteArray,(⟨((tl x).drop ((M.ptOf (tl x)).length+1)).toArray⟩:ByteArray)=F:=⟨_,rfl⟩
 rw [hPe] at hP C1
 rw [hFe] at hF C2
 clear hPe hFe
 obtain ⟨K,hK⟩: ∃ K,(M.ptOf (tl x)).length=K:=⟨_,rfl⟩
 rw [hK] at hKl hP hF hK0⊢
 clear hK hKb
 generalize M.minus (tl s)=sg at*
 clear hx
 have HX1:=Lib.hid hx1
 have HX0:=Lib.hid hx0
 have HP:=Lib.hid hP
 have HF:=Lib.hid hF
 have H1:=Lib.hid C1
 have H2:=Lib.hid C2
 have HB1:=Lib.hid hb1
 have HB2:=Lib.hid hb2
 have HK0:=Lib.hid hK0
 clear hx1 hx0 hP hF C1 C2 hb1 hb2 hK0
 rcases hcs with ⟨hsg,hz,h45⟩|⟨hsg,hz,h45⟩|⟨hsg,hz⟩
 case' inl=>
  subst hsg
  have hxe:=HX1.out rfl
  have e1:decide ((s.size:Int)>0)=true:=by rw [decide_eq_true_eq];omega
  have e2:(((s[0]'hz).toNat:Int)==45)=true:=by rw [h45];rfl
  have e3:(1:Int)≤(s.size:Int):=by omega
  clear h45 HX1 HX0
  go_enter Tryz.func41,Tryz.ntmps41
  go_wp2_with fail
  clear hxe e1 e2 e3
 case' inr.inl=>
  subst hsg
  obtain rfl:x=s:=(HX0.out rfl).symm
  have e1:decide ((x.size:Int)>0)=true:=by rw [decide_eq_true_eq];omega
  have e2:(((x[0]'hz).toNat:Int)==45)=false:=byte_ne (d:=45) h45
  clear h45 HX1 HX0
  go_enter Tryz.func41,Tryz.ntmps41
  go_wp2_with fail
  clear e1 e2
 case' inr.inr=>
  subst hsg
  obtain rfl:x=s:=(HX0.out rfl).symm
  have e1:decide (0<x.size)=false:=by rw [decide_eq_false_iff_not];omega
  clear HX1 HX0 hz
  go_enter Tryz.func41,Tryz.ntmps41
  go_wp2_with fail
  clear e1
 all_goals
  go_loop [5,6] (fun s5 s6=> ∃ (j k:Nat) (i:Int),s5= .int .i64 k∧s6= .int .i64 i∧Hid (i=(j:Int) - 1)∧j≤x.size∧Hid (k=j+(M.ptOf ((tl x).drop j)).length)) (fun _ s6=>(intOf s6+1).toNat)
  case atStart=>exact ⟨x.size,x.size,_,rfl,rfl,Lib.hid rfl,Nat.le_refl _,Lib.hid (by rw [List.drop_of_length_le (by rw [tl_len];exact Nat.le_refl _)];rfl)⟩
  case round=>
   obtain ⟨j,k,i,rfl,rfl,hi,hj,hk⟩:=hrel
   rcases j with _|j
   ·have hi1:i= -1:=by rw [hi.out];rfl
    subst hi1
    have hk1:k=K:=by rw [hk.out,Nat.zero_add,HK0.out]
    subst hk1
    have hfr:=HP.out
    have hbk:=HF.out
    have C1:=H1.out
    have C2:=H2.out
    clear hi hk H1 H2
    by_cases hlt:k<x.size
    ·have e1:decide (k<x.size)=true:=by rw [decide_eq_true_eq];exact hlt
     have HE1:=Lib.hid e1
     rcases o1 with _|a
     ·simp only [numV_eq] at C1 C2
      simp only [numI,Option.getD_none,Option.isSome_none] at C1
      have HC1:=Lib.hid C1
      have HC2:=Lib.hid C2
      clear C1 C2
      go_wp2_with (first
       |(go_at_call 83;(with_reducible refine (HC1.out _).mono ?_);rintro e w1 ⟨rfl,rfl⟩)
       |(go_at_call 83;(with_reducible refine (HC2.out _).mono ?_);rintro e w1 ⟨rfl,rfl⟩))
      exact bodyPost_ret (results_tb rfl rfl rfl (BoxT.new w (0,0))) rfl ⟨by rw [HE1.out];rfl,hb0⟩
     ·have ha:=HB1.out a rfl
      have ha2:(a:Int)≤999999999999999:=by omega
      rcases o2 with _|b
      ·simp only [numV_eq] at C1 C2
       simp only [numI,Option.getD_none,Option.isSome_none,Option.getD_some,Option.isSome_some] at C1 C2
       have HC1:=Lib.hid C1
       have HC2:=Lib.hid C2
       clear C1 C2
       go_wp2_with (first
       |(go_at_call 83;(with_reducible refine (HC1.out _).mono ?_);rintro e w1 ⟨rfl,rfl⟩)
       |(go_at_call 83;(with_reducible refine (HC2.out _).mono ?_);rintro e w1 ⟨rfl,rfl⟩))
       exact bodyPost_ret (results_tb rfl rfl rfl (BoxT.new w (0,0))) rfl ⟨by rw [HE1.out];rfl,hb0⟩
      ·have hb:=HB2.out b rfl
       have hb2:(b:Int)≤999999999:=by omega
       simp only [numV_eq] at C1 C2
       simp only [numI,Option.getD_some,Option.isSome_some] at C1 C2
       by_cases hz:b=0
       case' pos=>
        subst hz
        have k2:(((0:Nat):Int)==0)=true:=rfl
        have hz:(0:Nat)=0:=rfl
       case' neg=>
        have k2:((b:Int)==0)=false:=by simp;omega
       all_goals
        have HC1:=Lib.hid C1
        have HC2:=Lib.hid C2
        have HZ:=Lib.hid hz
        clear C1 C2 hz
        go_wp2_with (first
       |(go_at_call 83;(with_reducible refine (HC1.out _).mono ?_);rintro e w1 ⟨rfl,rfl⟩)
       |(go_at_call 83;(with_reducible refine (HC2.out _).mono ?_);rintro e w1 ⟨rfl,rfl⟩))
        exact bodyPost_ret (results_tb (k:=2) (j:=3) (v:= .bool true) rfl rfl rfl (BoxT.new w (_,_))) rfl ⟨ret_parse (a:=some (_,_)) (by rw [HE1.out];simp [restBy,M.sgn,M.opp,HZ.out]),(Below.refl _ w).alloc (Nat.le_refl _) _⟩
    ·have e1:decide (k<x.size)=false:=by rw [decide_eq_false_iff_not];exact hlt
     have HE1:=Lib.hid e1
     rcases o1 with _|a
     ·simp only [numV_eq] at C1
      simp only [numI,Option.getD_none,Option.isSome_none] at C1
      have HC1:=Lib.hid C1
      clear C1 C2
      go_wp2_with (go_at_call 83;(with_reducible refine (HC1.out _).mono ?_);rintro e w1 ⟨rfl,rfl⟩)
      exact bodyPost_ret (results_tb rfl rfl rfl (BoxT.new w (0,0))) rfl ⟨by rw [HE1.out];rfl,hb0⟩
     ·have ha:=HB1.out a rfl
      have ha2:(a:Int)≤999999999999999:=by omega
      simp only [numV_eq] at C1
      simp only [numI,Option.getD_some,Option.isSome_some] at C1
      have HC1:=Lib.hid C1
      clear C1 C2
      go_wp2_with (go_at_call 83;(with_reducible refine (HC1.out _).mono ?_);rintro e w1 ⟨rfl,rfl⟩)
      exact bodyPost_ret (results_tb (k:=2) (j:=3) (v:= .bool true) rfl rfl rfl (BoxT.new w (_,_))) rfl ⟨ret_parse (a:=some (_,_)) (by rw [HE1.out];simp [restBy,M.sgn,M.opp]),(Below.refl _ w).alloc (Nat.le_refl _) _⟩
   ·have hi1:i=(j:Int):=by rw [hi.out];omega
    subst hi1
    have hjs:j<x.size:=by omega
    have hst:=ptOf_step (l:=tl x) (j:=j) (by rw [tl_len];omega)
    by_cases hc:x[j]'hjs=46
    ·have k1:(((x[j]'hjs).toNat:Int)==46)=true:=by rw [hc];rfl
     rw [if_pos (show (tl x)[j]'(by rw [tl_len];omega)=46 from hc)] at hst
     have HS:=Lib.hid hst
     clear hst hi hk hc
     go_wp2
     go_round
     case rel=>exact ⟨j,j,_,rfl,rfl,Lib.hid rfl,by omega,Lib.hid (by rw [HS.out];rfl)⟩
     case measure=>simp [intOf]
    ·have k1:(((x[j]'hjs).toNat:Int)==46)=false:=byte_ne (d:=46) hc
     rw [if_neg (show ¬ (tl x)[j]'(by rw [tl_len];omega)=46 from hc)] at hst
     have hk2:k=j+(M.ptOf ((tl x).drop j)).length:=by rw [hk.out,hst];omega
     have HK2:=Lib.hid hk2
     clear hst hi hk hc hk2
     go_wp2
     go_round
     case rel=>exact ⟨j,k,_,rfl,rfl,Lib.hid rfl,by omega,HK2⟩
     case measure=>simp [intOf]
end Go.Proofs.YtjpmpjbembhldaaGreatDoor.St
