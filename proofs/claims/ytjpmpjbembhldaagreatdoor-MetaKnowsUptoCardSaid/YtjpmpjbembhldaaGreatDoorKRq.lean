import Derived.Test.YtjpmpjbembhldaaGreatDoorStepZ
import Derived.Test.YtjpmpjbembhldaaGreatDoorMtRefZ
set_option linter.unusedVariables false
set_option linter.unusedSimpArgs false
set_option linter.unusedVariables false
set_option linter.unusedSimpArgs false
namespace Go.Proofs.YtjpmpjbembhldaaGreatDoor.Sp
open Go.RowKit Go.Lib
def icells (zs:List Int):List Value:=zs.map (Value.int .i64)
theorem icells_app (a b:List Int):icells (a++b)=icells a++icells b:=by simp [icells]
theorem icells_at {zs:List Int} {j:Nat} {z:Int} (h:zs[j]?=some z):(icells zs)[j]?=some (.int .i64 z):=by simp [icells,h]
theorem i64_parts:(Tryz.prog.info? 3).map (fun i=>(i.zero,i.size,i.bytes))=some (some (.int .i64 0),1,8):=by kernel_rfl
def OwnI (w:World) (base:Nat) (v:Value) (zs:List Int):Prop:=w.ownsRow base 3 1 v zs.length (icells zs)
theorem OwnI.nil (w:World) (base:Nat):OwnI w base (.slice none 0 0) []:=World.ownsRow_nil _ _ _ _
theorem OwnI.grown {w w':World} {b:Nat} {v:Value} {l:List Int} (h:OwnI w b v l) {row:Option Nat} (hg:w.grownBy w' row) (hr:v.ownBlock=none∨v.ownBlock≠row):OwnI w' b v l:=World.ownsRow.kept h hg hr
theorem OwnI.later {w w':World} {b:Nat} {v:Value} {l:List Int} (h:OwnI w b v l) (hb:Below w.heap.size w w'):OwnI w' b v l:=by
 cases hv:v.ownBlock with
 |none=>exact h.grown (grown_of_below hb none) (.inl hv)
 |some g=>exact h.grown (grown_of_below hb none) (.inr (by rw [hv];simp))
def RdI (w:World) (B:Nat) (A:Option Addr) (n:Nat) (zs:List Int):Prop:=
 zs.length=n∧(0<n→ ∃ b off,A=some ⟨b,off,none⟩∧b<B∧ ∀ (j:Nat) (z:Int),zs[j]?=some z→w.cell? ⟨b,off+j,none⟩=some (.int .i64 z))
theorem RdI.at_ {w:World} {B n k:Nat} {A:Option Addr} {zs:List Int} (h:RdI w B A n zs) (hk:k<n): ∃ b off z,A=some ⟨b,off,none⟩∧b<B∧zs[k]?=some z∧w.cell? ⟨b,off+k,none⟩=some (.int .i64 z):=by
 obtain ⟨b,off,e,hb,hc⟩:=h.2 (by omega)
 have hl:k<zs.length:=by have:=h.1;omega
 exact ⟨b,off,_,e,hb,List.getElem?_eq_getElem hl,hc k _ (List.getElem?_eq_getElem hl)⟩
theorem RdI.below {w w':World} {B n:Nat} {A:Option Addr} {zs:List Int} (h:RdI w B A n zs) (hb:Below B w w'):RdI w' B A n zs:=
 ⟨h.1,fun hn=>by
  obtain ⟨b,off,e,hlt,hc⟩:=h.2 hn
  exact ⟨b,off,e,hlt,fun j z hz=>(hb.cell (p:=⟨b,off+j,none⟩) hlt).trans (hc j z hz)⟩⟩
theorem RdI.more {w:World} {B B' n:Nat} {A:Option Addr} {zs:List Int} (h:RdI w B A n zs) (hB:B≤B'):RdI w B' A n zs:=
 ⟨h.1,fun hn=>by
  obtain ⟨b,off,e,hlt,hc⟩:=h.2 hn
  exact ⟨b,off,e,by omega,hc⟩⟩
theorem OwnI.rd {w:World} {base:Nat} {v:Value} {zs:List Int} (h:OwnI w base v zs): ∃ A c,v= .slice A zs.length c∧RdI w w.heap.size A zs.length zs∧zs.length≤c:=by
 obtain ⟨A,c,rfl,h1,_⟩:=own_room h
 refine ⟨A,c,rfl,⟨rfl,fun hl=> ?_⟩,h1⟩
 obtain ⟨g,cap,hv,_,hlt⟩:=World.ownsRow.form h hl
 have hA:A=some ⟨g,0,none⟩:=by injection hv
 subst hA
 refine ⟨g,0,rfl,hlt,fun j z hj=> ?_⟩
 have hj1:j<zs.length:=(List.getElem?_eq_some_iff.1 hj).1
 have:=World.ownsRow.cellAt h j (by omega)
 rw [Nat.zero_add,this]
 exact icells_at hj
theorem wpList_appI1 {W:World} {ops:Array Oper} {rest:List Oper} {o:Oper} {a:Act} {Q:Exit→Act→World→Prop} (hgd:o.guard=none) (s x:Operand)
  (ho:o.op= .call { callee:= .builtin .append,args:= #[s,x],argTypes:= #[80,80] })
  (base:Nat) (v:Value) (l:List Int) (z:Int) (hs:a.eval s=v) (hown:OwnI W base v l) (hbase:base≤W.heap.size)
  (hx:a.eval x= .slice (some ⟨W.heap.size,0,none⟩) 1 1) (hl:l.length≤1048576)
  (h: ∀ v' w',Hid (OwnI w' base v' (l++ [z]))→Hid (Below base W w')→wpList Tryz.prog ops Q rest (a.put o.dst v') w'):
  wpList Tryz.prog ops Q (o::rest) a (W.alloc (.cells #[.int .i64 z] 3)):=by
 obtain ⟨i0,hi,hz0,hz1,hz2⟩:=info_parts i64_parts
 have hownA:(W.alloc (.cells #[.int .i64 z] 3)).ownsRow base 3 1 v l.length (icells l):=World.ownsRow.alloc hown _
 refine wpList_append_own _ hgd s x 80 ho base 3 i0 (.int .i64 0) 1 8 Tryz.underlying80 hi hz0 hz1 hz2 rfl (by decide) v l.length (icells l) hs hownA ⟨W.heap.size,0,none⟩ 1 1 [.int .i64 z] hx rfl ?_ ?_ ?_ ?_ ?_ ?_
 ·intro j u hj
  match j,hj with
  |0,hj=>simp at hj;subst hj;simp [Addr.add,World.cell?_alloc_mark]
 ·intro u hu
  simp at hu
  subst hu
  rfl
 ·unfold maxLen;omega
 ·omega
 ·simp;omega
 ·intro v' w' hown' hgrow _
  refine h v' w' (Lib.hid ?_) (Lib.hid ?_)
  ·unfold OwnI
   rw [icells_app,List.length_append]
   exact hown'
  ·refine below_grown ((Below.refl base W).alloc hbase _) hgrow (by simp;omega) ?_
   intro g hg
   exact (World.ownsRow.lt hownA g hg).1
namespace M
def numsAt (L:List UInt8) (f:Nat):Option (List Int):=if f≤L.length then nums (cuts (L.drop f)) else some []
theorem numsAt_zero (L:List UInt8):numsAt L 0=nums (cuts L):=by simp [numsAt]
theorem numsAt_end {L:List UInt8} {f:Nat} (h:L.length<f):numsAt L f=some []:=by unfold numsAt;rw [if_neg (by omega)]
theorem numsAt_step {L:List UInt8} {f i:Nat} (hfi:f≤i) (hi:i≤L.length) (hc:i<L.length→L[i]?=some 44) (hno: ∀ c∈(L.drop f).take (i - f),c≠44):
  numsAt L f=match numOf ((L.drop f).take (i - f)) with|none=>none|some v=>(numsAt L (i+1)).map (v:: ·):=by
 unfold numsAt
 rw [if_pos (by omega)]
 by_cases hlt:i<L.length
 ·rw [if_pos (by omega)]
  obtain ⟨hl,he⟩:=List.getElem?_eq_some_iff.1 (hc hlt)
  have e:L.drop f=(L.drop f).take (i - f)++44::L.drop (i+1):=by
   conv=>lhs;rw [←List.take_append_drop (i - f) (L.drop f)]
   rw [List.drop_drop,show f+(i - f)=i by omega,List.drop_eq_getElem_cons hl,he]
  conv=>lhs;rw [e]
  rw [cuts_cut hno]
  rfl
 ·rw [if_neg (by omega)]
  obtain rfl:i=L.length:=by omega
  have e:(L.drop f).take (L.length - f)=L.drop f:=List.take_of_length_le (by rw [List.length_drop];exact Nat.le_refl _)
  rw [e] at hno⊢
  rw [cuts_one hno]
  simp only [nums]
  cases numOf (L.drop f)<;>rfl
theorem numsAt_none {L:List UInt8} {f i:Nat} {acc:List Int} (h:nums (cuts L)=(numsAt L f).map (acc++ ·)) (hfi:f≤i) (hi:i≤L.length) (hc:i<L.length→L[i]?=some 44) (hno: ∀ c∈(L.drop f).take (i - f),c≠44)
  (hn:numOf ((L.drop f).take (i - f))=none):nums (cuts L)=none:=by
 rw [h,numsAt_step hfi hi hc hno,hn];rfl
theorem numsAt_some {L:List UInt8} {f i:Nat} {v:Int} {acc:List Int} (h:nums (cuts L)=(numsAt L f).map (acc++ ·)) (hfi:f≤i) (hi:i≤L.length) (hc:i<L.length→L[i]?=some 44) (hno: ∀ c∈(L.drop f).take (i - f),c≠44)
  (hn:numOf ((L.drop f).take (i - f))=some v):nums (cuts L)=(numsAt L (i+1)).map ((acc++ [v])++ ·):=by
 rw [h,numsAt_step hfi hi hc hno,hn]
 simp only [Option.map_map]
 congr 1
 funext x
 simp
theorem no_more {L:List UInt8} {f i:Nat} {c:UInt8} (hno: ∀ c∈(L.drop f).take (i - f),c≠44) (hfi:f≤i) (hc:L[i]?=some c) (hne:c≠44): ∀ c∈(L.drop f).take (i+1 - f),c≠44:=by
 have e:(L.drop f).take (i+1 - f)=(L.drop f).take (i - f)++ [c]:=by
  rw [show i+1 - f=(i - f)+1 by omega]
  obtain ⟨hl,he⟩:=List.getElem?_eq_some_iff.1 hc
  have hl2:i - f<(L.drop f).length:=by rw [List.length_drop];omega
  rw [List.take_succ_eq_append_getElem hl2,List.getElem_drop]
  simp only [show f+(i - f)=i by omega,he]
 rw [e]
 intro x hx
 rw [List.mem_append,List.mem_singleton] at hx
 rcases hx with hx|rfl
 ·exact hno x hx
 ·exact hne
end M
theorem tl_mid (r:ByteArray) (f i:Nat):tl (r.extract f i)=((tl r).drop f).take (i - f):=by
 unfold tl
 simp [ByteArray.data_extract,List.extract_eq_take_drop]
end Go.Proofs.YtjpmpjbembhldaaGreatDoor.Sp
set_option linter.unusedVariables false
set_option linter.unusedSimpArgs false
namespace Go.Proofs.YtjpmpjbembhldaaGreatDoor.Sp
open Go.RowKit Go.Lib
def NumsTo (o:Option (List Int)) (w:World) (e:Ending) (w':World):Prop:=
 ∃ v,e= .returned (.tuple #[v, .bool o.isSome])∧OwnI w' w.heap.size v (o.getD [])∧Below w.heap.size w w'
set_option maxRecDepth 100000 in
set_option maxHeartbeats 4000000 in
theorem refNumbers_any (s:ByteArray) (hs:s.size≤100000) (w:World) (ht:EV w.heap.size w):
  Calls Tryz.prog 121 #[.string s] w (NumsTo (M.nums (M.cuts (tl s))) w):=by
 have HT:=hid (fun (W:World) (hW:Below w.heap.size w W)=>ht.on hW)
 have HTL:=hid (tl_len s)
 obtain ⟨n,hn⟩: ∃ n,n=s.size:=⟨_,rfl⟩
 have HN:=hid hn
 clear ht
 go_enter Tryz.func121,Tryz.ntmps121
 go_wp2
 go_loopw [4,5,6] (fun ov fv iv wr=> ∃ (f i:Nat) (acc:List Int),iv= .int .i64 i∧fv= .int .i64 f∧f≤i∧i≤n+1∧(n<i→n<f)∧acc.length≤f∧Hid (M.nums (M.cuts (tl s))=(M.numsAt (tl s) f).map (acc++ ·))∧Hid (∀ c∈((tl s).drop f).take (i - f),c≠44)∧Hid (OwnI wr w.heap.size ov acc)∧Hid (Below w.heap.size w wr)) (fun _ _ iv _=>n+1 - (RowKit.intOf iv).toNat)
 case atStart=>exact ⟨0,0, [],rfl,rfl,Nat.le_refl _,Nat.zero_le _,(fun h=>absurd h (by omega)),Nat.le_refl _,hid (by rw [M.numsAt_zero];simp),hid (by simp),hid (OwnI.nil _ _),hid (Below.refl _ _)⟩
 case round=>
  obtain ⟨f,i,acc,rfl,rfl,hfi,hi,hend,hal,HM,HC,HO,HB⟩:=hrel
  obtain ⟨A1,c1,rfl,_,_⟩:=HO.out.rd
  have hbs:=HB.out.size
  by_cases hle:i≤n
  ·have d1:decide ((i:Int)≤(s.size:Int))=true:=by rw [decide_eq_true_eq];omega
   have HIM:=hid (fun (V:World) (x:Int) (h0: -9223372036854775808≤x) (h1:x≤9223372036854775807) (hV:Below w.heap.size w V)=>itoa_any x h0 h1 w.heap.size V (HT.out V hV))
   by_cases hcon: ∃ hls:i<s.size,s[i]'hls≠44
   ·obtain ⟨hls,h44⟩:=hcon
    have d2:decide ((i:Int)<(s.size:Int))=true:=by rw [decide_eq_true_eq];omega
    have hc:(tl s)[i]?=some (s[i]'hls):=by
     unfold tl
     rw [Array.getElem?_toList]
     exact Array.getElem?_eq_getElem hls
    have d3:(((s[i]'hls).toNat:Int) !=44)=true:=by
     rw [bne_iff_ne]
     intro e
     exact h44 (UInt8.toNat_inj.1 (by show (s[i]'hls).toNat=44;omega))
    obtain ⟨i1,hi1⟩: ∃ i1,i1=i+1:=⟨_,rfl⟩
    have HC2:=hid (show ∀ c∈((tl s).drop f).take (i1 - f),c≠44 by rw [hi1];exact M.no_more HC.out hfi hc h44)
    clear hc
    go_wp2_with fail
    go_roundw
    case rel=>exact ⟨f,i1,acc,(by subst hi1;first|rfl|go_num),rfl,by omega,by omega,(fun h=>absurd h (by omega)),hal,HM,HC2,HO,HB⟩
    case measure=>simp [RowKit.intOf]<;>omega
   ·have H44:=hid (show i<(tl s).length→(tl s)[i]?=some 44 from fun hl=>by
     have hls:i<s.size:=by rw [HTL.out] at hl;exact hl
     have e:s[i]'hls=44:=by
      by_cases e:s[i]'hls=44
      ·exact e
      ·exact absurd ⟨hls,e⟩ hcon
     rw [←e]
     unfold tl
     rw [Array.getElem?_toList]
     exact Array.getElem?_eq_getElem hls)
    have HLE:=hid (show i≤(tl s).length by rw [HTL.out];omega)
    have HTE:=hid (tl_mid s f i)
    have hsz:(s.extract f i).size=i - f:=by rw [←tl_len,tl_mid,List.length_take,List.length_drop,HTL.out];omega
    have HTN:=hid (show (((tl s).drop f).take (i - f)).length=i - f by rw [←tl_mid,tl_len,hsz])
    have HNO:=hid (fun hn=>M.numsAt_none HM.out hfi HLE.out H44.out HC.out hn)
    have HYES:=hid (fun v hn=>M.numsAt_some (v:=v) HM.out hfi HLE.out H44.out HC.out hn)
    have HAT:=hid (atoi_any (s.extract f i) (by omega) w.heap.size wr (HT.out wr HB.out))
    by_cases hls:i<s.size
    case' pos=>
     have d2:decide ((i:Int)<(s.size:Int))=true:=by rw [decide_eq_true_eq];omega
     have d3:(((s[i]'hls).toNat:Int) !=44)=false:=by
      have e:s[i]'hls=44:=by
       by_cases e:s[i]'hls=44
       ·exact e
       ·exact absurd ⟨hls,e⟩ hcon
      rw [e];rfl
    case' neg=>have d2:decide ((i:Int)<(s.size:Int))=false:=by rw [decide_eq_false_iff_not];omega
    all_goals
     clear hcon H44 HM HC
     go_wp2_with fail
     (with_reducible refine HAT.out.mono ?_)
     rintro e w1 ⟨v,ev,rfl,hb1,v0,v1,h⟩
     rw [HTE.out] at h
     have HB1:=hid (HB.out.trans (hb1.mono hbs))
     have HO1:=hid (HO.out.later hb1)
     clear HAT hb1 d1 d2 HTE
     obtain ⟨t,htt⟩: ∃ t,((tl s).drop f).take (i - f)=t:=⟨_,rfl⟩
     have HTT:=hid htt
     rw [htt] at h HTN HNO HYES
     clear htt
     by_cases hlong:13<i - f
     ·have HNN:=hid (HNO.out (M.numOf_long (by rw [HTN.out];exact hlong)))
      have d4:decide ((13:Int)<(i:Int) - (f:Int))=true:=by rw [decide_eq_true_eq];omega
      clear h HNO HYES
      go_wp2_with fail
      go_quiet (fail)
      go_wp2
      go_ret2
      exact ⟨_,by rw [HNN.out];rfl,by rw [HNN.out];exact OwnI.nil _ _,below_drewN' HB1.out _⟩
     ·have d4:decide ((13:Int)<(i:Int) - (f:Int))=false:=by rw [decide_eq_false_iff_not];omega
      have hle13:t.length≤13:=by rw [HTN.out];omega
      have HNM:Hid (M.numOf t=if t.length≤13∧0≤v∧Lib.itoa v=t then some v else none):=hid (by
       rcases h with ⟨ha,_⟩|⟨ha,_,hv⟩
       ·exact M.numOf_ok ha
       ·rw [M.numOf_err ha,if_neg]
        rintro ⟨_,_,he⟩
        rcases hv with rfl|hv
        ·exact M.zero_not ha he
        ·omega)
      clear h
      by_cases hv:v<0
      ·have HNN:=hid (HNO.out (by rw [HNM.out,if_neg (by omega)]))
       have d5:decide (v<0)=true:=by rw [decide_eq_true_eq];exact hv
       clear HNO HYES HNM
       go_wp2_with fail
       go_quiet (fail)
       go_wp2
       go_ret2
       exact ⟨_,by rw [HNN.out];rfl,by rw [HNN.out];exact OwnI.nil _ _,below_drewN' HB1.out _⟩
      ·have d5:decide (v<0)=false:=by rw [decide_eq_false_iff_not];exact hv
       have hwr:IntKind.i64.wrap ((i:Int) - (f:Int))=(i:Int) - (f:Int):=IntWalk.i64_in _ (by omega)
       by_cases he:Lib.itoa v=t
       ·have hYES:=HYES.out v (by rw [HNM.out,if_pos ⟨hle13,by omega,he⟩])
        have HYES2:=hid hYES
        have d6:(Lib.itoa v==(s.extract f i).toList)=true:=by rw [beq_iff_eq,tl_eq,tl_mid,HTT.out];exact he
        have HHE:=hid he
        obtain ⟨i1,hi1⟩: ∃ i1,i1=i+1:=⟨_,rfl⟩
        rw [←hi1] at HYES2
        clear HNO HYES HNM hYES he
        go_wp2_with fail
        refine wp_region_class (fun W=>Below w1.heap.size w1 W) (by kernel_rfl) (by kernel_rfl) (below_drew' (Below.refl _ _)) ?_
        repeat
         refine wpQuiet_step (fun K hK=> ?_)
         go_simp
         first
          |(refine hK _ ?_;clear hK K)
          |(apply Exists.intro
            refine ⟨fun W hW=> ?_,hK _ ?_⟩
            ·first
              |with_reducible rfl
              |(go_at_call 23;refine (HIM.out W v v0 v1 (HB1.out.trans (hW.mono HB1.out.size))).mono ?_;rintro e w' ⟨rfl,hb⟩;exact ⟨rfl,hW.trans (hb.mono hW.size)⟩)
            clear hK K)
        refine wpQuiet_nil ?_
        intro w2 hb2
        have HO2:=hid (HO1.out.later hb2)
        have HB2:=hid (HB1.out.trans (hb2.mono HB1.out.size))
        have hbs2:=HB2.out.size
        have hal2:acc.length≤1048576:=by omega
        clear hb2
        go_wp2_with (refine wpList_appI1 rfl (.tmp 50) (.tmp 52) rfl w.heap.size _ acc v (by simp [Act.eval]) HO2.out hbs2 (by simp [Act.eval]) hal2 ?_;intro v9 w9 ho9 hb9)
        go_roundw
        case rel=>exact ⟨i1,i1,acc++ [v],(by subst hi1;first|rfl|go_num),(by subst hi1;first|rfl|go_num),Nat.le_refl _,by omega,(fun h=>h),by rw [List.length_append,List.length_singleton];omega,HYES2,hid (by rw [Nat.sub_self];intro c hc;cases hc),ho9,hid (HB2.out.trans hb9.out)⟩
        case measure=>simp [RowKit.intOf]<;>omega
       ·have HNN:=hid (HNO.out (by rw [HNM.out,if_neg (by rintro ⟨_,_,h⟩;exact he h)]))
        have d6:(Lib.itoa v==(s.extract f i).toList)=false:=by rw [beq_eq_false_iff_ne,tl_eq,tl_mid,HTT.out];exact he
        clear HNO HYES HNM he
        go_wp2_with fail
        refine wp_region_class (fun W=>Below w1.heap.size w1 W) (by kernel_rfl) (by kernel_rfl) (below_drew' (Below.refl _ _)) ?_
        repeat
         refine wpQuiet_step (fun K hK=> ?_)
         go_simp
         first
          |(refine hK _ ?_;clear hK K)
          |(apply Exists.intro
            refine ⟨fun W hW=> ?_,hK _ ?_⟩
            ·first
              |with_reducible rfl
              |(go_at_call 23;refine (HIM.out W v v0 v1 (HB1.out.trans (hW.mono HB1.out.size))).mono ?_;rintro e w' ⟨rfl,hb⟩;exact ⟨rfl,hW.trans (hb.mono hW.size)⟩)
            clear hK K)
        refine wpQuiet_nil ?_
        intro w2 hb2
        go_wp2
        go_ret2
        exact ⟨_,by rw [HNN.out];rfl,by rw [HNN.out];exact OwnI.nil _ _,HB1.out.trans (hb2.mono HB1.out.size)⟩
  ·have HE:=hid (show M.nums (M.cuts (tl s))=some acc by
    rw [HM.out,M.numsAt_end (by rw [HTL.out];omega)]
    simp)
   have d1:decide (i≤s.size)=false:=by rw [decide_eq_false_iff_not];omega
   clear hle HM HC
   go_wp2_with fail
   go_ret2
   exact ⟨_,by rw [HE.out];rfl,by rw [HE.out];exact HO.out,HB.out⟩
end Go.Proofs.YtjpmpjbembhldaaGreatDoor.Sp
set_option linter.unusedVariables false
set_option linter.unusedSimpArgs false
namespace Go.Proofs.YtjpmpjbembhldaaGreatDoor.Sp
open Go.RowKit Go.Lib
attribute [local go_sem ↓] add_plain
theorem wp_appP {o:Oper} {a:Act} {w:World} {K:Act→World→Prop} {Q:Exit→Act→World→Prop} (s x:Operand)
  (ho:o.op= .call { callee:= .builtin .append,args:= #[s,x],argTypes:= #[22,22] })
  (base:Nat) (v:Value) (l:List (Int × Int)) (p q:Int) (hs:a.eval s=v) (hown:OwnP w base v l) (hbase:base≤w.heap.size) (gb:Nat)
  (hx:a.eval x= .slice (some ⟨gb,0,none⟩) 1 1) (hb:w.heap[gb]?=some (.cells #[.int .i64 p, .int .i64 q] 52 (0,0))) (hl:l.length≤1048576)
  (h: ∀ v' w',Hid (OwnP w' base v' (l++ [(p,q)]))→Hid (Below base w w')→K (a.put o.dst v') w'):Oper.wp Tryz.prog o a w K Q:=by
 obtain ⟨i0,hi,hz0,hz1,hz2⟩:=info_parts part_parts
 have hgb:gb<w.heap.size:=(Array.getElem?_eq_some_iff.1 hb).1
 refine wp_append_any w s x 22 ho base 52 i0 (.agg #[.int .i64 0, .int .i64 0]) 2 16 Tryz.underlying22 hi hz0 hz1 hz2 rfl (by decide) v l.length (pcells l) hs hown w.heap.size (some ⟨gb,0,none⟩) 1 1 [.int .i64 p, .int .i64 q] hx ?_ ?_ ?_ ?_ hbase ?_
 ·refine ⟨rfl,fun _=>⟨⟨gb,0,none⟩,rfl,hgb,fun j u hj=> ?_⟩⟩
  match j,hj with
  |0,hj=>simp at hj;subst hj;exact (cell_of_row _ _ 0 _ _ _ hb).trans rfl
  |1,hj=>simp at hj;subst hj;exact (cell_of_row _ _ 1 _ _ _ hb).trans rfl
 ·intro u hu
  simp at hu
  rcases hu with rfl|rfl<;>rfl
 ·unfold maxLen;omega
 ·omega
 ·intro v' w' hown' hgrow _
  refine h v' w' (hid ?_) (hid ?_)
  ·unfold OwnP
   rw [pcells_app,List.length_append]
   exact hown'
  ·refine below_grown (Below.refl base w) hgrow hbase ?_
   intro g hg
   exact (World.ownsRow.lt hown g hg).1
namespace M
theorem pairs_step {ns:List Int} {k:Nat} {a b:Int} (h0:ns[2*k]?=some a) (h1:ns[2*k+1]?=some b):pairs (ns.take (2*(k+1)))=pairs (ns.take (2*k))++ [(a,b)]:=by
 obtain ⟨l0,e0⟩:=List.getElem?_eq_some_iff.1 h0
 obtain ⟨l1,e1⟩:=List.getElem?_eq_some_iff.1 h1
 rw [show 2*(k+1)=2*k+1+1 by omega,List.take_succ_eq_append_getElem l1,List.take_succ_eq_append_getElem l0,e0,e1,List.append_assoc,pairs_app _ _ (by rw [List.length_take];omega)]
 rfl
theorem parse_nums {s:List UInt8} (h:s≠ []):parse s=parseN (nums (cuts s)):=by unfold parse;rw [if_neg h]
end M
set_option maxRecDepth 100000 in
set_option maxHeartbeats 4000000 in
theorem refParse_any (s:ByteArray) (hs:s.size≤100000) (w:World) (ht:EV w.heap.size w):
  Calls Tryz.prog 84 #[.string s] w (PartsTo (M.parse (tl s)) w):=by
 have HNS:=hid (refNumbers_any s hs w ht)
 by_cases h0:tl s= []
 ·have HP:=hid (show M.parse (tl s)=some [] by rw [h0];rfl)
  have he:s.toList.isEmpty=true:=by rw [tl_eq,h0];rfl
  clear h0
  go_enter Tryz.func84,Tryz.ntmps84
  go_wp2
  go_ret2
  exact ⟨_,by rw [HP.out];rfl,by rw [HP.out];exact OwnP.nil _ _,Below.refl _ _⟩
 have he:s.toList.isEmpty=false:=by rw [tl_eq];simpa using h0
 have HP:=hid (M.parse_nums h0)
 have HCL:=hid (M.cuts_len (tl s))
 have HTL:=hid (tl_len s)
 clear h0
 go_enter Tryz.func84,Tryz.ntmps84
 go_wp2_with fail
 (with_reducible refine HNS.out.mono ?_)
 rintro e w1 ⟨v,rfl,hov,hb1⟩
 have HB1:=hid hb1
 clear HNS hb1 he
 cases hns:M.nums (M.cuts (tl s)) with
 |none=>
  rw [hns] at HP
  rw [hns] at hov
  obtain ⟨A1,c1,rfl,_,_⟩:=hov.rd
  clear hns hov
  go_wp2_with fail
  go_ret2
  exact ⟨_,by rw [HP.out];rfl,by rw [HP.out];exact OwnP.nil _ _,HB1.out⟩
 |some ns=>
  rw [hns] at HP
  rw [hns] at hov
  have HNL:=hid (M.nums_len hns)
  rw [show (some ns).getD []=ns from rfl] at hov
  obtain ⟨A1,c1,rfl,hrd,_⟩:=hov.rd
  obtain ⟨n,hn⟩: ∃ n,ns.length=n:=⟨_,rfl⟩
  rw [hn] at hrd⊢
  have hnb:n≤100001:=by have:=HCL.out;have:=HTL.out;have:=HNL.out;omega
  have HN:=hid hn
  rw [M.parseN_some,hn] at HP
  have HR:=hid (fun (W:World) (hW:Below w1.heap.size w1 W)=>hrd.below hW)
  clear hns hov hrd hn
  by_cases hodd:n%2=1
  ·have HPN:=hid (show M.parse (tl s)=none by rw [HP.out,if_pos (.inl hodd)])
   have hm:Int.tmod (n:Int) 2=1:=by rw [Int.tmod_eq_emod_of_nonneg (by omega)];omega
   go_wp2_with fail
   go_ret2
   exact ⟨_,by rw [HPN.out];rfl,by rw [HPN.out];exact OwnP.nil _ _,HB1.out⟩
  ·obtain ⟨m,hm2⟩: ∃ m,n=2*m:=⟨n/2,by omega⟩
   have hm:Int.tmod (n:Int) 2=0:=by rw [Int.tmod_eq_emod_of_nonneg (by omega)];omega
   by_cases hbig:2000<n
   ·have HPN:=hid (show M.parse (tl s)=none by rw [HP.out,if_pos (.inr hbig)])
    have d1:decide ((2000:Int)<(n:Int))=true:=by rw [decide_eq_true_eq];omega
    go_wp2_with fail
    go_ret2
    exact ⟨_,by rw [HPN.out];rfl,by rw [HPN.out];exact OwnP.nil _ _,HB1.out⟩
   ·have HPY:=hid (show M.parse (tl s)=some (M.pairs ns) by rw [HP.out,if_neg (by omega)])
    have d1:decide ((2000:Int)<(n:Int))=false:=by rw [decide_eq_false_iff_not];omega
    have hnb2:n≤2000:=by omega
    have HM2:=hid hm2
    clear hm2 hodd hbig hnb
    go_wp2_with fail
    clear d1 hm
    go_loopw [6,7] (fun lv iv wr=> ∃ (q k:Nat),iv= .int .i64 q∧q=2*k∧k≤m∧Hid (OwnP wr w1.heap.size lv (M.pairs (ns.take (2*k))))∧Hid (Below w1.heap.size w1 wr)) (fun _ iv _=>n - (RowKit.intOf iv).toNat)
    case atStart=>exact ⟨0,0,rfl,rfl,Nat.zero_le _,hid (OwnP.nil _ _),hid (Below.refl _ _)⟩
    case round=>
     obtain ⟨q,k,rfl,hqk,hk,HO,HB⟩:=hrel
     obtain ⟨A2,c2,hv2,_,_⟩:=HO.out.rd
     subst hv2
     have hbs:=HB.out.size
     have hm2:=HM2.out
     by_cases hlt:k<m
     ·obtain ⟨b,off,za,rfl,hb,hza,hca⟩:=(HR.out wr HB.out).at_ (k:=q) (by omega)
      obtain ⟨b',off',zb,eA,_,hzb,hcb⟩:=(HR.out wr HB.out).at_ (k:=q+1) (by omega)
      injection eA with eA
      injection eA with e1 e2
      subst e1 e2
      have HST:=hid (M.pairs_step (k:=k) (by rw [←hqk];exact hza) (by rw [←hqk];exact hzb))
      have hpl:(M.pairs (ns.take (2*k))).length≤1048576:=by rw [M.pairs_len,List.length_take];omega
      have HPL:=hid hpl
      have CA:=hid (fun (W:World) (hW:Below w1.heap.size wr W)=>(hW.cell (p:=⟨b,off+q,none⟩) hb).trans hca)
      obtain ⟨q1,hq1⟩: ∃ q1,q+1=q1:=⟨_,rfl⟩
      rw [hq1] at hcb
      have CB:=hid (fun (W:World) (hW:Below w1.heap.size wr W)=>(hW.cell (p:=⟨b,off+q1,none⟩) hb).trans hcb)
      have HQK:=hid hqk
      have hlt2:q1<n:=by omega
      have hq1p:0<q1:=by omega
      have hwr:IntKind.i64.wrap ((q:Int)+1)=(q1:Int):=by rw [IntWalk.i64_in _ (by omega)];omega
      have hlt3:q<n:=by omega
      have d2:decide (q<n)=true:=by rw [decide_eq_true_eq];omega
      obtain ⟨q2,hq2⟩: ∃ q2,q2=q+2:=⟨_,rfl⟩
      generalize hac:M.pairs (ns.take (2*k))=acc at*
      clear hza hzb hca hcb hpl hqk hac hm2
      go_wp2_with fail
      refine wp_region_held_drew (S:=fun W=>Below w1.heap.size wr W) (by kernel_rfl) (below_drew' (Below.refl _ _)) (fun hS=> ?_)
      clear hS
      have hVs:Below w1.heap.size wr wr.drew:=below_drew' (Below.refl _ _)
      have HOV:=hid (show OwnP wr.drew w1.heap.size (.slice A2 acc.length c2) acc from HO.out)
      have hbV:w1.heap.size≤wr.drew.heap.size:=hbs
      generalize hSV:World.drew wr=V at*
      clear hSV
      have hS:=hVs
      refine tkH 0 hS ?_
      refine tkH 1 hS ?_
      refine tkH 2 hS ?_
      refine tkH 3 hS ?_
      refine tfH 4 hS CA.out ?_
      refine tkH 5 hS ?_
      refine tkH 6 hS ?_
      refine tkH 7 hS ?_
      refine tkH 8 hS ?_
      refine tfH 9 hS CB.out ?_
      refine tkH 10 hS ?_
      refine loneH (i:=11) 45 rfl rfl (by kernel_rfl) (by rfl) (fun K hK=> ?_)
      go_simp
      refine hK.out _ _ (hS.alloc hbV _) (fun hS=> ?_)
      clear hK K
      try simp only [NM]
      refine loneH (i:=12) 46 rfl rfl (by kernel_rfl) (by rfl) (fun K hK=> ?_)
      refine wp_appP (.tmp 34) (.tmp 45) rfl w1.heap.size _ acc za zb (by simp [Act.eval]) (OwnP.alloc HOV.out _) (Nat.le_trans hbV (by simp)) V.heap.size (by simp [Act.eval]) (heap_alloc_new V _) HPL.out ?_
      intro v9 w9 ho9 hb9
      have hS9:Below w1.heap.size wr w9:=hS.trans hb9.out
      refine hK.out _ _ (hS.trans hb9.out) (fun hS=> ?_)
      clear hK K
      try simp only [NM]
      obtain ⟨A9,c9,hv9,_,_⟩:=ho9.out.rd
      subst hv9
      refine tkH 13 hS ?_
      refine wpAnyH_done (by kernel_rfl) ?_ _
      try simp only [NM]
      go_wp2_with fail
      go_roundw
      case rel=>exact ⟨q2,k+1,(by subst hq2;first|rfl|go_num),by have:=HQK.out;omega,by omega,hid (by rw [HST.out];have h:=ho9.out;rw [List.length_append,List.length_singleton] at h;exact h),hid (HB.out.trans hS9)⟩
      case measure=>simp [RowKit.intOf]<;>omega
     ·obtain rfl:k=m:=by omega
      have d2:decide (q<n)=false:=by rw [decide_eq_false_iff_not];omega
      have ho:=HO.out
      rw [List.take_of_length_le (by rw [HN.out];omega)] at ho⊢
      have HO2:=hid ho
      clear HO ho
      go_wp2_with fail
      go_ret2
      exact ⟨_,by rw [HPY.out];rfl,by rw [HPY.out];exact OwnP.lower HO2.out HB1.out.size,HB1.out.trans (HB.out.mono HB1.out.size)⟩
end Go.Proofs.YtjpmpjbembhldaaGreatDoor.Sp
