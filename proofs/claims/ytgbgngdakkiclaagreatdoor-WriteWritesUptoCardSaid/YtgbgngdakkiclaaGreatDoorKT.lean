import Derived.Test.YtgbgngdakkiclaaGreatDoorKTa
import Derived.Test.YtgbgngdakkiclaaGreatDoorShelf
import Derived.Lib.AppendIntMem
import Derived.Lib.ItoaMem
import Derived.LoopTactic
set_option linter.unusedVariables false
set_option linter.unusedSimpArgs false
namespace Go.Proofs.YtgbgngdakkiclaaGreatDoor.St
open Go.RowKit Go.Shelf
theorem indexByte_pt: ∀ (l:List UInt8),((M.ptOf l).length<l.length∧Lib.indexByte l 46=((M.ptOf l).length:Int))∨((M.ptOf l).length=l.length∧Lib.indexByte l 46= -1)
 | []=> .inr ⟨rfl,rfl⟩
 |c::l=>by
  have e:Lib.indexByte (c::l) 46=if c==46 then 0 else if Lib.indexByte l 46== -1 then -1 else Lib.indexByte l 46+1:=rfl
  have ih:=indexByte_pt l
  unfold M.ptOf at ih⊢
  rw [e,List.takeWhile_cons]
  clear e
  cases hc:(c==46) with
  |true=>exact .inl ⟨by simp,rfl⟩
  |false=>
   simp only [Bool.not_false,if_true,List.length_cons,Bool.false_eq_true,if_false]
   rcases ih with ⟨h1,h2⟩|⟨h1,h2⟩
   ·left
    rw [h2]
    have h3:(((l.takeWhile fun c=> !(c==46)).length:Int)== -1)=false:=by simp
    rw [h3]
    exact ⟨by omega,by simp⟩
   ·right
    rw [h2]
    exact ⟨by omega,by simp⟩
def cutVal (s:ByteArray):Value:=
 .tuple #[.string ⟨(M.ptOf (tl s)).toArray⟩, .string ⟨(M.aftPt (tl s)).toArray⟩, .bool (decide ((M.ptOf (tl s)).length<(tl s).length))]
theorem ext_front (s:ByteArray) (k:Nat) (h:k≤s.size):s.extract 0 k=⟨((tl s).take k).toArray⟩:=by
 refine tl_inj ?_
 show (s.extract 0 k).data.toList=(tl s).take k
 simp [ByteArray.data_extract,tl]
theorem ext_back (s:ByteArray) (k:Nat):s.extract k s.size=⟨((tl s).drop k).toArray⟩:=by
 refine tl_inj ?_
 show (s.extract k s.size).data.toList=(tl s).drop k
 simp [ByteArray.data_extract,tl]
 rw [List.take_of_length_le]
 simp
theorem ret_three {a b c d:ByteArray} {x y:Bool} (h1:a=c) (h2:b=d) (h3:x=y):Ending.returned (.tuple #[.string a, .string b, .bool x])= .returned (.tuple #[.string c, .string d, .bool y]):=by rw [h1,h2,h3]
set_option maxRecDepth 100000 in
set_option maxHeartbeats 1000000 in
theorem liteCut_any (s:ByteArray) (hs:s.size≤1048576) (w:World):Calls Tryz.prog 179 #[.string s, .string ⟨#[46]⟩] w fun e w'=>e= .returned (cutVal s)∧Below w.heap.size w w':=by
 rcases indexByte_pt (tl s) with ⟨h1,h2⟩|⟨h1,h2⟩
 ·have hk:(M.ptOf (tl s)).length<s.size:=h1
  have hfr:=ext_front s (M.ptOf (tl s)).length (by omega)
  rw [M.ptOf_take] at hfr
  have hbk:=ext_back s ((M.ptOf (tl s)).length+1)
  have hv:cutVal s= .tuple #[.string ⟨(M.ptOf (tl s)).toArray⟩, .string ⟨(M.aftPt (tl s)).toArray⟩, .bool true]:=by unfold cutVal;rw [decide_eq_true h1]
  unfold M.aftPt at hv
  have HV:=Lib.hid hv
  have HF:=Lib.hid hfr
  have HB:=Lib.hid hbk
  have HX:=Lib.hid (show Lib.indexByte s.data.toList 46=((M.ptOf (tl s)).length:Int) from h2)
  clear hv hfr hbk h1 h2
  generalize (M.ptOf (tl s)).length=k at*
  go_enter Tryz.func179,Tryz.ntmps179
  go_wp2_with (go_at_call 204;refine (Tryz.stringslite_Index_one _ _ _).mono ?_;rintro e w' ⟨rfl,rfl⟩;rw [HX.out])
  go_region
  go_wp2
  trace_state
  go_ret3
  exact ⟨by rw [HV.out];exact ret_three HF.out HB.out rfl,below_drew' (Below.refl _ _)⟩
 ·have hv:cutVal s= .tuple #[.string s, .string ⟨#[]⟩, .bool false]:=by
   unfold cutVal M.aftPt
   rw [decide_eq_false (by omega),List.drop_of_length_le (by omega),show M.ptOf (tl s)=tl s by rw [←M.ptOf_take,h1,List.take_length]]
   rfl
  have HV:=Lib.hid hv
  have HX:=Lib.hid (show Lib.indexByte s.data.toList 46= -1 from h2)
  clear hv h1 h2
  go_enter Tryz.func179,Tryz.ntmps179
  go_wp2_with (go_at_call 204;refine (Tryz.stringslite_Index_one _ _ _).mono ?_;rintro e w' ⟨rfl,rfl⟩;rw [HX.out])
  go_ret3
  exact ⟨by rw [HV.out];rfl,Below.refl _ _⟩
set_option maxRecDepth 100000 in
theorem cut_any (s:ByteArray) (hs:s.size≤1048576) (w:World):Calls Tryz.prog 157 #[.string s, .string ⟨#[46]⟩] w fun e w'=>e= .returned (cutVal s)∧Below w.heap.size w w':=by
 have C:=liteCut_any s hs w
 have HC:=Lib.hid C
 clear C
 unfold cutVal at HC⊢
 go_enter Tryz.func157,Tryz.ntmps157
 go_wp2_with (go_at_call 179;refine HC.out.mono ?_;rintro e w1 ⟨rfl,hb⟩)
 go_ret3
 exact ⟨rfl,hb⟩
theorem cutSign_any (s:ByteArray) (w:World):Calls Tryz.prog 156 #[.string s, .string ⟨#[45]⟩] w fun e w'=>e= .returned (.tuple #[.string ⟨(M.noSign (tl s)).toArray⟩, .bool (M.minus (tl s))])∧w'=w:=by
 have h:=Tryz.strings_CutPrefix s ⟨#[45]⟩ w
 have h1:Lib.hasPrefix s.data.toList (⟨#[45]⟩:ByteArray).data.toList=M.minus (tl s):=by
  unfold Lib.hasPrefix M.minus tl
  cases s.data.toList with
  |nil=>rfl
  |cons c l=>
   show [(45:UInt8)].isPrefixOf (c::l)=_
   simp [List.isPrefixOf,eq_comm,Bool.beq_eq_decide_eq]
 have h2:Lib.trimPrefix s.data.toList (⟨#[45]⟩:ByteArray).data.toList=M.noSign (tl s):=by
  unfold Lib.trimPrefix M.noSign
  rw [h1]
  show (if M.minus (tl s)=true then List.drop 1 (tl s) else tl s)=_
  rw [List.drop_one]
 rw [h1,h2] at h
 exact h
end Go.Proofs.YtgbgngdakkiclaaGreatDoor.St
namespace Go.Proofs.YtgbgngdakkiclaaGreatDoor.St
open Go.RowKit Go.Shelf
theorem number_15 (s:ByteArray) (w:World):Calls Tryz.prog 158 #[.string s, .int .i64 15] w (NumIs (M.number (tl s) 15) w):=number_any s 15 (by decide) w
theorem number_18 (s:ByteArray) (w:World):Calls Tryz.prog 158 #[.string s, .int .i64 18] w (NumIs (M.number (tl s) 18) w):=number_any s 18 (by decide) w
theorem number_9 (s:ByteArray) (w:World):Calls Tryz.prog 158 #[.string s, .int .i64 9] w (NumIs (M.number (tl s) 9) w):=number_any s 9 (by decide) w
theorem front9 (s:ByteArray):tl ((s++(⟨#[48,48,48,48,48,48,48,48,48]⟩:ByteArray)).extract 0 9)=(tl s++M.nine).take 9:=by
 show ((s++(⟨#[48,48,48,48,48,48,48,48,48]⟩:ByteArray)).extract 0 9).data.toList=_
 have e:((s++(⟨#[48,48,48,48,48,48,48,48,48]⟩:ByteArray)).extract 0 9).data.toList=(tl (s++(⟨#[48,48,48,48,48,48,48,48,48]⟩:ByteArray))).take 9:=by
  simp [ByteArray.data_extract,tl,List.take_append]
 rw [e,tl_append]
 rfl
set_option maxRecDepth 100000 in
set_option maxHeartbeats 1000000 in
theorem billionths_any (s:ByteArray) (hs:s.size≤1048576) (w:World):Calls Tryz.prog 159 #[.string s] w (NumIs (M.billionths (tl s)) w):=by
 have he:=M.billionths_eq (tl s)
 have C1:=number_18 s w
 rcases hn:M.number (tl s) 18 with _|n
 ·rw [if_pos hn] at he
  rw [hn] at C1
  have HE:=Lib.hid he
  have HC:=Lib.hid C1
  clear he C1 hn
  unfold NumIs numV at HC
  go_enter Tryz.func159,Tryz.ntmps159
  go_wp2_with (go_at_call 158;refine HC.out.mono ?_;rintro e w1 ⟨rfl,hb⟩;dsimp only)
  go_ret2
  exact ⟨ret_num HE.out.symm,hb⟩
 ·rw [if_neg (by rw [hn];simp)] at he
  rw [hn] at C1
  have hC2:=fun W=>number_9 ((s++(⟨#[48,48,48,48,48,48,48,48,48]⟩:ByteArray)).extract 0 9) W
  rw [front9] at hC2
  rcases ho:M.number ((tl s++M.nine).take 9) 9 with _|k
  all_goals
   rw [ho] at hC2 he
   have HE:=Lib.hid he
   have HC:=Lib.hid C1
   have HD:=Lib.hid hC2
   clear he C1 hn hC2 ho
   unfold NumIs numV at HC HD
   go_enter Tryz.func159,Tryz.ntmps159
   go_wp2_with (first
    |(go_at_call 158;(with_reducible refine HC.out.mono ?_);rintro e w1 ⟨rfl,hb⟩;dsimp only)
    |(go_at_call 158;(with_reducible refine (HD.out _).mono ?_);rintro e w2 ⟨rfl,hb2⟩;dsimp only))
   go_ret2
   exact ⟨ret_num HE.out.symm,hb.trans (hb2.mono hb.size)⟩
def parseV:Option M.Tm→Value
 |none=> .tuple #[tv (0,0), .bool false]
 |some t=> .tuple #[tv t, .bool true]
def ParseIs (o:Option M.Tm) (w:World) (e:Ending) (w':World):Prop:=e= .returned (parseV o)∧Below w.heap.size w w'
theorem results_tb {f:Func} {k j:Nat} (hf:f.results= #[ResultVar.cell k 31,ResultVar.tmp j]) {tmps:Array Value} {g:Nat} {t:M.Tm} {v:Value} {w:World} (hk:tmps.getD k undef= .pointer (some ⟨g,0,none⟩)) (hj:tmps.getD j undef=v) (hb:BoxT w g t):
  (results f tmps).run Tryz.prog w= .ok (.tuple #[tv t,v]) w:=by
 simp only [results,hf]
 rw [Array.getD_eq_getD_getElem?] at hk hj
 have c0:=hb.cell0
 have c1:=hb.cell1
 simp [go_sem,hk,hj,c0,c1,tv]
def fracOf (p:Bool) (x:List UInt8):List UInt8:=if p=true then M.aftPt x else M.nine
theorem frac_eq (x:List UInt8):M.frac x=M.billionths (fracOf (decide ((M.ptOf x).length<x.length)) x):=by
 unfold M.frac fracOf
 by_cases h:(M.ptOf x).length<x.length
 ·rw [if_pos h,decide_eq_true h,if_pos rfl]
 ·rw [if_neg h,decide_eq_false h,if_neg (by decide)]
  decide+kernel
theorem parse_eq (l:List UInt8):M.parse l=match M.number (M.ptOf (M.noSign l)) 15 with
  |none=>none
  |some a=>match M.billionths (fracOf (decide ((M.ptOf (M.noSign l)).length<(M.noSign l).length)) (M.noSign l)) with
   |none=>none
   |some b=>some (M.sgn (M.minus l) (a,b)):=by
 unfold M.parse
 rw [frac_eq]
 rfl
theorem noSign_le (l:List UInt8):(M.noSign l).length≤l.length:=by
 unfold M.noSign
 split
 ·rw [List.length_tail];omega
 ·exact Nat.le_refl _
theorem aftPt_le (l:List UInt8):(M.aftPt l).length≤l.length:=by unfold M.aftPt;rw [List.length_drop];omega
set_option maxRecDepth 100000 in
set_option maxHeartbeats 4000000 in
theorem parse_any (s:ByteArray) (hs:s.size≤1048576) (w:World):Calls Tryz.prog 132 #[.string s] w (ParseIs (M.parse (tl s)) w):=by
 have he:=parse_eq (tl s)
 have C1:=fun W=>cutSign_any s W
 have hlx:=noSign_le (tl s)
 rw [tl_len] at hlx
 generalize M.noSign (tl s)=x at*
 generalize M.minus (tl s)=sg at*
 have C2:=fun W=>cut_any ⟨x.toArray⟩ (show x.length≤1048576 by omega) W
 unfold cutVal at C2
 rw [tl_mk] at C2
 have C3:=fun W=>number_15 ⟨(M.ptOf x).toArray⟩ W
 have hla:=aftPt_le x
 have hlf: ∀ p,(fracOf p x).length≤1048576:=fun p=>by
  unfold fracOf;split
  ·omega
  ·decide
 have C4:=fun p W=>billionths_any ⟨(fracOf p x).toArray⟩ (show (fracOf p x).length≤1048576 from hlf p) W
 simp only [tl_mk] at C3 C4
 have hf0:(⟨(fracOf false x).toArray⟩:ByteArray)=⟨#[48,48,48,48,48,48,48,48,48]⟩:=rfl
 have hf1:(⟨(fracOf true x).toArray⟩:ByteArray)=⟨(M.aftPt x).toArray⟩:=rfl
 generalize decide ((M.ptOf x).length<x.length)=p at*
 have C5:=C4 p
 clear C4 hla hlf
 have hbx0:=BoxT.new w (0,0)
 have hb0:Below w.heap.size w (w.alloc (.cells #[.int .i64 0, .int .i64 0] 31)):=(Below.refl _ w).alloc (Nat.le_refl _) _
 rcases ho1:M.number (M.ptOf x) 15 with _|a
 ·rw [ho1] at he C3
  dsimp only at he
  have HE:=Lib.hid he
  have H1:=Lib.hid C1
  have H2:=Lib.hid C2
  have H3:=Lib.hid C3
  have HX:=Lib.hid hbx0
  clear he C1 C2 C3 C5 ho1 hf0 hf1 hlx hbx0
  unfold NumIs numV at H3
  cases p
  all_goals
   go_enter Tryz.func132,Tryz.ntmps132
   go_wp2_with fail
   refine (H1.out _).mono ?_
   rintro e w0 ⟨rfl,rfl⟩
   go_wp2_with fail
   refine (H2.out _).mono ?_
   rintro e w1 ⟨rfl,hb1⟩
   go_wp2_with fail
   refine (H3.out _).mono ?_
   rintro e w2 ⟨rfl,hb2⟩
   have b1:=hb0.trans (hb1.mono hb0.size)
   have b2:=b1.trans (hb2.mono b1.size)
   have x2:=(HX.out.below hb1 HX.out.lt).below hb2 (HX.out.below hb1 HX.out.lt).lt
   have c0:=x2.cell0
   have c1:=x2.cell1
   have f0:=x2.frozen 0
   have f1:=x2.frozen 1
   dsimp only at c0 c1
   clear hb1 hb2 b1
   go_wp2
   refine bodyPost_ret (results_tb rfl rfl rfl (x2.set (0,0))) rfl ⟨?_,below_set2 b2 (Nat.le_refl _) _ _⟩
   rw [HE.out]
   rfl
 have hA:a<1000000000000000:=M.number_lt ho1
 rcases ho2:M.billionths (fracOf p x) with _|b
 ·rw [ho1,ho2] at he
  rw [ho1] at C3
  rw [ho2] at C5
  dsimp only at he
  have HE:=Lib.hid he
  have H1:=Lib.hid C1
  have H2:=Lib.hid C2
  have H3:=Lib.hid C3
  have HX:=Lib.hid hbx0
  unfold NumIs numV at H3 C5
  cases p
  case' false=>
   rw [hf0] at C5
  case' true=>
   rw [hf1] at C5
  all_goals
   have H4:=Lib.hid C5
   clear he C1 C2 C3 C5 ho1 ho2 hf0 hf1 hlx hbx0 hA
   go_enter Tryz.func132,Tryz.ntmps132
   go_wp2_with fail
   refine (H1.out _).mono ?_
   rintro e w0 ⟨rfl,rfl⟩
   go_wp2_with fail
   refine (H2.out _).mono ?_
   rintro e w1 ⟨rfl,hb1⟩
   go_wp2_with fail
   refine (H3.out _).mono ?_
   rintro e w2 ⟨rfl,hb2⟩
   go_wp2_with fail
   refine (H4.out _).mono ?_
   rintro e w3 ⟨rfl,hb3⟩
   have b1:=hb0.trans (hb1.mono hb0.size)
   have b2:=b1.trans (hb2.mono b1.size)
   have b3:=b2.trans (hb3.mono b2.size)
   have x1:=HX.out.below hb1 HX.out.lt
   have x2:=x1.below hb2 x1.lt
   have x3:=x2.below hb3 x2.lt
   have c0:=x3.cell0
   have c1:=x3.cell1
   have f0:=x3.frozen 0
   have f1:=x3.frozen 1
   dsimp only at c0 c1
   clear hb1 hb2 b1 b2 x1 x2 hb3
   go_wp2
   refine bodyPost_ret (results_tb rfl rfl rfl (x3.set (0,0))) rfl ⟨?_,below_set2 b3 (Nat.le_refl _) _ _⟩
   rw [HE.out]
   rfl
 have hB:b<1000000000:=M.billionths_lt ho2
 rw [ho1,ho2] at he
 rw [ho1] at C3
 rw [ho2] at C5
 dsimp only at he
 have CO:=fun W=>opp_any (a:Int) (b:Int) ⟨by show (-999999999999999:Int)≤(a:Int);omega,by show (a:Int)≤999999999999999;omega,by show (0:Int)≤(b:Int);omega,by show (b:Int)≤999999999;omega⟩ W
 have HE:=Lib.hid he
 have H1:=Lib.hid C1
 have H2:=Lib.hid C2
 have H3:=Lib.hid C3
 have HX:=Lib.hid hbx0
 rcases hO:M.opp ((a:Int),(b:Int)) with ⟨oS,oN⟩
 rw [hO] at CO
 unfold TimeIs tv at CO
 dsimp only at CO
 have HOO:=Lib.hid hO
 have HO:=Lib.hid CO
 clear hO
 unfold NumIs numV at H3 C5
 cases p
 case' false=>
  rw [hf0] at C5
 case' true=>
  rw [hf1] at C5
 all_goals
  have H4:=Lib.hid C5
  clear he C1 C2 C3 C5 ho1 ho2 hf0 hf1 hlx hbx0 hA hB CO
  go_enter Tryz.func132,Tryz.ntmps132
  go_wp2_with fail
  refine (H1.out _).mono ?_
  rintro e w0 ⟨rfl,rfl⟩
  go_wp2_with fail
  refine (H2.out _).mono ?_
  rintro e w1 ⟨rfl,hb1⟩
  go_wp2_with fail
  refine (H3.out _).mono ?_
  rintro e w2 ⟨rfl,hb2⟩
  go_wp2_with fail
  refine (H4.out _).mono ?_
  rintro e w3 ⟨rfl,hb3⟩
  have b1:=hb0.trans (hb1.mono hb0.size)
  have b2:=b1.trans (hb2.mono b1.size)
  have b3:=b2.trans (hb3.mono b2.size)
  have x1:=HX.out.below hb1 HX.out.lt
  have x2:=x1.below hb2 x1.lt
  have x3:=x2.below hb3 x2.lt
  have y3:=x3.alloc (.cells #[.int .i64 (a:Int), .int .i64 (b:Int)] 31)
  have z3:=BoxT.new w3 ((a:Int),(b:Int))
  dsimp only at z3
  clear hb1 hb2 b1 b2 x1 x2 hb3
  cases sg
  case false=>
   have c0:=y3.cell0
   have c1:=y3.cell1
   have f0:=y3.frozen 0
   have f1:=y3.frozen 1
   dsimp only at c0 c1
   clear HO
   go_wp2
   refine bodyPost_ret (results_tb rfl rfl rfl (y3.set ((a:Int),(b:Int)))) rfl ⟨?_,below_set2 (b3.alloc b3.size _) (Nat.le_refl _) _ _⟩
   rw [HE.out]
   rfl
  case true=>
   go_wp2_with fail
   refine (HO.out _).mono ?_
   rintro e w4 ⟨rfl,hb4⟩
   have b4:=(b3.alloc b3.size (.cells #[.int .i64 (a:Int), .int .i64 (b:Int)] 31)).trans (hb4.mono (by have:=b3.size;simp;omega))
   have x4:=y3.below hb4 y3.lt
   have z4:=z3.below hb4 z3.lt
   have hne:w3.heap.size≠w.heap.size:=by have:=x3.lt;omega
   have c0:=x4.cell0
   have c1:=x4.cell1
   have f0:=x4.frozen 0
   have f1:=x4.frozen 1
   have d0:=z4.cell0
   have d1:=z4.cell1
   have g0:=z4.frozen 0
   have g1:=z4.frozen 1
   dsimp only at c0 c1 d0 d1
   have zs:=z4.set (oS,oN)
   have xs:=(x4.other (i:=0) hne (.int .i64 oS)).other (i:=1) hne (.int .i64 oN)
   have bs:=below_set2 b4 (by have:=b3.size;omega) (.int .i64 oS) (.int .i64 oN) (g:=w3.heap.size)
   dsimp only at zs xs
   have e0:=zs.cell0
   have e1:=zs.cell1
   have k0:=xs.cell0
   have k1:=xs.cell1
   have l0:=xs.frozen 0
   have l1:=xs.frozen 1
   dsimp only at e0 e1 k0 k1
   clear HO hb4 y3 z3 x3 z4 b3
   go_wp2
   refine bodyPost_ret (results_tb rfl rfl rfl (xs.set (oS,oN))) rfl ⟨?_,below_set2 bs (Nat.le_refl _) _ _⟩
   rw [HE.out]
   unfold M.sgn
   rw [if_pos rfl,HOO.out]
   rfl
end Go.Proofs.YtgbgngdakkiclaaGreatDoor.St
namespace Go.Proofs.YtgbgngdakkiclaaGreatDoor.St
open Go.RowKit Go.Shelf
def TB (B:Nat) (w:World):Prop:=Lib.TabBelow Tryz.prog B w "internal/strconv.uint64pow10" .u64 Lib.pow10Tab
theorem TB.on {B:Nat} {w w':World} (h:TB B w) (hb:Below B w w'):TB B w':=Lib.TabBelow.on h hb
theorem TB.up {B B':Nat} {w:World} (h:TB B w) (hB:B≤B'):TB B' w:=fun w' hb=>h w' (hb.mono hB)
def DecIs (n:Nat) (w:World) (e:Ending) (w':World):Prop:= ∃ s:ByteArray,e= .returned (.string s)∧tl s=Lib.decDigits n∧s.size=Lib.nDigits n∧Below w.heap.size w w'
theorem itoa_any (n:Nat) (hn:n≤9223372036854775807) (B:Nat) (w:World) (ht:TB B w):
  Calls Tryz.prog 54 #[.int .i64 n] w (DecIs n w):=by
 refine (Tryz.strconv_Itoa (n:Int) (by omega) (by omega) w ht.here).mono ?_
 rintro e w' ⟨rfl,k,os,rfl⟩
 refine ⟨_,rfl, ?_, ?_,Lib.below_grow _ _ (Nat.le_refl _) _ _⟩
 ·rw [tl_mk,Lib.itoa_nonneg]
 ·show (Lib.itoa (n:Int)).toArray.size=_
  rw [Lib.itoa_nonneg,List.size_toArray,Lib.decDigits_length]
set_option maxRecDepth 100000 in
set_option maxHeartbeats 1000000 in
theorem opp_to (S n:Int) (h:M.Ok (S,n)) (w:World):Calls Tryz.prog 160 #[.agg #[.int .i64 S, .int .i64 n]] w (NormTo (S,n) (M.opp (S,n)) w):=by
 obtain ⟨h1,h2,h3,h4⟩:=h
 dsimp only at h1 h2 h3 h4
 by_cases h0:n=0
 ·subst h0
  have ho:M.opp (S,0)=(-S,0):=rfl
  rw [ho]
  clear ho
  go_enter Tryz.func160,Tryz.ntmps160
  go_wp2
  exact bodyPost_ret (results_time rfl rfl (box2 w _ (-S,0))) rfl ⟨rfl,rfl⟩
 ·have ho:M.opp (S,n)=(-S - 1,1000000000 - n):=by unfold M.opp;rw [if_neg h0]
  rw [ho]
  clear ho
  go_enter Tryz.func160,Tryz.ntmps160
  go_wp2
  exact bodyPost_ret (results_time rfl rfl (box2 w _ (-S - 1,1000000000 - n))) rfl ⟨rfl,rfl⟩
def TextIs (l:List UInt8) (w:World) (e:Ending) (w':World):Prop:=e= .returned (.string ⟨l.toArray⟩)∧Below w.heap.size w w'
theorem ret_text {s:ByteArray} {l:List UInt8} (h:tl s=l):Ending.returned (.string s)= .returned (.string ⟨l.toArray⟩):=by
 rw [tl_inj (a:=s) (b:=⟨l.toArray⟩) h]
theorem trim_text (l:List UInt8):Lib.trimRightB l 48=M.trim0 l:=rfl
theorem pad_text {x:ByteArray} {n:Nat} (hx:tl x=Lib.decDigits n) (hs:x.size=Lib.nDigits n) (h9:Lib.nDigits n≤9):
  ((⟨#[48,48,48,48,48,48,48,48,48]⟩:ByteArray).extract x.size 9++x).data.toList=M.pad9 n:=by
 show tl _=_
 rw [tl_append,hx,hs]
 unfold M.pad9
 congr 1
 generalize Lib.nDigits n=d at*
 match d,h9 with
 |0,_=>rfl
 |1,_=>rfl
 |2,_=>rfl
 |3,_=>rfl
 |4,_=>rfl
 |5,_=>rfl
 |6,_=>rfl
 |7,_=>rfl
 |8,_=>rfl
 |9,_=>rfl
theorem below5 (w:World) (o o2 o3 o4 o5:Obj):Below w.heap.size w (((((w.alloc o).alloc o2).alloc o3).alloc o4).alloc o5):=((below3 w o o2 o3).alloc (by simp;omega) _).alloc (by simp;omega) _
set_option maxRecDepth 100000 in
set_option maxHeartbeats 4000000 in
theorem print_any (S n:Int) (B:Nat) (w:World) (hB:B≤w.heap.size) (ht:TB B w):Calls Tryz.prog 134 #[.agg #[.int .i64 S, .int .i64 n]] w (TextIs (M.pr (M.norm (S,n))) w):=by
 have C1:=fun W=>norm_to S n W
 have hok:=M.norm_ok (S,n)
 generalize M.norm (S,n)=t at*
 obtain ⟨p1,p2⟩:=t
 obtain ⟨a1,a2,a3,a4,a5⟩:=M.sgn_parts hok
 have CO:=fun W=>opp_to p1 p2 hok W
 have he:M.pr (p1,p2)=(if M.below0 (p1,p2)=true then [45] else [])++(Lib.decDigits (M.sgn (M.below0 (p1,p2)) (p1,p2)).1.toNat++M.fracText (M.sgn (M.below0 (p1,p2)) (p1,p2)).2.toNat):=rfl
 have hb0:M.below0 (p1,p2)=decide (p1<0):=rfl
 have hq:M.below0 (p1,p2)=true→M.opp (p1,p2)=M.sgn (M.below0 (p1,p2)) (p1,p2):=fun h=>by unfold M.sgn;rw [if_pos h]
 have hq2:M.below0 (p1,p2)=false→(p1,p2)=M.sgn (M.below0 (p1,p2)) (p1,p2):=fun h=>by unfold M.sgn;rw [if_neg (by rw [h];decide)]
 generalize M.below0 (p1,p2)=b at*
 generalize M.sgn b (p1,p2)=q at*
 obtain ⟨A,N⟩:=q
 dsimp only at a1 a2 a3 a4 a5 he
 obtain ⟨A',rfl⟩: ∃ A':Nat,A=A':=⟨A.toNat,by omega⟩
 obtain ⟨N',rfl⟩: ∃ N':Nat,N=N':=⟨N.toNat,by omega⟩
 rw [Int.toNat_natCast,Int.toNat_natCast] at he
 have hd1:Lib.nDigits A'≤15:=M.dec_len (by omega) (by omega)
 have hd2:Lib.nDigits N'≤9:=M.dec_len (by omega) (by omega)
 have CA:=fun B' W h=>itoa_any A' (by omega) B' W h
 have CN:=fun B' W h=>itoa_any N' (by omega) B' W h
 have HT:=Lib.hid (ht.up hB)
 have H1:=Lib.hid C1
 have HCA:=Lib.hid CA
 have HCN:=Lib.hid CN
 have HE:=Lib.hid he
 clear C1 CA CN he ht hok
 by_cases hN0:N'=0
 case' pos=>
  subst hN0
  have hfr:M.fracText 0= []:=rfl
 case' neg=>
  have hfr:M.fracText N'=46::M.trim0 (M.pad9 N'):=by unfold M.fracText;rw [if_neg hN0]
  have k5:((N':Int)==0)=false:=by simp;omega
 all_goals
  rw [hfr] at HE
  cases b
  case' false=>
   have hpq:=hq2 rfl
   simp only [Prod.mk.injEq] at hpq
   obtain ⟨rfl,rfl⟩:=hpq
   have k0:decide ((A':Int)<0)=false:=hb0.symm
   clear hq hq2 hb0 CO hfr
  case' true=>
   have ho:=hq rfl
   rw [ho] at CO
   have HO:=Lib.hid CO
   have k0:decide (p1<0)=true:=hb0.symm
   clear hq hq2 hb0 CO ho hfr
 case pos.false=>
  go_enter Tryz.func134,Tryz.ntmps134
  go_wp2_with fail
  refine (H1.out _).mono ?_
  rintro e w1 ⟨rfl,rfl⟩
  dsimp only
  go_wp2_with fail
  refine (HCA.out w.heap.size _ (HT.out.on (below3 _ _ _ _))).mono ?_
  rintro e w2 ⟨x,rfl,hx,hxs,hb2⟩
  have x2:=(((BoxT.new w ((A':Int),(0:Int))).alloc (.cells #[.int .i64 S, .int .i64 n] 31)).alloc (.cells #[.int .i64 (A':Int), .int .i64 (0:Int)] 31)).below hb2 (by simp;omega)
  have b2:Below w.heap.size w w2:=(below3 _ _ _ _).trans (hb2.mono (by simp;omega))
  have hxz:x.size≤15:=by rw [hxs];exact hd1
  have HX:=Lib.hid hx
  have c1:=x2.cell1
  dsimp only at c1
  clear hb2 x2 hx hxs H1 HCA
  go_wp2
  go_ret
  refine ⟨ret_text ?_,b2⟩
  rw [HE.out,tl_append,HX.out,List.append_nil]
  rfl
 case pos.true=>
  go_enter Tryz.func134,Tryz.ntmps134
  go_wp2_with fail
  refine (H1.out _).mono ?_
  rintro e w1 ⟨rfl,rfl⟩
  dsimp only
  go_wp2_with fail
  refine (HO.out _).mono ?_
  rintro e w1 ⟨rfl,rfl⟩
  dsimp only
  go_wp2_with fail
  refine (HCA.out w.heap.size _ (HT.out.on (below5 _ _ _ _ _ _))).mono ?_
  rintro e w2 ⟨x,rfl,hx,hxs,hb2⟩
  have x2:=(((((BoxT.new w ((A':Int),(0:Int))).alloc (.cells #[.int .i64 S, .int .i64 n] 31)).alloc (.cells #[.int .i64 p1, .int .i64 p2] 31)).alloc (.cells #[.int .i64 p1, .int .i64 p2] 31)).alloc (.cells #[.int .i64 (A':Int), .int .i64 (0:Int)] 31)).below hb2 (by simp;omega)
  have b2:Below w.heap.size w w2:=(below5 _ _ _ _ _ _).trans (hb2.mono (by simp;omega))
  have hxz:x.size≤15:=by rw [hxs];exact hd1
  have HX:=Lib.hid hx
  have c1:=x2.cell1
  dsimp only at c1
  clear hb2 x2 hx hxs H1 HCA HO
  go_wp2
  go_ret
  refine ⟨ret_text ?_,b2⟩
  rw [HE.out,tl_append,HX.out,List.append_nil]
  rfl
 case neg.false=>
  go_enter Tryz.func134,Tryz.ntmps134
  go_wp2_with fail
  refine (H1.out _).mono ?_
  rintro e w1 ⟨rfl,rfl⟩
  dsimp only
  go_wp2_with fail
  refine (HCA.out w.heap.size _ (HT.out.on (below3 _ _ _ _))).mono ?_
  rintro e w2 ⟨x,rfl,hx,hxs,hb2⟩
  have x2:=(((BoxT.new w ((A':Int),(N':Int))).alloc (.cells #[.int .i64 S, .int .i64 n] 31)).alloc (.cells #[.int .i64 (A':Int), .int .i64 (N':Int)] 31)).below hb2 (by simp;omega)
  have b2:Below w.heap.size w w2:=(below3 _ _ _ _).trans (hb2.mono (by simp;omega))
  have hxz:x.size≤15:=by rw [hxs];exact hd1
  have HX:=Lib.hid hx
  have c1:=x2.cell1
  dsimp only at c1
  clear hb2 x2 hx hxs H1 HCA
  go_wp2_with fail
  refine (HCN.out w.heap.size _ (HT.out.on b2)).mono ?_
  rintro e w3 ⟨y,rfl,hy,hys,hb3⟩
  have b3:=b2.trans (hb3.mono b2.size)
  have hp:=pad_text hy hys hd2
  have hyz:y.size≤9:=by rw [hys];exact hd2
  have hyz2:(y.size:Int)≤9:=by omega
  have HP:=Lib.hid hp
  have htl:=M.trim_len (n:=N') (by omega)
  clear hp hy hys hb3 c1
  go_wp2_with (go_at_call 161;refine (Tryz.strings_TrimRight_one _ 48 (by decide) _ (by simp [ByteArray.size_append];omega)).mono ?_;rintro e w4 ⟨rfl,rfl⟩;rw [trim_text,HP.out])
  go_ret
  refine ⟨ret_text ?_,b3⟩
  rw [HE.out,tl_append,tl_append,tl_append,HX.out,tl_mk]
  simp [tl]
 case neg.true=>
  go_enter Tryz.func134,Tryz.ntmps134
  go_wp2_with fail
  refine (H1.out _).mono ?_
  rintro e w1 ⟨rfl,rfl⟩
  dsimp only
  go_wp2_with fail
  refine (HO.out _).mono ?_
  rintro e w1 ⟨rfl,rfl⟩
  dsimp only
  go_wp2_with fail
  refine (HCA.out w.heap.size _ (HT.out.on (below5 _ _ _ _ _ _))).mono ?_
  rintro e w2 ⟨x,rfl,hx,hxs,hb2⟩
  have x2:=(((((BoxT.new w ((A':Int),(N':Int))).alloc (.cells #[.int .i64 S, .int .i64 n] 31)).alloc (.cells #[.int .i64 p1, .int .i64 p2] 31)).alloc (.cells #[.int .i64 p1, .int .i64 p2] 31)).alloc (.cells #[.int .i64 (A':Int), .int .i64 (N':Int)] 31)).below hb2 (by simp;omega)
  have b2:Below w.heap.size w w2:=(below5 _ _ _ _ _ _).trans (hb2.mono (by simp;omega))
  have hxz:x.size≤15:=by rw [hxs];exact hd1
  have HX:=Lib.hid hx
  have c1:=x2.cell1
  dsimp only at c1
  clear hb2 x2 hx hxs H1 HCA HO
  go_wp2_with fail
  refine (HCN.out w.heap.size _ (HT.out.on b2)).mono ?_
  rintro e w3 ⟨y,rfl,hy,hys,hb3⟩
  have b3:=b2.trans (hb3.mono b2.size)
  have hp:=pad_text hy hys hd2
  have hyz:y.size≤9:=by rw [hys];exact hd2
  have hyz2:(y.size:Int)≤9:=by omega
  have HP:=Lib.hid hp
  have htl:=M.trim_len (n:=N') (by omega)
  clear hp hy hys hb3 c1
  go_wp2_with (go_at_call 161;refine (Tryz.strings_TrimRight_one _ 48 (by decide) _ (by simp [ByteArray.size_append];omega)).mono ?_;rintro e w4 ⟨rfl,rfl⟩;rw [trim_text,HP.out])
  go_ret
  refine ⟨ret_text ?_,b3⟩
  rw [HE.out,tl_append,tl_append,tl_append,HX.out,tl_mk]
  simp [tl]
end Go.Proofs.YtgbgngdakkiclaaGreatDoor.St
