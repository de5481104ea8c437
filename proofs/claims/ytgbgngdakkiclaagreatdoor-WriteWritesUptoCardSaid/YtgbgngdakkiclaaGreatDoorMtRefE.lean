import Derived.Test.YtgbgngdakkiclaaGreatDoorStepZ
import Derived.Test.YtgbgngdakkiclaaGreatDoorMtRefX
import Derived.Test.YtgbgngdakkiclaaGreatDoorMtKnownZ
import Derived.Test.YtgbgngdakkiclaaGreatDoorMtRefZ
import Derived.Laws.Cover1
set_option linter.unusedVariables false
set_option linter.unusedSimpArgs false
namespace Go.Proofs.YtgbgngdakkiclaaGreatDoor
open Go.RowKit Go.Lib
open Px (R2 tl ltB rc)
attribute [local go_sem ↓] add_plain
def SomeIs (l:List (Int × Int)) (w:World) (e:Ending) (w':World):Prop:= ∃ v,e= .returned v∧Sp.OwnP w' w.heap.size v (M.some_ l)∧Below w.heap.size w w'
set_option maxRecDepth 100000 in
set_option maxHeartbeats 2000000 in
theorem some10_any (A:Option Addr) (c:Nat) (l:List (Int × Int)) (hl:l.length≤1048576) (w:World) (hr:Sp.RdP w w.heap.size A l.length l):
  Calls Tryz.prog 45 #[.slice A l.length c] w (SomeIs l w):=by
 have HR:=hid hr
 clear hr
 go_enter Tryz.func45,Tryz.ntmps45
 go_wp2
 go_loopw [3,4] (fun v3 iv wr=> ∃ (i:Nat) (L:List (Int × Int)),iv= .int .i64 i∧i≤l.length∧Hid (Sp.OwnP wr w.heap.size v3 L)∧Hid (L=M.some_ (l.take i))∧L.length≤i∧Hid (Below w.heap.size w wr)) (fun _ iv _=>l.length - (intOf iv).toNat)
 case atStart=>exact ⟨0, [],rfl,Nat.zero_le _,hid (Sp.OwnP.nil _ _),hid rfl,Nat.le_refl _,hid (Below.refl _ _)⟩
 case round=>
  obtain ⟨i,L,rfl,hi,HO,HE,hLi,HB⟩:=hrel
  by_cases hlt:i<l.length
  ·obtain ⟨b,off,p,rfl,hbb,hp,hc1,hc2⟩:=HR.out.at_ hlt
   have x1:=(HB.out.cell (p:=⟨b,off+i*2,none⟩) hbb).trans hc1
   have x2:=(HB.out.cell (p:=⟨b,off+i*2+1,none⟩) hbb).trans hc2
   have ht:l.take (i+1)=l.take i++ [p]:=by rw [List.take_add_one,hp];rfl
   have hbs:=HB.out.size
   clear hc1 hc2 hp
   by_cases h0:p.2=0
   ·have d0:(p.2 !=0)=false:=by rw [h0];rfl
    have HE2:=hid (show L=M.some_ (l.take (i+1)) from by rw [HE.out,ht];unfold M.some_;rw [List.filter_append];simp [h0])
    clear ht h0
    go_wp2_with fail
    go_roundw
    case rel=>exact ⟨i+1,L,by go_num,by omega,HO,HE2,by omega,HB⟩
    case measure=>simp [intOf];omega
   ·have d0:(p.2 !=0)=true:=by rw [bne_iff_ne];exact h0
    have HE2:=hid (show L++ [(p.1,p.2)]=M.some_ (l.take (i+1)) from by rw [HE.out,ht];unfold M.some_;rw [List.filter_append];simp [h0])
    clear ht h0
    obtain ⟨p1,p2⟩:=p
    dsimp only at x1 x2 d0 HE2
    go_wp2_with (at_builtin;refine Sp.wpList_appP rfl (.tmp 17) (.tmp 22) rfl w.heap.size u3 L p1 p2 rfl HO.out hbs rfl (by omega) ?_)
    intro v5 w5 o5 hb5 _
    have HB5:=hid (HB.out.trans hb5.out)
    clear x1 x2 d0
    go_wp2_with fail
    go_roundw
    case rel=>exact ⟨i+1,_,by go_num,by omega,o5,HE2,by rw [List.length_append];simp;omega,HB5⟩
    case measure=>simp [intOf];omega
  ·obtain rfl:i=l.length:=by omega
   go_wp2_with fail
   go_ret
   refine ⟨_,rfl, ?_,HB.out⟩
   have h:=HE.out
   rw [List.take_length] at h
   rw [←h]
   exact HO.out
theorem someLen (l:List (Int × Int)):(M.some_ l).length≤l.length∧((l.all fun p=> !(p.2==0))=true↔(M.some_ l).length=l.length):=by
 unfold M.some_
 refine ⟨List.length_filter_le _ _, ?_⟩
 rw [List.length_filter_eq_length_iff,List.all_eq_true]
def keyAhead (l:List R2):Nat→List UInt8
 |0=> []
 |k+1=>match l[k]? with
  |some r=>tl r.1
  |none=> []
theorem isExtra_at {l:List R2} {i:Nat} {r:R2} (h:l[i]?=some r):M.isExtra (keyAhead l i) (l.drop i)=(M.extraOk (keyAhead l i) r&&M.isExtra (keyAhead l (i+1)) (l.drop (i+1))):=by
 obtain ⟨hl,rfl⟩:=List.getElem?_eq_some_iff.1 h
 rw [List.drop_eq_getElem_cons hl]
 have e:keyAhead l (i+1)=tl (l[i]).1:=by
  show (match l[i]? with|some r=>tl r.1|none=> [])=_
  rw [h]
 rw [e]
 rfl
theorem ltB_nil {k:List UInt8} (h:k≠ []):ltB [] k=true:=by
 cases k with
 |nil=>exact absurd rfl h
 |cons c t=>unfold Px.ltB;simp
theorem right_key {r:R2} (h:Px.M.right (rc r)=true):tl r.1≠ []:=by
 intro e
 unfold Px.M.right at h
 have e2:(rc r).1= []:=e
 rw [e2] at h
 simp at h
set_option maxRecDepth 100000 in
set_option maxHeartbeats 8000000 in
theorem extra10_any (m:M.Met) (pv ev:Value) (w:World) (hm:MIn w m pv ev):Calls Tryz.prog 22 #[.agg (mcells m pv ev)] w fun e w'=>e= .returned (.bool (M.isExtra [] m.extra&&(!m.holes||M.hasHoles m)))∧Below w.heap.size w w':=by
 obtain ⟨res,hrs⟩: ∃ b,(M.isExtra [] m.extra&&(!m.holes||M.hasHoles m))=b:=⟨_,rfl⟩
 rw [hrs]
 have HRS:=hid hrs
 clear hrs
 obtain ⟨Ap,cp,rfl,hrp⟩:=hm.parts
 obtain ⟨Ae,ce,rfl,hre⟩:=hm.extra
 have hne:=hm.nextra
 have HM:=hid hm
 have hb1:Below w.heap.size w (w.alloc (.cells (mcells m (.slice Ap m.parts.length cp) (.slice Ae m.extra.length ce)) 35)):=(Below.refl _ _).alloc (Nat.le_refl _) _
 have HW:=hid hb1
 have hB1:=MB.new w m (.slice Ap m.parts.length cp) (.slice Ae m.extra.length ce)
 have HRP:=hid ((hrp.below hb1).more hb1.size)
 have HRE:=hid ((hre.below hb1).more hb1.size)
 clear hm hrp hre hb1
 go_enter Tryz.func22,Tryz.ntmps22
 go_upto_region 1 with fail
 have B1:=hid hB1
 clear hB1
 generalize World.alloc w _=W at*
 go_wp2_with fail
 go_loopw [3] (fun iv wr=> ∃ (i:Nat),iv= .int .i64 i∧i≤m.extra.length∧Hid (M.isExtra [] m.extra=M.isExtra (keyAhead m.extra i) (m.extra.drop i))∧Hid (Below W.heap.size W wr)) (fun iv _=>m.extra.length - (intOf iv).toNat)
 case atStart=>exact ⟨0,rfl,Nat.zero_le _,hid rfl,hid (Below.refl _ _)⟩
 case round=>
  obtain ⟨i,rfl,hi,HE,HB⟩:=hrel
  obtain ⟨W1,hW1⟩: ∃ V,V=wr:=⟨_,rfl⟩
  subst hW1
  by_cases hlt:i<m.extra.length
  ·obtain ⟨be,oe,rfl,hbb,hc1,hc2⟩:=HRE.out.at_ hlt
   have hri:m.extra[i]?=some m.extra[i]:=List.getElem?_eq_getElem hlt
   have hxe:=isExtra_at hri
   have hfit:=HM.out.fits _ (List.getElem_mem hlt)
   obtain ⟨r,hr⟩: ∃ r,m.extra[i]=r:=⟨_,rfl⟩
   rw [hr] at hc1 hc2 hxe hfit
   have x1:=(HB.out.cell (p:=⟨be,oe+i*2,none⟩) hbb).trans hc1
   have x2:=(HB.out.cell (p:=⟨be,oe+i*2+1,none⟩) hbb).trans hc2
   have HQ1:=hid (fun V=>Px.refRight_any' r.1 r.2 (by omega) V)
   have HQ2:=hid (fun V=>is_any r.1 V)
   obtain ⟨q1,hq1⟩: ∃ b,Px.M.right (rc (r.1,r.2))=b:=⟨_,rfl⟩
   obtain ⟨q2,hq2⟩: ∃ b,M.isKey (tl r.1)=b:=⟨_,rfl⟩
   rw [hq1] at HQ1
   rw [hq2] at HQ2
   obtain ⟨q,hq⟩: ∃ q,q=i - 1:=⟨_,rfl⟩
   have hql:q<m.extra.length:=by omega
   obtain ⟨_,_,e,_,hc3,rgt⟩:=HRE.out.at_ hql
   injection e with e
   injection e with eb eo
   subst eb eo
   have hka:0<i→keyAhead m.extra i=tl (m.extra[q]).1:=fun h0=>by
    obtain ⟨k,rfl⟩: ∃ k,i=k+1:=⟨i - 1,by omega⟩
    obtain rfl:q=k:=by omega
    show (match m.extra[q]? with|some r=>tl r.1|none=> [])=_
    rw [List.getElem?_eq_getElem hql]
   obtain ⟨s,hs⟩: ∃ s,m.extra[q]=s:=⟨_,rfl⟩
   rw [hs] at hc3 hka
   have HOK:=hid (show M.extraOk (keyAhead m.extra i) r= !(((!q1||q2)||(r.2.toList== []))||(decide (0<i)&& !Op.bytesLess s.1.toList r.1.toList)) from by
    unfold M.extraOk
    rw [size_empty,hq2,show Px.M.right (M.rc r)=q1 from hq1]
    by_cases h0:0<i
    ·rw [hka h0,show ltB (tl s.1) (tl r.1)=Op.bytesLess s.1.toList r.1.toList from by rw [bytesLess_eq,Px.tl_eq,Px.tl_eq];rfl,decide_eq_true h0]
     generalize Op.bytesLess s.1.toList r.1.toList=z
     cases q1<;>cases q2<;>cases z<;>cases (r.2.size==0)<;>rfl
    ·obtain rfl:i=0:=by omega
     cases q1 with
     |false=>simp
     |true=>
      have:=ltB_nil (right_key (r:=r) hq1)
      rw [show keyAhead m.extra 0= [] from rfl,this]
      cases q2<;>cases (r.2.size==0)<;>rfl)
   have HXE:=hid hxe
   have HD2:=hid (show decide (0<i)=true→IntKind.i64.wrap ((i:Int) - 1)=(q:Int) from fun h=>by rw [decide_eq_true_eq] at h;rw [IntKind.wrap_i64];omega)
   clear hri hxe hfit hr hq1 hq2 hq hka hs hc1 hc2
   have k16:=(B1.out.below HB.out B1.out.lt).cell (i:=16) (v:= .slice (some ⟨be,oe,none⟩) m.extra.length ce) rfl
   go_upto_region 5 with fail
   clear k16
   have HBX:=hid (fun (V:World) (hV:Below (World.alloc W1 (.cells #[.string r.1, .string r.2] 47)).heap.size (World.alloc W1 (.cells #[.string r.1, .string r.2] 47)) V)=>And.intro ((hV.cell (p:=⟨W1.heap.size,0,none⟩) (by simp)).trans (show (World.alloc W1 (.cells #[.string r.1, .string r.2] 47)).cell? ⟨W1.heap.size,0,none⟩=some (.string r.1) from by rw [World.cell?_alloc_mark];rfl)) ((hV.cell (p:=⟨W1.heap.size,1,none⟩) (by simp)).trans (show (World.alloc W1 (.cells #[.string r.1, .string r.2] 47)).cell? ⟨W1.heap.size,1,none⟩=some (.string r.2) from by rw [World.cell?_alloc_mark];rfl)))
   have HB2:=hid (HB.out.alloc HB.out.size (.cells #[.string r.1, .string r.2] 47))
   generalize World.alloc W1 _=W2 at*
   have HC:=hid (fun (V:World) (hV:Below W2.heap.size W2 V)=>B1.out.below (HB2.out.trans (hV.mono HB2.out.size)) B1.out.lt)
   have HS1:=hid (fun (V:World) (hV:Below W2.heap.size W2 V)=>((HB2.out.trans (hV.mono HB2.out.size)).cell (p:=⟨be,oe+q*2,none⟩) hbb).trans hc3)
   have HD3:=hid hql
   clear x1 x2 hc3 rgt hql
   obtain ⟨v19,hv19⟩: ∃ g:Bool,g=(!q1):=⟨_,rfl⟩
   have V19:=hid hv19
   clear hv19
   obtain ⟨v24,hv24⟩: ∃ g:Bool,g=(v19||q2):=⟨_,rfl⟩
   have V24:=hid hv24
   clear hv24
   obtain ⟨v28,hv28⟩: ∃ g:Bool,g=((r.2.toList== [])):=⟨_,rfl⟩
   have V28:=hid hv28
   clear hv28
   obtain ⟨v29,hv29⟩: ∃ g:Bool,g=(v24||v28):=⟨_,rfl⟩
   have V29:=hid hv29
   clear hv29
   obtain ⟨v32,hv32⟩: ∃ g:Bool,g=(decide (0<i)):=⟨_,rfl⟩
   have V32:=hid hv32
   clear hv32
   obtain ⟨v43,hv43⟩: ∃ g:Bool,g=(!Op.bytesLess s.1.toList r.1.toList):=⟨_,rfl⟩
   have V43:=hid hv43
   clear hv43
   obtain ⟨v44,hv44⟩: ∃ g:Bool,g=(v32&&v43):=⟨_,rfl⟩
   have V44:=hid hv44
   clear hv44
   obtain ⟨v45,hv45⟩: ∃ g:Bool,g=(v29||v44):=⟨_,rfl⟩
   have V45:=hid hv45
   clear hv45
   have HB3:=hid (show M.extraOk (keyAhead m.extra i) r= !v45 from by rw [HOK.out,V45.out,V44.out,V43.out,V32.out,V29.out,V28.out,V24.out,V19.out])
   refine wp_region_class (fun V=>Below W2.heap.size W2 V) (by kernel_rfl) (by kernel_rfl) (below_drew' (Below.refl _ _)) ?_
   refine qyH ?_ (hy:=fun W hW=>by have c0:=(HBX.out W hW).1;have c1:=(HBX.out W hW).2;clear hW;go_simp;first|done|with_reducible rfl)
   refine qyH ?_ (v:= .bool q1) (hy:=fun W hW=>by (go_simp;go_at_call 43;(with_reducible refine (HQ1.out W).mono ?_);rintro e w' ⟨rfl,hb⟩;exact ⟨rfl,hW.trans (hb.mono hW.size)⟩))
   refine qyH ?_ (v:= .bool v19) (hy:=fun W hW=>by clear hW;rw [V19.out];(go_simp;first|done|with_reducible rfl))
   refine qyH ?_
   refine qnH v19 ?_
   refine qnH v19 ?_ (hy:=fun hg W hW=>by obtain rfl:v19=false:=(by simpa using hg);have c0:=(HBX.out W hW).1;clear hW;(try simp only [cond_true]);go_simp;first|done|with_reducible rfl)
   refine qnH v19 ?_ (v:= .bool q2) (hy:=fun hg W hW=>by obtain rfl:v19=false:=(by simpa using hg);(try simp only [cond_true]);(go_simp;go_at_call 44;(with_reducible refine (HQ2.out W).mono ?_);rintro e w' ⟨rfl,hb⟩;exact ⟨rfl,hW.trans (hb.mono hW.size)⟩))
   refine qyH ?_ (v:= .bool v24) (hy:=fun W hW=>by clear hW;rw [V24.out];cases v19<;>(go_simp;first|done|with_reducible rfl))
   refine qyH ?_
   refine qnH v24 ?_
   refine qnH v24 ?_ (hy:=fun hg W hW=>by obtain rfl:v24=false:=(by simpa using hg);have c1:=(HBX.out W hW).2;clear hW;(try simp only [cond_true]);go_simp;first|done|with_reducible rfl)
   refine qnH v24 ?_ (v:= .bool v28) (hy:=fun hg W hW=>by obtain rfl:v24=false:=(by simpa using hg);clear hW;(try simp only [cond_true]);rw [V28.out];(go_simp;first|done|with_reducible rfl))
   refine qyH ?_ (v:= .bool v29) (hy:=fun W hW=>by clear hW;rw [V29.out];cases v24<;>(go_simp;first|done|with_reducible rfl))
   refine qyH ?_
   refine qnH v29 ?_
   refine qnH v29 ?_ (v:= .bool v32) (hy:=fun hg W hW=>by obtain rfl:v29=false:=(by simpa using hg);clear hW;(try simp only [cond_true]);rw [V32.out];(go_simp;first|done|with_reducible rfl))
   refine qnH v29 ?_
   refine qxH (!v29&&v32) (by cases v29<;>cases v32<;>kernel_rfl) ?_ (hy:=fun hg W hW=>by obtain ⟨rfl,rfl⟩:v29=false∧v32=true:=(by revert hg;cases v29<;>cases v32<;>simp);clear hW;(try simp only [cond_true]);go_simp;first|done|with_reducible rfl)
   refine qxH (!v29&&v32) (by cases v29<;>cases v32<;>kernel_rfl) ?_ (hy:=fun hg W hW=>by obtain ⟨rfl,rfl⟩:v29=false∧v32=true:=(by revert hg;cases v29<;>cases v32<;>simp);have z16:=(HC.out W hW).cell (i:=16) (v:= .slice (some ⟨be,oe,none⟩) m.extra.length ce) rfl;clear hW;(try simp only [cond_true]);go_simp;first|done|with_reducible rfl)
   refine qxH (!v29&&v32) (by cases v29<;>cases v32<;>kernel_rfl) ?_ (hy:=fun hg W hW=>by obtain ⟨rfl,rfl⟩:v29=false∧v32=true:=(by revert hg;cases v29<;>cases v32<;>simp);clear hW;(try simp only [cond_true]);go_simp;first|done|with_reducible rfl)
   refine qxH (!v29&&v32) (by cases v29<;>cases v32<;>kernel_rfl) ?_ (v:= .int .i64 (q:Int)) (hy:=fun hg W hW=>by obtain ⟨rfl,rfl⟩:v29=false∧v32=true:=(by revert hg;cases v29<;>cases v32<;>simp);have d2:=HD2.out V32.out.symm;clear hW;(try simp only [cond_true]);go_simp;first|done|with_reducible rfl)
   refine qxH (!v29&&v32) (by cases v29<;>cases v32<;>kernel_rfl) ?_ (v:= .pointer (some ⟨be,oe+q*2,none⟩)) (hy:=fun hg W hW=>by obtain ⟨rfl,rfl⟩:v29=false∧v32=true:=(by revert hg;cases v29<;>cases v32<;>simp);have d3:=HD3.out;clear hW;(try simp only [cond_true]);go_simp;first|done|with_reducible rfl)
   refine qxH (!v29&&v32) (by cases v29<;>cases v32<;>kernel_rfl) ?_ (hy:=fun hg W hW=>by obtain ⟨rfl,rfl⟩:v29=false∧v32=true:=(by revert hg;cases v29<;>cases v32<;>simp);clear hW;(try simp only [cond_true]);go_simp;first|done|with_reducible rfl)
   refine qxH (!v29&&v32) (by cases v29<;>cases v32<;>kernel_rfl) ?_ (hy:=fun hg W hW=>by obtain ⟨rfl,rfl⟩:v29=false∧v32=true:=(by revert hg;cases v29<;>cases v32<;>simp);have z:=HS1.out W hW;clear hW;(try simp only [cond_true]);go_simp;first|done|with_reducible rfl)
   refine qxH (!v29&&v32) (by cases v29<;>cases v32<;>kernel_rfl) ?_ (hy:=fun hg W hW=>by obtain ⟨rfl,rfl⟩:v29=false∧v32=true:=(by revert hg;cases v29<;>cases v32<;>simp);clear hW;(try simp only [cond_true]);go_simp;first|done|with_reducible rfl)
   refine qxH (!v29&&v32) (by cases v29<;>cases v32<;>kernel_rfl) ?_ (hy:=fun hg W hW=>by obtain ⟨rfl,rfl⟩:v29=false∧v32=true:=(by revert hg;cases v29<;>cases v32<;>simp);have c0:=(HBX.out W hW).1;clear hW;(try simp only [cond_true]);go_simp;first|done|with_reducible rfl)
   refine qxH (!v29&&v32) (by cases v29<;>cases v32<;>kernel_rfl) ?_ (v:= .bool v43) (hy:=fun hg W hW=>by obtain ⟨rfl,rfl⟩:v29=false∧v32=true:=(by revert hg;cases v29<;>cases v32<;>simp);clear hW;(try simp only [cond_true]);rw [V43.out];(go_simp;first|done|with_reducible rfl))
   refine qnH v29 ?_ (v:= .bool v44) (hy:=fun hg W hW=>by obtain rfl:v29=false:=(by simpa using hg);clear hW;(try simp only [cond_true]);rw [V44.out];cases v32<;>(go_simp;first|done|with_reducible rfl))
   refine qyH ?_ (v:= .bool v45) (hy:=fun W hW=>by clear hW;rw [V45.out];cases v29<;>(go_simp;first|done|with_reducible rfl))
   refine wpQuiet_nil ?_
   intro w5 hb5
   have HB5:=hid (HB2.out.trans (hb5.mono HB2.out.size))
   clear HC HS1 HBX HB2 hb5 HOK HQ1 HQ2
   cases v45 with
   |true=>
    go_wp2_with fail
    go_ret
    refine ⟨ret_boolT ?_,HW.out.trans (HB5.out.mono HW.out.size)⟩
    rw [←HRS.out,HE.out,HXE.out,HB3.out];rfl
   |false=>
    have HE2:=hid (show M.isExtra [] m.extra=M.isExtra (keyAhead m.extra (i+1)) (m.extra.drop (i+1)) from by rw [HE.out,HXE.out,HB3.out];rfl)
    clear HE HXE HB3
    go_wp2_with fail
    go_roundw
    case rel=>exact ⟨i+1,by go_num,by omega,HE2,HB5⟩
    case measure=>simp [intOf];omega
  ·obtain rfl:i=m.extra.length:=by omega
   have hE:M.isExtra [] m.extra=true:=by rw [HE.out,List.drop_length];rfl
   have k16:=(B1.out.below HB.out B1.out.lt).cell (i:=16) (v:= .slice Ae m.extra.length ce) rfl
   have HWB:=hid (HW.out.trans (HB.out.mono HW.out.size))
   have HC:=hid (fun (V:World) (hV:Below W1.heap.size W1 V)=>B1.out.below (HB.out.trans (hV.mono HB.out.size)) B1.out.lt)
   have HRPW:=hid ((HRP.out.below HB.out).more HB.out.size)
   have hnp:=HM.out.nparts
   have hi64:=HM.out.i64s
   have HEE:=hid hE
   clear hE HE
   obtain ⟨bh,hbh⟩: ∃ b,m.holes=b:=⟨_,rfl⟩
   obtain ⟨bk,hbk⟩: ∃ b,(m.kind==48)=b:=⟨_,rfl⟩
   have HBH:=hid hbh
   have HBK:=hid hbk
   have HH:M.hasHoles m=(bk&&(m.parts.all (fun p=> !(p.2==0))&&Sp.M.check m.parts m.size m.real==0)):=by unfold M.hasHoles;rw [hbk]
   have HR0:=hid (show res=(true&&(!bh||(bk&&(m.parts.all (fun p=> !(p.2==0))&&Sp.M.check m.parts m.size m.real==0)))) from by rw [←HRS.out,HEE.out,hbh,HH])
   clear hbh hbk HH HRS HEE
   go_upto_region 7 with fail
   by_cases hq:(bh&&bk)=true
   case neg=>
    have hres:res= !bh:=by
     rw [HR0.out]
     revert hq;cases bh<;>cases bk<;>simp
    have HQN:=hid hq
    have HRES:=hid hres
    clear hq hres
    obtain ⟨v47z,hv47z⟩: ∃ g:Bool,g=(bh):=⟨_,rfl⟩
    have V47z:=hid hv47z
    clear hv47z
    obtain ⟨v48z,hv48z⟩: ∃ g:Bool,g=(!v47z):=⟨_,rfl⟩
    have V48z:=hid hv48z
    clear hv48z
    obtain ⟨v52z,hv52z⟩: ∃ g:Bool,g=(bk):=⟨_,rfl⟩
    have V52z:=hid hv52z
    clear hv52z
    obtain ⟨v61z,hv61z⟩: ∃ g:Bool,g=(false):=⟨_,rfl⟩
    have V61z:=hid hv61z
    clear hv61z
    obtain ⟨v62z,hv62z⟩: ∃ g:Bool,g=(v52z&&v61z):=⟨_,rfl⟩
    have V62z:=hid hv62z
    clear hv62z
    obtain ⟨v71z,hv71z⟩: ∃ g:Bool,g=(false):=⟨_,rfl⟩
    have V71z:=hid hv71z
    clear hv71z
    obtain ⟨v72z,hv72z⟩: ∃ g:Bool,g=(v62z&&v71z):=⟨_,rfl⟩
    have V72z:=hid hv72z
    clear hv72z
    obtain ⟨v73z,hv73z⟩: ∃ g:Bool,g=(v48z||v72z):=⟨_,rfl⟩
    have V73z:=hid hv73z
    clear hv73z
    refine wp_region_class (fun V=>Below W1.heap.size W1 V) (by kernel_rfl) (by kernel_rfl) (below_drew' (Below.refl _ _)) ?_
    refine qyH ?_
    refine qyH ?_ (v:= .bool v47z) (hy:=fun W hW=>by have z14:=(HC.out W hW).cell (i:=14) (v:= .bool m.holes) rfl;clear hW;rw [V47z.out,←HBH.out];(go_simp;first|done|with_reducible rfl))
    refine qyH ?_ (v:= .bool v48z) (hy:=fun W hW=>by clear hW;rw [V48z.out];(go_simp;first|done|with_reducible rfl))
    refine qyH ?_
    refine qnH v48z ?_
    refine qnH v48z ?_ (hy:=fun hg W hW=>by obtain rfl:v48z=false:=(by simpa using hg);have z2:=(HC.out W hW).cell (i:=2) (v:= .int .u8 m.kind) rfl;clear hW;(try simp only [cond_true]);go_simp;first|done|with_reducible rfl)
    refine qnH v48z ?_ (v:= .bool v52z) (hy:=fun hg W hW=>by obtain rfl:v48z=false:=(by simpa using hg);clear hW;(try simp only [cond_true]);rw [V52z.out,←HBK.out];(go_simp;first|done|with_reducible rfl))
    refine qnH v48z ?_
    refine qxH (!v48z&&v52z) (by cases v48z<;>cases v52z<;>kernel_rfl) ?_ (v:= .bool false) (hy:=fun hg W hW=>by exfalso;have hx:=HQN.out;revert hg;simp only [V62z.out,V61z.out,V52z.out,V48z.out,V47z.out];revert hx;cases bh<;>cases bk<;>simp)
    refine qxH (!v48z&&v52z) (by cases v48z<;>cases v52z<;>kernel_rfl) ?_ (v:= .bool false) (hy:=fun hg W hW=>by exfalso;have hx:=HQN.out;revert hg;simp only [V62z.out,V61z.out,V52z.out,V48z.out,V47z.out];revert hx;cases bh<;>cases bk<;>simp)
    refine qxH (!v48z&&v52z) (by cases v48z<;>cases v52z<;>kernel_rfl) ?_ (v:= .slice none 0 0) (hy:=fun hg W hW=>by exfalso;have hx:=HQN.out;revert hg;simp only [V62z.out,V61z.out,V52z.out,V48z.out,V47z.out];revert hx;cases bh<;>cases bk<;>simp)
    refine qxH (!v48z&&v52z) (by cases v48z<;>cases v52z<;>kernel_rfl) ?_ (v:= .bool false) (hy:=fun hg W hW=>by exfalso;have hx:=HQN.out;revert hg;simp only [V62z.out,V61z.out,V52z.out,V48z.out,V47z.out];revert hx;cases bh<;>cases bk<;>simp)
    refine qxH (!v48z&&v52z) (by cases v48z<;>cases v52z<;>kernel_rfl) ?_ (v:= .bool false) (hy:=fun hg W hW=>by exfalso;have hx:=HQN.out;revert hg;simp only [V62z.out,V61z.out,V52z.out,V48z.out,V47z.out];revert hx;cases bh<;>cases bk<;>simp)
    refine qxH (!v48z&&v52z) (by cases v48z<;>cases v52z<;>kernel_rfl) ?_ (v:= .bool false) (hy:=fun hg W hW=>by exfalso;have hx:=HQN.out;revert hg;simp only [V62z.out,V61z.out,V52z.out,V48z.out,V47z.out];revert hx;cases bh<;>cases bk<;>simp)
    refine qxH (!v48z&&v52z) (by cases v48z<;>cases v52z<;>kernel_rfl) ?_ (v:= .bool false) (hy:=fun hg W hW=>by exfalso;have hx:=HQN.out;revert hg;simp only [V62z.out,V61z.out,V52z.out,V48z.out,V47z.out];revert hx;cases bh<;>cases bk<;>simp)
    refine qxH (!v48z&&v52z) (by cases v48z<;>cases v52z<;>kernel_rfl) ?_ (v:= .bool v61z) (hy:=fun hg W hW=>by exfalso;have hx:=HQN.out;revert hg;simp only [V62z.out,V61z.out,V52z.out,V48z.out,V47z.out];revert hx;cases bh<;>cases bk<;>simp)
    refine qnH v48z ?_ (v:= .bool v62z) (hy:=fun hg W hW=>by obtain rfl:v48z=false:=(by simpa using hg);clear hW;(try simp only [cond_true]);rw [V62z.out];cases v52z<;>(go_simp;first|done|with_reducible rfl))
    refine qnH v48z ?_
    refine qxH (!v48z&&v62z) (by cases v48z<;>cases v62z<;>kernel_rfl) ?_ (v:= .bool false) (hy:=fun hg W hW=>by exfalso;have hx:=HQN.out;revert hg;simp only [V62z.out,V61z.out,V52z.out,V48z.out,V47z.out];revert hx;cases bh<;>cases bk<;>simp)
    refine qxH (!v48z&&v62z) (by cases v48z<;>cases v62z<;>kernel_rfl) ?_ (v:= .bool false) (hy:=fun hg W hW=>by exfalso;have hx:=HQN.out;revert hg;simp only [V62z.out,V61z.out,V52z.out,V48z.out,V47z.out];revert hx;cases bh<;>cases bk<;>simp)
    refine qxH (!v48z&&v62z) (by cases v48z<;>cases v62z<;>kernel_rfl) ?_ (v:= .bool false) (hy:=fun hg W hW=>by exfalso;have hx:=HQN.out;revert hg;simp only [V62z.out,V61z.out,V52z.out,V48z.out,V47z.out];revert hx;cases bh<;>cases bk<;>simp)
    refine qxH (!v48z&&v62z) (by cases v48z<;>cases v62z<;>kernel_rfl) ?_ (v:= .bool false) (hy:=fun hg W hW=>by exfalso;have hx:=HQN.out;revert hg;simp only [V62z.out,V61z.out,V52z.out,V48z.out,V47z.out];revert hx;cases bh<;>cases bk<;>simp)
    refine qxH (!v48z&&v62z) (by cases v48z<;>cases v62z<;>kernel_rfl) ?_ (v:= .bool false) (hy:=fun hg W hW=>by exfalso;have hx:=HQN.out;revert hg;simp only [V62z.out,V61z.out,V52z.out,V48z.out,V47z.out];revert hx;cases bh<;>cases bk<;>simp)
    refine qxH (!v48z&&v62z) (by cases v48z<;>cases v62z<;>kernel_rfl) ?_ (v:= .bool false) (hy:=fun hg W hW=>by exfalso;have hx:=HQN.out;revert hg;simp only [V62z.out,V61z.out,V52z.out,V48z.out,V47z.out];revert hx;cases bh<;>cases bk<;>simp)
    refine qxH (!v48z&&v62z) (by cases v48z<;>cases v62z<;>kernel_rfl) ?_ (v:= .int .i64 0) (hy:=fun hg W hW=>by exfalso;have hx:=HQN.out;revert hg;simp only [V62z.out,V61z.out,V52z.out,V48z.out,V47z.out];revert hx;cases bh<;>cases bk<;>simp)
    refine qxH (!v48z&&v62z) (by cases v48z<;>cases v62z<;>kernel_rfl) ?_ (v:= .bool v71z) (hy:=fun hg W hW=>by exfalso;have hx:=HQN.out;revert hg;simp only [V62z.out,V61z.out,V52z.out,V48z.out,V47z.out];revert hx;cases bh<;>cases bk<;>simp)
    refine qnH v48z ?_ (v:= .bool v72z) (hy:=fun hg W hW=>by obtain rfl:v48z=false:=(by simpa using hg);clear hW;(try simp only [cond_true]);rw [V72z.out];cases v62z<;>(go_simp;first|done|with_reducible rfl))
    refine qyH ?_ (v:= .bool v73z) (hy:=fun W hW=>by clear hW;rw [V73z.out];cases v48z<;>(go_simp;first|done|with_reducible rfl))
    refine qyH ?_
    refine wpQuiet_nil ?_
    intro w5 hb5
    have HB5:=hid (HWB.out.trans (hb5.mono HWB.out.size))
    clear HC hb5
    go_wp2_with fail
    go_ret
    exact ⟨ret_boolT (by rw [HRES.out,V73z.out,V72z.out,V71z.out,V62z.out,V61z.out,V52z.out,V48z.out,V47z.out];have:=HQN.out;revert this;cases bh<;>cases bk<;>simp),HB5.out⟩
   case pos=>
    obtain ⟨rfl,rfl⟩:bh=true∧bk=true:=by revert hq;cases bh<;>cases bk<;>simp
    clear hq
    have hsl:=someLen m.parts
    obtain ⟨n1,hn1⟩: ∃ n,(M.some_ m.parts).length=n:=⟨_,rfl⟩
    rw [hn1] at hsl
    have HN1:=hid hn1
    have HSL:=hid hsl
    have HCS:=hid (fun (V:World) (hV:Below W1.heap.size W1 V)=>some10_any Ap cp m.parts hnp V ((HRPW.out.below hV).more hV.size))
    have HCK:=hid (fun (V:World) (hV:Below W1.heap.size W1 V)=>Sp.refCheck_any Ap m.parts.length cp m.parts m.size m.real V ((HRPW.out.below hV).more hV.size) hi64 hnp)
    have hk16:=HBK.out
    have hh14:=HBH.out
    clear hn1 hsl hi64
    have HC14:=hid (fun (V:World) (hV:Below W1.heap.size W1 V)=>show V.cell? ⟨w.heap.size,14,none⟩=some (.bool true) from by have h:=(HC.out V hV).cell (i:=14) (v:= .bool m.holes) rfl;rw [hh14] at h;exact h)
    have HK2:=hid (fun (V:World) (hV:Below W1.heap.size W1 V)=>show V.cell? ⟨w.heap.size,2,none⟩=some (.int .u8 48) from by have h:=(HC.out V hV).cell (i:=2) (v:= .int .u8 m.kind) rfl;rw [show m.kind=48 from by simpa using hk16] at h;exact h)
    have HP15:=hid (fun (V:World) (hV:Below W1.heap.size W1 V)=>(HC.out V hV).cell (i:=15) (v:= .slice Ap m.parts.length cp) rfl)
    have HZ12:=hid (fun (V:World) (hV:Below W1.heap.size W1 V)=>(HC.out V hV).cell (i:=12) (v:= .int .i64 m.size) rfl)
    have HZ13:=hid (fun (V:World) (hV:Below W1.heap.size W1 V)=>(HC.out V hV).cell (i:=13) (v:= .int .i64 m.real) rfl)
    clear hk16 hh14 HBH HBK HC
    by_cases hal:(m.parts.all fun p=> !(p.2==0))=true
    ·obtain rfl:n1=m.parts.length:=HSL.out.2.1 hal
     have HRES:=hid (show res=(Sp.M.check m.parts m.size m.real==0) from by rw [HR0.out,hal];simp)
     clear hal HSL HR0
     refine wp_region_held_drew (S:=fun V=>Below W1.heap.size W1 V) (by kernel_rfl) (below_drew' (Below.refl _ _)) (fun hS=> ?_)
     refine tkH 0 hS ?_
     refine tfH 1 hS HC14.out ?_
     refine tkH 2 hS ?_
     refine tkH 3 hS ?_
     refine tkH 4 hS ?_
     refine tfH 5 hS HK2.out ?_
     refine tkH 6 hS ?_
     refine tkH 7 hS ?_
     refine tkH 8 hS ?_
     refine tfH 9 hS HP15.out ?_
     refine tkH 12 hS ?_
     refine tfH 13 hS HP15.out ?_
     refine tkH 14 hS ?_
     refine loneH (i:=10) 56 rfl rfl (by kernel_rfl) (by rfl) (fun K hK=> ?_)
     go_simp
     go_at_call 45
     have hz:=hid hS
     clear hS
     refine (HCS.out _ hz.out).mono ?_
     rintro e w8 ⟨v8,rfl,o8,b8⟩
     have HB8:=hid (hz.out.trans (b8.mono hz.out.size))
     obtain ⟨A8,c8,hv8,_⟩:=o8.rd
     rw [HN1.out] at hv8
     subst hv8
     clear o8 b8 hz
     refine hK.out _ _ HB8.out (fun hS=> ?_)
     clear hK K
     try simp only [NM]
     clear HCS
     refine tkH 11 hS ?_
     refine tkH 15 hS ?_
     refine tkH 16 hS ?_
     refine tkH 17 hS ?_
     refine tkH 18 hS ?_
     refine tfH 19 hS HP15.out ?_
     refine tkH 20 hS ?_
     refine tfH 21 hS HZ12.out ?_
     refine tkH 22 hS ?_
     refine tfH 23 hS HZ13.out ?_
     refine loneH (i:=24) 70 rfl rfl (by kernel_rfl) (by rfl) (fun K hK=> ?_)
     go_simp
     go_at_call 46
     have hz:=hid hS
     clear hS
     (with_reducible refine (HCK.out _ hz.out).mono ?_)
     rintro e w9 ⟨rfl,b9⟩
     have HB9:=hid (hz.out.trans (b9.mono hz.out.size))
     clear b9 hz
     refine hK.out _ _ HB9.out (fun hS=> ?_)
     clear hK K
     try simp only [NM]
     clear HCK
     refine tkH 25 hS ?_
     refine tkH 26 hS ?_
     refine tkH 27 hS ?_
     refine tkH 28 hS ?_
     refine wpAnyH_done (by kernel_rfl) ?_ _
     try simp only [NM]
     go_wp2_with fail
     go_ret
     exact ⟨ret_boolT (by rw [HRES.out]),HWB.out.trans (HB9.out.mono HWB.out.size)⟩
    ·have hne1:n1≠m.parts.length:=fun e=>hal (HSL.out.2.2 e)
     have d61:((n1:Int)==(m.parts.length:Int))=false:=by rw [beq_eq_false_iff_ne];omega
     have d62:(n1==m.parts.length)=false:=by rw [beq_eq_false_iff_ne];exact hne1
     have HRES:=hid (show res=false from by
      have:(m.parts.all fun p=> !(p.2==0))=false:=by simpa using hal
      rw [HR0.out,this];rfl)
     clear hal HSL HR0 HCK hne1
     refine wp_region_held_drew (S:=fun V=>Below W1.heap.size W1 V) (by kernel_rfl) (below_drew' (Below.refl _ _)) (fun hS=> ?_)
     refine tkH 0 hS ?_
     refine tfH 1 hS HC14.out ?_
     refine tkH 2 hS ?_
     refine tkH 3 hS ?_
     refine tkH 4 hS ?_
     refine tfH 5 hS HK2.out ?_
     refine tkH 6 hS ?_
     refine tkH 7 hS ?_
     refine tkH 8 hS ?_
     refine tfH 9 hS HP15.out ?_
     refine tkH 12 hS ?_
     refine tfH 13 hS HP15.out ?_
     refine tkH 14 hS ?_
     refine loneH (i:=10) 56 rfl rfl (by kernel_rfl) (by rfl) (fun K hK=> ?_)
     go_simp
     go_at_call 45
     have hz:=hid hS
     clear hS
     refine (HCS.out _ hz.out).mono ?_
     rintro e w8 ⟨v8,rfl,o8,b8⟩
     have HB8:=hid (hz.out.trans (b8.mono hz.out.size))
     obtain ⟨A8,c8,hv8,_⟩:=o8.rd
     rw [HN1.out] at hv8
     subst hv8
     clear o8 b8 hz
     refine hK.out _ _ HB8.out (fun hS=> ?_)
     clear hK K
     try simp only [NM]
     clear HCS
     refine tkH 11 hS ?_
     refine tkH 15 hS ?_
     refine tkH 16 hS ?_
     refine tkH 17 hS ?_
     refine skipH (i:=18) 64 rfl rfl (by kernel_rfl) (by kernel_rfl) (by kernel_rfl) (fun _ _ _ h=>h) (by rfl) hS ?_
     try simp only [NM]
     refine skipH (i:=19) 65 rfl rfl (by kernel_rfl) (by kernel_rfl) (by kernel_rfl) (fun _ _ _ h=>h) (by rfl) hS ?_
     try simp only [NM]
     refine skipH (i:=20) 66 rfl rfl (by kernel_rfl) (by kernel_rfl) (by kernel_rfl) (fun _ _ _ h=>h) (by rfl) hS ?_
     try simp only [NM]
     refine skipH (i:=21) 67 rfl rfl (by kernel_rfl) (by kernel_rfl) (by kernel_rfl) (fun _ _ _ h=>h) (by rfl) hS ?_
     try simp only [NM]
     refine skipH (i:=22) 68 rfl rfl (by kernel_rfl) (by kernel_rfl) (by kernel_rfl) (fun _ _ _ h=>h) (by rfl) hS ?_
     try simp only [NM]
     refine skipH (i:=23) 69 rfl rfl (by kernel_rfl) (by kernel_rfl) (by kernel_rfl) (fun _ _ _ h=>h) (by rfl) hS ?_
     try simp only [NM]
     refine skipH (i:=24) 70 rfl rfl (by kernel_rfl) (by kernel_rfl) (by kernel_rfl) (fun _ _ _ h=>h) (by rfl) hS ?_
     try simp only [NM]
     refine skipH (i:=25) 71 rfl rfl (by kernel_rfl) (by kernel_rfl) (by kernel_rfl) (fun _ _ _ h=>h) (by rfl) hS ?_
     try simp only [NM]
     refine tkH 26 hS ?_
     refine tkH 27 hS ?_
     refine tkH 28 hS ?_
     refine wpAnyH_done (by kernel_rfl) ?_ _
     try simp only [NM]
     go_wp2_with fail
     go_ret
     exact ⟨ret_boolT (by rw [HRES.out]),HWB.out.trans (HB8.out.mono HWB.out.size)⟩
end Go.Proofs.YtgbgngdakkiclaaGreatDoor
