import Derived.Test.YtgbgngdakkiclaaGreatDoorStepZ
import Derived.Test.YtgbgngdakkiclaaGreatDoorMtRefZ
import Derived.Test.YtgbgngdakkiclaaGreatDoorMtKnownZ
import Derived.Test.YtgbgngdakkiclaaGreatDoorMtNumZ
import Derived.Test.YtgbgngdakkiclaaGreatDoorMtTextZ
import Derived.Laws.StructEq
import Derived.Deep.CutRange
set_option linter.unusedVariables false
set_option linter.unusedSimpArgs false
namespace Go.Proofs.YtgbgngdakkiclaaGreatDoor
open Go.RowKit Go.Lib
open Px (R2 tl)
theorem wl_pure {P:Program} {ops:Array Oper} {Q:Exit→Act→World→Prop} {a:Act} {w:World} {rest:List Oper} {o:Oper} (d:Nat) (g:Bool) {v:Value} {f:FuncId} {args:Array Value} (hd:o.dst=some d) (hw:Region.wanted o (yielded ops a.tmps)=g)
  (hx:g=true→(execOp a.eval o).run P w= .ok (.enter f args) w) (hc:g=true→Calls P f args w (fun e w'=>e= .returned v∧w=w')) (h:wpList P ops Q rest (a.put (some d) (bif g then v else undef)) w):wpList P ops Q (o::rest) a w:=by
 cases g with
 |true=>
  refine wl_call (C:=fun w'=>w=w') d hd hw (hx rfl) (hc rfl) ?_
  rintro w' rfl
  exact h
 |false=>
  unfold wpList
  rw [if_neg (by rw [hw];decide),hd]
  exact h
theorem texts_doc (m:M.Met):M.hasTexts m=(!(((((decide ((m.name.size:Int)<1)||decide ((m.name.size:Int)>4096))||decide ((m.link.size:Int)>4096))||decide ((m.user.size:Int)>4096))||decide ((m.group.size:Int)>4096))||(M.isLink m.kind != !(m.link.toList== [])))&&
  ((((M.noNul (tl m.name)&&M.noNul (tl m.link))&&M.noNul (tl m.user))&&M.noNul (tl m.group))&& !(m.kind==48&&M.slash (tl m.name)))):=by
 unfold M.hasTexts M.isText M.within
 rw [size_empty]
 have hz:m.link=ByteArray.empty↔((m.link.size:Int)=0):=by
  constructor
  ·intro h;rw [h];rfl
  ·intro h
   have h0:m.link.data.size=0:=by have:m.link.size=0:=by omega
                                  exact this
   have h1:m.link.data= #[]:=Array.size_eq_zero_iff.1 h0
   show m.link=⟨#[]⟩
   cases hq:m.link with
   |mk d=>rw [hq] at h1;exact congrArg ByteArray.mk h1
 generalize M.isLink m.kind=b
 generalize M.noNul (tl m.name)=n1
 generalize M.noNul (tl m.link)=n2
 generalize M.noNul (tl m.user)=n3
 generalize M.noNul (tl m.group)=n4
 generalize (m.kind==48&&M.slash (tl m.name))=n5
 have e:(m.link.size==0)=decide ((m.link.size:Int)=0):=by rw [Bool.eq_iff_iff,beq_iff_eq,decide_eq_true_eq];omega
 rw [e,Bool.eq_iff_iff]
 cases b<;>cases n1<;>cases n2<;>cases n3<;>cases n4<;>cases n5<;>simp<;>(try omega)
 all_goals
  rw [hz]
  omega
set_option maxRecDepth 100000 in
set_option maxHeartbeats 8000000 in
theorem texts10_any (m:M.Met) (pv ev:Value) (w:World) (hm:MIn w m pv ev):Calls Tryz.prog 20 #[.agg (mcells m pv ev)] w fun e w'=>e= .returned (.bool (M.hasTexts m))∧Below w.heap.size w w':=by
 have hb1:Below w.heap.size w (w.alloc (.cells (mcells m pv ev) 35)):=(Below.refl _ _).alloc (Nat.le_refl _) _
 have HW:=hid hb1
 have HE:=hid (texts_doc m)
 have hB1:=MB.new w m pv ev
 have hsz:=hm.texts
 have HLk:=hid (fun W=>refLinked_any m.kind W)
 have HN1:=hid (fun W=>refNought_any m.name hsz.1 W)
 have HN2:=hid (fun W=>refNought_any m.link hsz.2.1 W)
 have HN3:=hid (fun W=>refNought_any m.user hsz.2.2.1 W)
 have HN4:=hid (fun W=>refNought_any m.group hsz.2.2.2 W)
 have HN5:=hid (fun W=>refEnds_any m.name hsz.1 W)
 obtain ⟨v34,h34⟩: ∃ b,M.isLink m.kind=b:=⟨_,rfl⟩
 obtain ⟨q1,h1⟩: ∃ b,(!M.noNul (tl m.name))=b:=⟨_,rfl⟩
 obtain ⟨q2,h2⟩: ∃ b,(!M.noNul (tl m.link))=b:=⟨_,rfl⟩
 obtain ⟨q3,h3⟩: ∃ b,(!M.noNul (tl m.user))=b:=⟨_,rfl⟩
 obtain ⟨q4,h4⟩: ∃ b,(!M.noNul (tl m.group))=b:=⟨_,rfl⟩
 obtain ⟨q5,h5⟩: ∃ b,M.slash (tl m.name)=b:=⟨_,rfl⟩
 rw [h34] at HLk HE
 rw [h1] at HN1
 rw [h2] at HN2
 rw [h3] at HN3
 rw [h4] at HN4
 rw [h5] at HN5 HE
 have e1:M.noNul (tl m.name)= !q1:=by rw [←h1,Bool.not_not]
 have e2:M.noNul (tl m.link)= !q2:=by rw [←h2,Bool.not_not]
 have e3:M.noNul (tl m.user)= !q3:=by rw [←h3,Bool.not_not]
 have e4:M.noNul (tl m.group)= !q4:=by rw [←h4,Bool.not_not]
 rw [e1,e2,e3,e4] at HE
 clear hm hb1 hsz e1 e2 e3 e4 h34 h1 h2 h3 h4 h5
 go_enter Tryz.func20,Tryz.ntmps20
 go_upto_region 1 with fail
 have B1:=hid hB1
 clear hB1
 generalize World.alloc w _=W at*
 have HC:=hid (fun (V:World) (hV:Below W.heap.size W V)=>B1.out.below hV B1.out.lt)
 obtain ⟨v6,hv6⟩: ∃ g:Bool,g=(decide ((m.name.size:Int)<1)):=⟨_,rfl⟩
 have V6:=hid hv6
 clear hv6
 obtain ⟨v11,hv11⟩: ∃ g:Bool,g=(decide ((m.name.size:Int)>4096)):=⟨_,rfl⟩
 have V11:=hid hv11
 clear hv11
 obtain ⟨v12,hv12⟩: ∃ g:Bool,g=(v6||v11):=⟨_,rfl⟩
 have V12:=hid hv12
 clear hv12
 obtain ⟨v17,hv17⟩: ∃ g:Bool,g=(decide ((m.link.size:Int)>4096)):=⟨_,rfl⟩
 have V17:=hid hv17
 clear hv17
 obtain ⟨v18,hv18⟩: ∃ g:Bool,g=(v12||v17):=⟨_,rfl⟩
 have V18:=hid hv18
 clear hv18
 obtain ⟨v23,hv23⟩: ∃ g:Bool,g=(decide ((m.user.size:Int)>4096)):=⟨_,rfl⟩
 have V23:=hid hv23
 clear hv23
 obtain ⟨v24,hv24⟩: ∃ g:Bool,g=(v18||v23):=⟨_,rfl⟩
 have V24:=hid hv24
 clear hv24
 obtain ⟨v29,hv29⟩: ∃ g:Bool,g=(decide ((m.group.size:Int)>4096)):=⟨_,rfl⟩
 have V29:=hid hv29
 clear hv29
 obtain ⟨v30,hv30⟩: ∃ g:Bool,g=(v24||v29):=⟨_,rfl⟩
 have V30:=hid hv30
 clear hv30
 obtain ⟨v37,hv37⟩: ∃ g:Bool,g=(!(m.link.toList== [])):=⟨_,rfl⟩
 have V37:=hid hv37
 clear hv37
 obtain ⟨v38,hv38⟩: ∃ g:Bool,g=(v34 !=v37):=⟨_,rfl⟩
 have V38:=hid hv38
 clear hv38
 obtain ⟨v39,hv39⟩: ∃ g:Bool,g=(v30||v38):=⟨_,rfl⟩
 have V39:=hid hv39
 clear hv39
 have HE2:=hid (show M.hasTexts m=(!v39&& !((((q1||q2)||q3)||q4)||((m.kind==48)&&q5))) from by
  rw [HE.out,V39.out,V38.out,V37.out,V30.out,V29.out,V24.out,V23.out,V18.out,V17.out,V12.out,V11.out,V6.out]
  cases q1<;>cases q2<;>cases q3<;>cases q4<;>simp)
 clear HE
 refine wp_region_class (fun V=>Below W.heap.size W V) (by kernel_rfl) (by kernel_rfl) (below_drew' (Below.refl _ _)) ?_
 refine qyH ?_
 refine qyH ?_ (hy:=fun W hW=>by have z0:=(HC.out W hW).cell (i:=0) (v:= .string m.name) rfl;clear hW;go_simp;first|done|with_reducible rfl)
 refine qyH ?_
 refine qyH ?_ (v:= .bool v6) (hy:=fun W hW=>by clear hW;rw [V6.out];(go_simp;first|done|with_reducible rfl))
 refine qyH ?_
 refine qnH v6 ?_
 refine qnH v6 ?_ (hy:=fun hg W hW=>by obtain rfl:v6=false:=(by simpa using hg);have z0:=(HC.out W hW).cell (i:=0) (v:= .string m.name) rfl;clear hW;(try simp only [cond_true]);go_simp;first|done|with_reducible rfl)
 refine qnH v6 ?_
 refine qnH v6 ?_ (v:= .bool v11) (hy:=fun hg W hW=>by obtain rfl:v6=false:=(by simpa using hg);clear hW;(try simp only [cond_true]);rw [V11.out];(go_simp;first|done|with_reducible rfl))
 refine qyH ?_ (v:= .bool v12) (hy:=fun W hW=>by clear hW;rw [V12.out];cases v6<;>(go_simp;first|done|with_reducible rfl))
 refine qyH ?_
 refine qnH v12 ?_
 refine qnH v12 ?_ (hy:=fun hg W hW=>by obtain rfl:v12=false:=(by simpa using hg);have z1:=(HC.out W hW).cell (i:=1) (v:= .string m.link) rfl;clear hW;(try simp only [cond_true]);go_simp;first|done|with_reducible rfl)
 refine qnH v12 ?_
 refine qnH v12 ?_ (v:= .bool v17) (hy:=fun hg W hW=>by obtain rfl:v12=false:=(by simpa using hg);clear hW;(try simp only [cond_true]);rw [V17.out];(go_simp;first|done|with_reducible rfl))
 refine qyH ?_ (v:= .bool v18) (hy:=fun W hW=>by clear hW;rw [V18.out];cases v12<;>(go_simp;first|done|with_reducible rfl))
 refine qyH ?_
 refine qnH v18 ?_
 refine qnH v18 ?_ (hy:=fun hg W hW=>by obtain rfl:v18=false:=(by simpa using hg);have z6:=(HC.out W hW).cell (i:=6) (v:= .string m.user) rfl;clear hW;(try simp only [cond_true]);go_simp;first|done|with_reducible rfl)
 refine qnH v18 ?_
 refine qnH v18 ?_ (v:= .bool v23) (hy:=fun hg W hW=>by obtain rfl:v18=false:=(by simpa using hg);clear hW;(try simp only [cond_true]);rw [V23.out];(go_simp;first|done|with_reducible rfl))
 refine qyH ?_ (v:= .bool v24) (hy:=fun W hW=>by clear hW;rw [V24.out];cases v18<;>(go_simp;first|done|with_reducible rfl))
 refine qyH ?_
 refine qnH v24 ?_
 refine qnH v24 ?_ (hy:=fun hg W hW=>by obtain rfl:v24=false:=(by simpa using hg);have z7:=(HC.out W hW).cell (i:=7) (v:= .string m.group) rfl;clear hW;(try simp only [cond_true]);go_simp;first|done|with_reducible rfl)
 refine qnH v24 ?_
 refine qnH v24 ?_ (v:= .bool v29) (hy:=fun hg W hW=>by obtain rfl:v24=false:=(by simpa using hg);clear hW;(try simp only [cond_true]);rw [V29.out];(go_simp;first|done|with_reducible rfl))
 refine qyH ?_ (v:= .bool v30) (hy:=fun W hW=>by clear hW;rw [V30.out];cases v24<;>(go_simp;first|done|with_reducible rfl))
 refine qyH ?_
 refine qnH v30 ?_
 refine qnH v30 ?_ (hy:=fun hg W hW=>by obtain rfl:v30=false:=(by simpa using hg);have z2:=(HC.out W hW).cell (i:=2) (v:= .int .u8 m.kind) rfl;clear hW;(try simp only [cond_true]);go_simp;first|done|with_reducible rfl)
 refine qnH v30 ?_ (v:= .bool v34) (hy:=fun hg W hW=>by obtain rfl:v30=false:=(by simpa using hg);(try simp only [cond_true]);(go_simp;go_at_call 37;(with_reducible refine (HLk.out W).mono ?_);rintro e w' ⟨rfl,rfl⟩;exact ⟨rfl,hW⟩))
 refine qnH v30 ?_
 refine qnH v30 ?_ (hy:=fun hg W hW=>by obtain rfl:v30=false:=(by simpa using hg);have z1:=(HC.out W hW).cell (i:=1) (v:= .string m.link) rfl;clear hW;(try simp only [cond_true]);go_simp;first|done|with_reducible rfl)
 refine qnH v30 ?_ (v:= .bool v37) (hy:=fun hg W hW=>by obtain rfl:v30=false:=(by simpa using hg);clear hW;(try simp only [cond_true]);rw [V37.out];(go_simp;first|done|with_reducible rfl))
 refine qnH v30 ?_ (v:= .bool v38) (hy:=fun hg W hW=>by obtain rfl:v30=false:=(by simpa using hg);clear hW;(try simp only [cond_true]);rw [V38.out];cases v34<;>cases v37<;>(go_simp;first|done|with_reducible rfl))
 refine qyH ?_ (v:= .bool v39) (hy:=fun W hW=>by clear hW;rw [V39.out];cases v30<;>(go_simp;first|done|with_reducible rfl))
 refine wpQuiet_nil ?_
 intro w5 hb5
 have B2:=hid (HC.out w5 hb5)
 have HW2:=hid (HW.out.trans (hb5.mono HW.out.size))
 clear HC B1 HW hb5 V6 V11 V12 V17 V18 V23 V24 V29 V30 V37 V38 V39
 have B1:=hid B2.out
 clear B2
 cases v39 with
 |true=>
  go_wp2_with fail
  go_ret
  exact ⟨ret_boolT (by rw [HE2.out];rfl),HW2.out⟩
 |false=>
  go_upto_region 3 with fail
  obtain ⟨v43b,hv43b⟩: ∃ g:Bool,g=(!q1):=⟨_,rfl⟩
  have V43b:=hid hv43b
  clear hv43b
  obtain ⟨v48b,hv48b⟩: ∃ g:Bool,g=(!q2):=⟨_,rfl⟩
  have V48b:=hid hv48b
  clear hv48b
  obtain ⟨v49b,hv49b⟩: ∃ g:Bool,g=(v43b&&v48b):=⟨_,rfl⟩
  have V49b:=hid hv49b
  clear hv49b
  obtain ⟨v54b,hv54b⟩: ∃ g:Bool,g=(!q3):=⟨_,rfl⟩
  have V54b:=hid hv54b
  clear hv54b
  obtain ⟨v55b,hv55b⟩: ∃ g:Bool,g=(v49b&&v54b):=⟨_,rfl⟩
  have V55b:=hid hv55b
  clear hv55b
  obtain ⟨v60b,hv60b⟩: ∃ g:Bool,g=(!q4):=⟨_,rfl⟩
  have V60b:=hid hv60b
  clear hv60b
  obtain ⟨v61b,hv61b⟩: ∃ g:Bool,g=(v55b&&v60b):=⟨_,rfl⟩
  have V61b:=hid hv61b
  clear hv61b
  obtain ⟨v65b,hv65b⟩: ∃ g:Bool,g=((m.kind==48)):=⟨_,rfl⟩
  have V65b:=hid hv65b
  clear hv65b
  obtain ⟨v70b,hv70b⟩: ∃ g:Bool,g=(v65b&&q5):=⟨_,rfl⟩
  have V70b:=hid hv70b
  clear hv70b
  obtain ⟨v71b,hv71b⟩: ∃ g:Bool,g=(!v70b):=⟨_,rfl⟩
  have V71b:=hid hv71b
  clear hv71b
  obtain ⟨v72b,hv72b⟩: ∃ g:Bool,g=(v61b&&v71b):=⟨_,rfl⟩
  have V72b:=hid hv72b
  clear hv72b
  have HE3:=hid (show M.hasTexts m=v72b from by
   rw [HE2.out,V72b.out,V71b.out,V70b.out,V65b.out,V61b.out,V60b.out,V55b.out,V54b.out,V49b.out,V48b.out,V43b.out]
   cases q1<;>cases q2<;>cases q3<;>cases q4<;>cases q5<;>simp)
  refine wp_region_lit ?_
  refine wyH ?_
  refine wyH ?_ (hy:=by have z0:=B1.out.cell (i:=0) (v:= .string m.name) rfl;go_simp;first|done|with_reducible rfl)
  refine wl_pure 42 true (v:= .bool q1) rfl (by kernel_rfl) (fun _=>by go_simp;first|done|with_reducible rfl) (fun _=>HN1.out _) ?_
  try simp only [NM]
  refine wyH ?_ (v:= .bool v43b) (hy:=by rw [V43b.out];(go_simp;first|done|with_reducible rfl))
  refine wyH ?_
  refine wiH v43b ?_
  refine wiH v43b ?_ (hy:=fun hg=>by obtain rfl:v43b=true:=(by exact hg);have z1:=B1.out.cell (i:=1) (v:= .string m.link) rfl;(try simp only [cond_true]);go_simp;first|done|with_reducible rfl)
  refine wl_pure 47 v43b (v:= .bool q2) rfl (by cases v43b<;>kernel_rfl) (fun hg=>by obtain rfl:v43b=true:=(by exact hg);(try simp only [cond_true]);go_simp;first|done|with_reducible rfl) (fun _=>HN2.out _) ?_
  try simp only [NM]
  refine wiH v43b ?_ (v:= .bool v48b) (hy:=fun hg=>by obtain rfl:v43b=true:=(by exact hg);(try simp only [cond_true]);rw [V48b.out];(go_simp;first|done|with_reducible rfl))
  refine wyH ?_ (v:= .bool v49b) (hy:=by rw [V49b.out];cases v43b<;>(go_simp;first|done|with_reducible rfl))
  refine wyH ?_
  refine wiH v49b ?_
  refine wiH v49b ?_ (hy:=fun hg=>by obtain rfl:v49b=true:=(by exact hg);have z6:=B1.out.cell (i:=6) (v:= .string m.user) rfl;(try simp only [cond_true]);go_simp;first|done|with_reducible rfl)
  refine wl_pure 53 v49b (v:= .bool q3) rfl (by cases v49b<;>kernel_rfl) (fun hg=>by obtain rfl:v49b=true:=(by exact hg);(try simp only [cond_true]);go_simp;first|done|with_reducible rfl) (fun _=>HN3.out _) ?_
  try simp only [NM]
  refine wiH v49b ?_ (v:= .bool v54b) (hy:=fun hg=>by obtain rfl:v49b=true:=(by exact hg);(try simp only [cond_true]);rw [V54b.out];(go_simp;first|done|with_reducible rfl))
  refine wyH ?_ (v:= .bool v55b) (hy:=by rw [V55b.out];cases v49b<;>(go_simp;first|done|with_reducible rfl))
  refine wyH ?_
  refine wiH v55b ?_
  refine wiH v55b ?_ (hy:=fun hg=>by obtain rfl:v55b=true:=(by exact hg);have z7:=B1.out.cell (i:=7) (v:= .string m.group) rfl;(try simp only [cond_true]);go_simp;first|done|with_reducible rfl)
  refine wl_pure 59 v55b (v:= .bool q4) rfl (by cases v55b<;>kernel_rfl) (fun hg=>by obtain rfl:v55b=true:=(by exact hg);(try simp only [cond_true]);go_simp;first|done|with_reducible rfl) (fun _=>HN4.out _) ?_
  try simp only [NM]
  refine wiH v55b ?_ (v:= .bool v60b) (hy:=fun hg=>by obtain rfl:v55b=true:=(by exact hg);(try simp only [cond_true]);rw [V60b.out];(go_simp;first|done|with_reducible rfl))
  refine wyH ?_ (v:= .bool v61b) (hy:=by rw [V61b.out];cases v55b<;>(go_simp;first|done|with_reducible rfl))
  refine wyH ?_
  refine wiH v61b ?_
  refine wiH v61b ?_ (hy:=fun hg=>by obtain rfl:v61b=true:=(by exact hg);have z2:=B1.out.cell (i:=2) (v:= .int .u8 m.kind) rfl;(try simp only [cond_true]);go_simp;first|done|with_reducible rfl)
  refine wiH v61b ?_ (v:= .bool v65b) (hy:=fun hg=>by obtain rfl:v61b=true:=(by exact hg);(try simp only [cond_true]);rw [V65b.out];(go_simp;first|done|with_reducible rfl))
  refine wiH v61b ?_
  refine wxH (v61b&&v65b) (by cases v61b<;>cases v65b<;>kernel_rfl) ?_ (hy:=fun hg=>by obtain ⟨rfl,rfl⟩:v61b=true∧v65b=true:=(by revert hg;cases v61b<;>cases v65b<;>simp);(try simp only [cond_true]);go_simp;first|done|with_reducible rfl)
  refine wxH (v61b&&v65b) (by cases v61b<;>cases v65b<;>kernel_rfl) ?_ (hy:=fun hg=>by obtain ⟨rfl,rfl⟩:v61b=true∧v65b=true:=(by revert hg;cases v61b<;>cases v65b<;>simp);have z0:=B1.out.cell (i:=0) (v:= .string m.name) rfl;(try simp only [cond_true]);go_simp;first|done|with_reducible rfl)
  refine wl_pure 69 (v61b&&v65b) (v:= .bool q5) rfl (by cases v61b<;>cases v65b<;>kernel_rfl) (fun hg=>by obtain ⟨rfl,rfl⟩:v61b=true∧v65b=true:=(by revert hg;cases v61b<;>cases v65b<;>simp);(try simp only [cond_true]);go_simp;first|done|with_reducible rfl) (fun _=>HN5.out _) ?_
  try simp only [NM]
  refine wiH v61b ?_ (v:= .bool v70b) (hy:=fun hg=>by obtain rfl:v61b=true:=(by exact hg);(try simp only [cond_true]);rw [V70b.out];cases v65b<;>(go_simp;first|done|with_reducible rfl))
  refine wiH v61b ?_ (v:= .bool v71b) (hy:=fun hg=>by obtain rfl:v61b=true:=(by exact hg);(try simp only [cond_true]);rw [V71b.out];(go_simp;first|done|with_reducible rfl))
  refine wyH ?_ (v:= .bool v72b) (hy:=by rw [V72b.out];cases v61b<;>(go_simp;first|done|with_reducible rfl))
  refine wyH ?_
  refine wpList_nil ?_
  go_wp2_with fail
  go_ret
  exact ⟨ret_boolT (by rw [HE3.out]),HW2.out⟩
theorem numbers_doc (m:M.Met):M.hasNumbers m=(!(((!M.within m.mode 0 2097151|| !M.within m.major 0 2097151)|| !M.within m.minor 0 2097151)||(!M.isDev m.kind&&((m.major !=0)||(m.minor !=0))))&&
  (!((!M.within m.uid 0 4611686018427387904|| !M.within m.gid 0 4611686018427387904)|| !(m.sec==(St.M.norm (m.sec,m.nan)).1&&m.nan==(St.M.norm (m.sec,m.nan)).2))&&
  (!(!M.within m.size 0 1099511627776||((m.kind !=48)&&(m.size !=0)))&&(m.holes||((m.real==m.size)&&((m.parts.length:Int)==0)))))):=by
 rw [hasNumbers_eq]
 unfold nums8
 generalize (m.sec==(St.M.norm (m.sec,m.nan)).1&&m.nan==(St.M.norm (m.sec,m.nan)).2)=t
 generalize (m.holes||((m.real==m.size)&&((m.parts.length:Int)==0)))=u
 generalize M.within m.mode 0 2097151=b1
 generalize M.within m.uid 0 4611686018427387904=b2
 generalize M.within m.gid 0 4611686018427387904=b3
 have ek:(m.kind !=48)= !(m.kind==48):=rfl
 rw [ek]
 generalize (m.kind==48)=k
 generalize M.isDev m.kind=d
 unfold M.within
 have e1:(m.major !=0)= !decide (m.major=0):=rfl
 have e2:(m.minor !=0)= !decide (m.minor=0):=rfl
 have e3:(m.size !=0)= !decide (m.size=0):=rfl
 rw [e1,e2,e3,Bool.eq_iff_iff]
 cases t<;>cases u<;>cases b1<;>cases b2<;>cases b3<;>cases k<;>cases d<;>simp<;>omega
set_option maxRecDepth 100000 in
set_option maxHeartbeats 8000000 in
theorem numbers10_any (m:M.Met) (pv ev:Value) (w:World) (hm:MIn w m pv ev):Calls Tryz.prog 21 #[.agg (mcells m pv ev)] w fun e w'=>e= .returned (.bool (M.hasNumbers m))∧Below w.heap.size w w':=by
 obtain ⟨Ap,cp,rfl,_⟩:=hm.parts
 have hnp:=hm.nparts
 have hb1:Below w.heap.size w (w.alloc (.cells (mcells m (.slice Ap m.parts.length cp) ev) 35)):=(Below.refl _ _).alloc (Nat.le_refl _) _
 have HW:=hid hb1
 have HE:=hid (numbers_doc m)
 have hB1:=MB.new w m (.slice Ap m.parts.length cp) ev
 have P1:=hid (fun W=>refWithin_any m.mode 2097151 W)
 have P2:=hid (fun W=>refWithin_any m.major 2097151 W)
 have P3:=hid (fun W=>refWithin_any m.minor 2097151 W)
 have P4:=hid (fun W=>refDevice_any m.kind W)
 have P5:=hid (fun W=>refWithin_any m.uid 4611686018427387904 W)
 have P6:=hid (fun W=>refWithin_any m.gid 4611686018427387904 W)
 have P7:=hid (fun W=>refWithin_any m.size 1099511627776 W)
 have PN:=hid (fun W=>St.refNorm_any m.sec m.nan W)
 unfold St.TimeIs St.tv at PN
 obtain ⟨p1,h1⟩: ∃ b,M.within m.mode 0 2097151=b:=⟨_,rfl⟩
 obtain ⟨p2,h2⟩: ∃ b,M.within m.major 0 2097151=b:=⟨_,rfl⟩
 obtain ⟨p3,h3⟩: ∃ b,M.within m.minor 0 2097151=b:=⟨_,rfl⟩
 obtain ⟨p4,h4⟩: ∃ b,M.isDev m.kind=b:=⟨_,rfl⟩
 obtain ⟨p5,h5⟩: ∃ b,M.within m.uid 0 4611686018427387904=b:=⟨_,rfl⟩
 obtain ⟨p6,h6⟩: ∃ b,M.within m.gid 0 4611686018427387904=b:=⟨_,rfl⟩
 obtain ⟨p7,h7⟩: ∃ b,M.within m.size 0 1099511627776=b:=⟨_,rfl⟩
 obtain ⟨x1,y1⟩: ∃ b,(St.M.norm (m.sec,m.nan)).1=b:=⟨_,rfl⟩
 obtain ⟨x2,y2⟩: ∃ b,(St.M.norm (m.sec,m.nan)).2=b:=⟨_,rfl⟩
 rw [h1] at P1
 rw [h2] at P2
 rw [h3] at P3
 rw [h4] at P4
 rw [h5] at P5
 rw [h6] at P6
 rw [h7] at P7
 rw [y1,y2] at PN
 rw [h1,h2,h3,h4,h5,h6,h7,y1,y2] at HE
 clear hm hb1 h1 h2 h3 h4 h5 h6 h7 y1 y2
 go_enter Tryz.func21,Tryz.ntmps21
 go_upto_region 1 with fail
 have B1:=hid hB1
 clear hB1
 generalize World.alloc w _=W at*
 obtain ⟨v6a,hv6a⟩: ∃ g:Bool,g=(!p1):=⟨_,rfl⟩
 have V6a:=hid hv6a
 clear hv6a
 obtain ⟨v11a,hv11a⟩: ∃ g:Bool,g=(!p2):=⟨_,rfl⟩
 have V11a:=hid hv11a
 clear hv11a
 obtain ⟨v12a,hv12a⟩: ∃ g:Bool,g=(v6a||v11a):=⟨_,rfl⟩
 have V12a:=hid hv12a
 clear hv12a
 obtain ⟨v17a,hv17a⟩: ∃ g:Bool,g=(!p3):=⟨_,rfl⟩
 have V17a:=hid hv17a
 clear hv17a
 obtain ⟨v18a,hv18a⟩: ∃ g:Bool,g=(v12a||v17a):=⟨_,rfl⟩
 have V18a:=hid hv18a
 clear hv18a
 obtain ⟨v23a,hv23a⟩: ∃ g:Bool,g=(!p4):=⟨_,rfl⟩
 have V23a:=hid hv23a
 clear hv23a
 obtain ⟨v27a,hv27a⟩: ∃ g:Bool,g=((m.major !=0)):=⟨_,rfl⟩
 have V27a:=hid hv27a
 clear hv27a
 obtain ⟨v31a,hv31a⟩: ∃ g:Bool,g=((m.minor !=0)):=⟨_,rfl⟩
 have V31a:=hid hv31a
 clear hv31a
 obtain ⟨v32a,hv32a⟩: ∃ g:Bool,g=(v27a||v31a):=⟨_,rfl⟩
 have V32a:=hid hv32a
 clear hv32a
 obtain ⟨v33a,hv33a⟩: ∃ g:Bool,g=(v23a&&v32a):=⟨_,rfl⟩
 have V33a:=hid hv33a
 clear hv33a
 obtain ⟨v34a,hv34a⟩: ∃ g:Bool,g=(v18a||v33a):=⟨_,rfl⟩
 have V34a:=hid hv34a
 clear hv34a
 obtain ⟨v38b,hv38b⟩: ∃ g:Bool,g=(!p5):=⟨_,rfl⟩
 have V38b:=hid hv38b
 clear hv38b
 obtain ⟨v43b,hv43b⟩: ∃ g:Bool,g=(!p6):=⟨_,rfl⟩
 have V43b:=hid hv43b
 clear hv43b
 obtain ⟨v44b,hv44b⟩: ∃ g:Bool,g=(v38b||v43b):=⟨_,rfl⟩
 have V44b:=hid hv44b
 clear hv44b
 obtain ⟨v51b,hv51b⟩: ∃ g:Bool,g=(!(m.sec==x1&&m.nan==x2)):=⟨_,rfl⟩
 have V51b:=hid hv51b
 clear hv51b
 obtain ⟨v52b,hv52b⟩: ∃ g:Bool,g=(v44b||v51b):=⟨_,rfl⟩
 have V52b:=hid hv52b
 clear hv52b
 obtain ⟨v56c,hv56c⟩: ∃ g:Bool,g=(!p7):=⟨_,rfl⟩
 have V56c:=hid hv56c
 clear hv56c
 obtain ⟨v60c,hv60c⟩: ∃ g:Bool,g=((m.kind !=48)):=⟨_,rfl⟩
 have V60c:=hid hv60c
 clear hv60c
 obtain ⟨v64c,hv64c⟩: ∃ g:Bool,g=((m.size !=0)):=⟨_,rfl⟩
 have V64c:=hid hv64c
 clear hv64c
 obtain ⟨v65c,hv65c⟩: ∃ g:Bool,g=(v60c&&v64c):=⟨_,rfl⟩
 have V65c:=hid hv65c
 clear hv65c
 obtain ⟨v66c,hv66c⟩: ∃ g:Bool,g=(v56c||v65c):=⟨_,rfl⟩
 have V66c:=hid hv66c
 clear hv66c
 obtain ⟨v68d,hv68d⟩: ∃ g:Bool,g=(m.holes):=⟨_,rfl⟩
 have V68d:=hid hv68d
 clear hv68d
 obtain ⟨v74d,hv74d⟩: ∃ g:Bool,g=((m.real==m.size)):=⟨_,rfl⟩
 have V74d:=hid hv74d
 clear hv74d
 obtain ⟨v79d,hv79d⟩: ∃ g:Bool,g=(((m.parts.length:Int)==0)):=⟨_,rfl⟩
 have V79d:=hid hv79d
 clear hv79d
 obtain ⟨v80d,hv80d⟩: ∃ g:Bool,g=(v74d&&v79d):=⟨_,rfl⟩
 have V80d:=hid hv80d
 clear hv80d
 obtain ⟨v81d,hv81d⟩: ∃ g:Bool,g=(v68d||v80d):=⟨_,rfl⟩
 have V81d:=hid hv81d
 clear hv81d
 have HE2:=hid (show M.hasNumbers m=(!v34a&&(!v52b&&(!v66c&&v81d))) from by
  rw [HE.out,V34a.out,V33a.out,V32a.out,V31a.out,V27a.out,V23a.out,V18a.out,V17a.out,V12a.out,V11a.out,V6a.out,V52b.out,V51b.out,V44b.out,V43b.out,V38b.out,V66c.out,V65c.out,V64c.out,V60c.out,V56c.out,V81d.out,V80d.out,V79d.out,V74d.out,V68d.out])
 clear HE
 refine wp_region_lit ?_
 refine wyH ?_
 refine wyH ?_ (hy:=by have z3:=B1.out.cell (i:=3) (v:= .int .i64 m.mode) rfl;go_simp;first|done|with_reducible rfl)
 refine wl_pure 5 true (v:= .bool p1) rfl (by kernel_rfl) (fun _=>by go_simp;first|done|with_reducible rfl) (fun _=>P1.out _) ?_
 try simp only [NM]
 refine wyH ?_ (v:= .bool v6a) (hy:=by rw [V6a.out];(go_simp;first|done|with_reducible rfl))
 refine wyH ?_
 refine wnH v6a ?_
 refine wnH v6a ?_ (hy:=fun hg=>by obtain rfl:v6a=false:=(by simpa using hg);have z10:=B1.out.cell (i:=10) (v:= .int .i64 m.major) rfl;(try simp only [cond_true]);go_simp;first|done|with_reducible rfl)
 refine wl_pure 10 (!v6a) (v:= .bool p2) rfl (by cases v6a<;>kernel_rfl) (fun hg=>by obtain rfl:v6a=false:=(by simpa using hg);(try simp only [cond_true]);go_simp;first|done|with_reducible rfl) (fun _=>P2.out _) ?_
 try simp only [NM]
 refine wnH v6a ?_ (v:= .bool v11a) (hy:=fun hg=>by obtain rfl:v6a=false:=(by simpa using hg);(try simp only [cond_true]);rw [V11a.out];(go_simp;first|done|with_reducible rfl))
 refine wyH ?_ (v:= .bool v12a) (hy:=by rw [V12a.out];cases v6a<;>(go_simp;first|done|with_reducible rfl))
 refine wyH ?_
 refine wnH v12a ?_
 refine wnH v12a ?_ (hy:=fun hg=>by obtain rfl:v12a=false:=(by simpa using hg);have z11:=B1.out.cell (i:=11) (v:= .int .i64 m.minor) rfl;(try simp only [cond_true]);go_simp;first|done|with_reducible rfl)
 refine wl_pure 16 (!v12a) (v:= .bool p3) rfl (by cases v12a<;>kernel_rfl) (fun hg=>by obtain rfl:v12a=false:=(by simpa using hg);(try simp only [cond_true]);go_simp;first|done|with_reducible rfl) (fun _=>P3.out _) ?_
 try simp only [NM]
 refine wnH v12a ?_ (v:= .bool v17a) (hy:=fun hg=>by obtain rfl:v12a=false:=(by simpa using hg);(try simp only [cond_true]);rw [V17a.out];(go_simp;first|done|with_reducible rfl))
 refine wyH ?_ (v:= .bool v18a) (hy:=by rw [V18a.out];cases v12a<;>(go_simp;first|done|with_reducible rfl))
 refine wyH ?_
 refine wnH v18a ?_
 refine wnH v18a ?_ (hy:=fun hg=>by obtain rfl:v18a=false:=(by simpa using hg);have z2:=B1.out.cell (i:=2) (v:= .int .u8 m.kind) rfl;(try simp only [cond_true]);go_simp;first|done|with_reducible rfl)
 refine wl_pure 22 (!v18a) (v:= .bool p4) rfl (by cases v18a<;>kernel_rfl) (fun hg=>by obtain rfl:v18a=false:=(by simpa using hg);(try simp only [cond_true]);go_simp;first|done|with_reducible rfl) (fun _=>P4.out _) ?_
 try simp only [NM]
 refine wnH v18a ?_ (v:= .bool v23a) (hy:=fun hg=>by obtain rfl:v18a=false:=(by simpa using hg);(try simp only [cond_true]);rw [V23a.out];(go_simp;first|done|with_reducible rfl))
 refine wnH v18a ?_
 refine wxH (!v18a&&v23a) (by cases v18a<;>cases v23a<;>kernel_rfl) ?_ (hy:=fun hg=>by obtain ⟨rfl,rfl⟩:v18a=false∧v23a=true:=(by revert hg;cases v18a<;>cases v23a<;>simp);(try simp only [cond_true]);go_simp;first|done|with_reducible rfl)
 refine wxH (!v18a&&v23a) (by cases v18a<;>cases v23a<;>kernel_rfl) ?_ (hy:=fun hg=>by obtain ⟨rfl,rfl⟩:v18a=false∧v23a=true:=(by revert hg;cases v18a<;>cases v23a<;>simp);have z10:=B1.out.cell (i:=10) (v:= .int .i64 m.major) rfl;(try simp only [cond_true]);go_simp;first|done|with_reducible rfl)
 refine wxH (!v18a&&v23a) (by cases v18a<;>cases v23a<;>kernel_rfl) ?_ (v:= .bool v27a) (hy:=fun hg=>by obtain ⟨rfl,rfl⟩:v18a=false∧v23a=true:=(by revert hg;cases v18a<;>cases v23a<;>simp);(try simp only [cond_true]);rw [V27a.out];(go_simp;first|done|with_reducible rfl))
 refine wxH (!v18a&&v23a) (by cases v18a<;>cases v23a<;>kernel_rfl) ?_ (hy:=fun hg=>by obtain ⟨rfl,rfl⟩:v18a=false∧v23a=true:=(by revert hg;cases v18a<;>cases v23a<;>simp);(try simp only [cond_true]);go_simp;first|done|with_reducible rfl)
 refine wxH (!v18a&&v23a&& !v27a) (by cases v18a<;>cases v23a<;>cases v27a<;>kernel_rfl) ?_ (hy:=fun hg=>by obtain ⟨rfl,rfl,rfl⟩:v18a=false∧v23a=true∧v27a=false:=(by revert hg;cases v18a<;>cases v23a<;>cases v27a<;>simp);(try simp only [cond_true]);go_simp;first|done|with_reducible rfl)
 refine wxH (!v18a&&v23a&& !v27a) (by cases v18a<;>cases v23a<;>cases v27a<;>kernel_rfl) ?_ (hy:=fun hg=>by obtain ⟨rfl,rfl,rfl⟩:v18a=false∧v23a=true∧v27a=false:=(by revert hg;cases v18a<;>cases v23a<;>cases v27a<;>simp);have z11:=B1.out.cell (i:=11) (v:= .int .i64 m.minor) rfl;(try simp only [cond_true]);go_simp;first|done|with_reducible rfl)
 refine wxH (!v18a&&v23a&& !v27a) (by cases v18a<;>cases v23a<;>cases v27a<;>kernel_rfl) ?_ (v:= .bool v31a) (hy:=fun hg=>by obtain ⟨rfl,rfl,rfl⟩:v18a=false∧v23a=true∧v27a=false:=(by revert hg;cases v18a<;>cases v23a<;>cases v27a<;>simp);(try simp only [cond_true]);rw [V31a.out];(go_simp;first|done|with_reducible rfl))
 refine wxH (!v18a&&v23a) (by cases v18a<;>cases v23a<;>kernel_rfl) ?_ (v:= .bool v32a) (hy:=fun hg=>by obtain ⟨rfl,rfl⟩:v18a=false∧v23a=true:=(by revert hg;cases v18a<;>cases v23a<;>simp);(try simp only [cond_true]);rw [V32a.out];cases v27a<;>(go_simp;first|done|with_reducible rfl))
 refine wnH v18a ?_ (v:= .bool v33a) (hy:=fun hg=>by obtain rfl:v18a=false:=(by simpa using hg);(try simp only [cond_true]);rw [V33a.out];cases v23a<;>(go_simp;first|done|with_reducible rfl))
 refine wyH ?_ (v:= .bool v34a) (hy:=by rw [V34a.out];cases v18a<;>(go_simp;first|done|with_reducible rfl))
 refine wpList_nil ?_
 cases v34a with
 |true=>
  go_wp2_with fail
  go_ret
  exact ⟨ret_boolT (by rw [HE2.out];rfl),HW.out⟩
 |false=>
  have HC:=hid (fun (V:World) (hV:Below W.heap.size W V)=>B1.out.below hV B1.out.lt)
  go_upto_region 3 with fail
  refine wp_region_class (fun V=>Below W.heap.size W V) (by kernel_rfl) (by kernel_rfl) (below_drew' (Below.refl _ _)) ?_
  refine qyH ?_
  refine qyH ?_ (hy:=fun W hW=>by have z4:=(HC.out W hW).cell (i:=4) (v:= .int .i64 m.uid) rfl;clear hW;go_simp;first|done|with_reducible rfl)
  refine qyH ?_ (v:= .bool p5) (hy:=fun W hW=>by (go_simp;go_at_call 40;(with_reducible refine (P5.out W).mono ?_);rintro e w' ⟨rfl,rfl⟩;exact ⟨rfl,hW⟩))
  refine qyH ?_ (v:= .bool v38b) (hy:=fun W hW=>by clear hW;rw [V38b.out];(go_simp;first|done|with_reducible rfl))
  refine qyH ?_
  refine qnH v38b ?_
  refine qnH v38b ?_ (hy:=fun hg W hW=>by obtain rfl:v38b=false:=(by simpa using hg);have z5:=(HC.out W hW).cell (i:=5) (v:= .int .i64 m.gid) rfl;clear hW;(try simp only [cond_true]);go_simp;first|done|with_reducible rfl)
  refine qnH v38b ?_ (v:= .bool p6) (hy:=fun hg W hW=>by obtain rfl:v38b=false:=(by simpa using hg);(try simp only [cond_true]);(go_simp;go_at_call 40;(with_reducible refine (P6.out W).mono ?_);rintro e w' ⟨rfl,rfl⟩;exact ⟨rfl,hW⟩))
  refine qnH v38b ?_ (v:= .bool v43b) (hy:=fun hg W hW=>by obtain rfl:v38b=false:=(by simpa using hg);clear hW;(try simp only [cond_true]);rw [V43b.out];(go_simp;first|done|with_reducible rfl))
  refine qyH ?_ (v:= .bool v44b) (hy:=fun W hW=>by clear hW;rw [V44b.out];cases v38b<;>(go_simp;first|done|with_reducible rfl))
  refine qyH ?_
  refine qnH v44b ?_
  refine qnH v44b ?_ (hy:=fun hg W hW=>by obtain rfl:v44b=false:=(by simpa using hg);have z8:=(HC.out W hW).cell (i:=8) (v:= .int .i64 m.sec) rfl;have z9:=(HC.out W hW).cell (i:=9) (v:= .int .i64 m.nan) rfl;clear hW;(try simp only [cond_true]);go_simp;first|done|with_reducible rfl)
  refine qnH v44b ?_
  refine qnH v44b ?_ (hy:=fun hg W hW=>by obtain rfl:v44b=false:=(by simpa using hg);have z8:=(HC.out W hW).cell (i:=8) (v:= .int .i64 m.sec) rfl;have z9:=(HC.out W hW).cell (i:=9) (v:= .int .i64 m.nan) rfl;clear hW;(try simp only [cond_true]);go_simp;first|done|with_reducible rfl)
  refine qnH v44b ?_ (v:= .agg #[.int .i64 x1, .int .i64 x2]) (hy:=fun hg W hW=>by obtain rfl:v44b=false:=(by simpa using hg);(try simp only [cond_true]);(go_simp;go_at_call 42;(with_reducible refine (PN.out W).mono ?_);rintro e w' ⟨rfl,hb⟩;exact ⟨rfl,hW.trans (hb.mono hW.size)⟩))
  refine qnH v44b ?_ (v:= .bool v51b) (hy:=fun hg W hW=>by obtain rfl:v44b=false:=(by simpa using hg);clear hW;(try simp only [cond_true]);rw [V51b.out];go_simp;by_cases e1:m.sec=x1<;>by_cases e2:m.nan=x2<;>simp [e1,e2])
  refine qyH ?_ (v:= .bool v52b) (hy:=fun W hW=>by clear hW;rw [V52b.out];cases v44b<;>(go_simp;first|done|with_reducible rfl))
  refine wpQuiet_nil ?_
  intro w5 hb5
  have B2:=hid (HC.out w5 hb5)
  have HW2:=hid (HW.out.trans (hb5.mono HW.out.size))
  clear HC B1 HW hb5
  have B1:=hid B2.out
  clear B2
  cases v52b with
  |true=>
   go_wp2_with fail
   go_ret
   exact ⟨ret_boolT (by rw [HE2.out];rfl),HW2.out⟩
  |false=>
   go_upto_region 5 with fail
   refine wp_region_lit ?_
   refine wyH ?_
   refine wyH ?_ (hy:=by have z12:=B1.out.cell (i:=12) (v:= .int .i64 m.size) rfl;go_simp;first|done|with_reducible rfl)
   refine wl_pure 55 true (v:= .bool p7) rfl (by kernel_rfl) (fun _=>by go_simp;first|done|with_reducible rfl) (fun _=>P7.out _) ?_
   try simp only [NM]
   refine wyH ?_ (v:= .bool v56c) (hy:=by rw [V56c.out];(go_simp;first|done|with_reducible rfl))
   refine wyH ?_
   refine wnH v56c ?_
   refine wnH v56c ?_ (hy:=fun hg=>by obtain rfl:v56c=false:=(by simpa using hg);have z2:=B1.out.cell (i:=2) (v:= .int .u8 m.kind) rfl;(try simp only [cond_true]);go_simp;first|done|with_reducible rfl)
   refine wnH v56c ?_ (v:= .bool v60c) (hy:=fun hg=>by obtain rfl:v56c=false:=(by simpa using hg);(try simp only [cond_true]);rw [V60c.out];(go_simp;first|done|with_reducible rfl))
   refine wnH v56c ?_
   refine wxH (!v56c&&v60c) (by cases v56c<;>cases v60c<;>kernel_rfl) ?_ (hy:=fun hg=>by obtain ⟨rfl,rfl⟩:v56c=false∧v60c=true:=(by revert hg;cases v56c<;>cases v60c<;>simp);(try simp only [cond_true]);go_simp;first|done|with_reducible rfl)
   refine wxH (!v56c&&v60c) (by cases v56c<;>cases v60c<;>kernel_rfl) ?_ (hy:=fun hg=>by obtain ⟨rfl,rfl⟩:v56c=false∧v60c=true:=(by revert hg;cases v56c<;>cases v60c<;>simp);have z12:=B1.out.cell (i:=12) (v:= .int .i64 m.size) rfl;(try simp only [cond_true]);go_simp;first|done|with_reducible rfl)
   refine wxH (!v56c&&v60c) (by cases v56c<;>cases v60c<;>kernel_rfl) ?_ (v:= .bool v64c) (hy:=fun hg=>by obtain ⟨rfl,rfl⟩:v56c=false∧v60c=true:=(by revert hg;cases v56c<;>cases v60c<;>simp);(try simp only [cond_true]);rw [V64c.out];(go_simp;first|done|with_reducible rfl))
   refine wnH v56c ?_ (v:= .bool v65c) (hy:=fun hg=>by obtain rfl:v56c=false:=(by simpa using hg);(try simp only [cond_true]);rw [V65c.out];cases v60c<;>(go_simp;first|done|with_reducible rfl))
   refine wyH ?_ (v:= .bool v66c) (hy:=by rw [V66c.out];cases v56c<;>(go_simp;first|done|with_reducible rfl))
   refine wpList_nil ?_
   cases v66c with
   |true=>
    go_wp2_with fail
    go_ret
    exact ⟨ret_boolT (by rw [HE2.out];rfl),HW2.out⟩
   |false=>
    go_upto_region 7 with fail
    refine wp_region_lit ?_
    refine wyH ?_
    refine wyH ?_ (v:= .bool v68d) (hy:=by have z14:=B1.out.cell (i:=14) (v:= .bool m.holes) rfl;rw [V68d.out];(go_simp;first|done|with_reducible rfl))
    refine wyH ?_
    refine wnH v68d ?_
    refine wnH v68d ?_ (hy:=fun hg=>by obtain rfl:v68d=false:=(by simpa using hg);have z13:=B1.out.cell (i:=13) (v:= .int .i64 m.real) rfl;(try simp only [cond_true]);go_simp;first|done|with_reducible rfl)
    refine wnH v68d ?_
    refine wnH v68d ?_ (hy:=fun hg=>by obtain rfl:v68d=false:=(by simpa using hg);have z12:=B1.out.cell (i:=12) (v:= .int .i64 m.size) rfl;(try simp only [cond_true]);go_simp;first|done|with_reducible rfl)
    refine wnH v68d ?_ (v:= .bool v74d) (hy:=fun hg=>by obtain rfl:v68d=false:=(by simpa using hg);(try simp only [cond_true]);rw [V74d.out];(go_simp;first|done|with_reducible rfl))
    refine wnH v68d ?_
    refine wxH (!v68d&&v74d) (by cases v68d<;>cases v74d<;>kernel_rfl) ?_ (hy:=fun hg=>by obtain ⟨rfl,rfl⟩:v68d=false∧v74d=true:=(by revert hg;cases v68d<;>cases v74d<;>simp);(try simp only [cond_true]);go_simp;first|done|with_reducible rfl)
    refine wxH (!v68d&&v74d) (by cases v68d<;>cases v74d<;>kernel_rfl) ?_ (hy:=fun hg=>by obtain ⟨rfl,rfl⟩:v68d=false∧v74d=true:=(by revert hg;cases v68d<;>cases v74d<;>simp);have z15:=B1.out.cell (i:=15) (v:= .slice Ap m.parts.length cp) rfl;(try simp only [cond_true]);go_simp;first|done|with_reducible rfl)
    refine wxH (!v68d&&v74d) (by cases v68d<;>cases v74d<;>kernel_rfl) ?_ (hy:=fun hg=>by obtain ⟨rfl,rfl⟩:v68d=false∧v74d=true:=(by revert hg;cases v68d<;>cases v74d<;>simp);(try simp only [cond_true]);go_simp;first|done|with_reducible rfl)
    refine wxH (!v68d&&v74d) (by cases v68d<;>cases v74d<;>kernel_rfl) ?_ (v:= .bool v79d) (hy:=fun hg=>by obtain ⟨rfl,rfl⟩:v68d=false∧v74d=true:=(by revert hg;cases v68d<;>cases v74d<;>simp);(try simp only [cond_true]);rw [V79d.out];(go_simp;first|done|with_reducible rfl))
    refine wnH v68d ?_ (v:= .bool v80d) (hy:=fun hg=>by obtain rfl:v68d=false:=(by simpa using hg);(try simp only [cond_true]);rw [V80d.out];cases v74d<;>(go_simp;first|done|with_reducible rfl))
    refine wyH ?_ (v:= .bool v81d) (hy:=by rw [V81d.out];cases v68d<;>(go_simp;first|done|with_reducible rfl))
    refine wyH ?_
    refine wpList_nil ?_
    go_wp2_with fail
    go_ret
    exact ⟨ret_boolT (by rw [HE2.out];rfl),HW2.out⟩
end Go.Proofs.YtgbgngdakkiclaaGreatDoor
