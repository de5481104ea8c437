/-
  Texts of one chapter, merged.
-/
import Derived.Test.YtgbgngdakkiclaaGreatDoorStepZ
import Derived.Test.YtgbgngdakkiclaaGreatDoorMtTextZ
import Derived.Test.YtgbgngdakkiclaaGreatDoorKT
import Derived.Deep.CutRange
import Derived.Test.YtgbgngdakkiclaaGreatDoorMtDelZ
set_option linter.unusedVariables false
set_option linter.unusedSimpArgs false
namespace Go.Proofs.YtgbgngdakkiclaaGreatDoor
open Go.RowKit Go.Lib
open Px (R2 tl)
theorem below_drew' {B:Nat} {a w:World} (h:Below B a w):Below B a w.drew:=⟨h.os,h.tape,h.output,h.size,h.block⟩
def nums8 (m:M.Met) (md ms:Int):Bool:=
 M.within m.mode 0 2097151&&(M.within m.major 0 md&&(M.within m.minor 0 md&&(M.within m.uid 0 4611686018427387904&&(M.within m.gid 0 4611686018427387904&&
  ((m.sec==(St.M.norm (m.sec,m.nan)).1&&m.nan==(St.M.norm (m.sec,m.nan)).2)&&(M.within m.size 0 ms&&(m.holes||m.real==m.size&&(m.parts.length:Int)==0)))))))
theorem hasNumbers_eq (m:M.Met):M.hasNumbers m=nums8 m (if M.isDev m.kind then 2097151 else 0) (if (m.kind==48)=true then 1099511627776 else 0):=by
 unfold M.hasNumbers nums8
 have e1:decide (St.M.norm (m.sec,m.nan)=(m.sec,m.nan))=(m.sec==(St.M.norm (m.sec,m.nan)).1&&m.nan==(St.M.norm (m.sec,m.nan)).2):=by
  generalize St.M.norm (m.sec,m.nan)=t
  obtain ⟨p,q⟩:=t
  rw [Bool.eq_iff_iff]
  simp only [decide_eq_true_eq,Prod.mk.injEq,Bool.and_eq_true,beq_iff_eq]
  constructor<;>rintro ⟨h1,h2⟩<;>exact ⟨h1.symm,h2.symm⟩
 have e2:m.parts.isEmpty=((m.parts.length:Int)==0):=by
  cases m.parts with
  |nil=>rfl
  |cons p l=>
   show false=_
   have h:((((p::l).length:Nat):Int)==0)=false:=by
    rw [beq_eq_false_iff_ne,List.length_cons];omega
   rw [h]
 have e3:(if (m.kind==48)=true then (1099511627776:Int) else 0)=(if m.kind=48 then 1099511627776 else 0):=by simp
 rw [e1,e2,e3]
theorem and_not {a b:Bool} (h:(a&& !b)=true):a=true∧b=false:=by
 revert h
 cases a<;>cases b<;>decide
theorem ret_bool' {a b:Bool} (h:a=b):Ending.returned (.bool a)= .returned (.bool b):=by rw [h]
set_option maxRecDepth 100000 in
set_option maxHeartbeats 8000000 in
theorem hasNumbers_any (m:M.Met) (pv ev:Value) (w:World) (hm:MIn w m pv ev):Calls Tryz.prog 83 #[.agg (mcells m pv ev)] w fun e w'=>e= .returned (.bool (M.hasNumbers m))∧Below w.heap.size w w':=by
 have hb1:Below w.heap.size w (w.alloc (.cells (mcells m pv ev) 35)):=(Below.refl _ _).alloc (Nat.le_refl _) _
 have HW:=hid hb1
 have HE:=hid (hasNumbers_eq m)
 obtain ⟨A,c,rfl,_⟩:=hm.parts
 have B1:=hid (MB.new w m (.slice A m.parts.length c) ev)
 clear hm hb1
 have k2:=MB.cell B1.out (i:=2) (v:= .int .u8 m.kind) rfl
 have hn:nums8 m (if M.isDev m.kind then 2097151 else 0) (if (m.kind==48)=true then 1099511627776 else 0)=nums8 m (if M.isDev m.kind then 2097151 else 0) (if (m.kind==48)=true then 1099511627776 else 0):=rfl
 clear hn
 have HD:=hid (fun W=>isDevice_any m.kind W)
 go_enter Tryz.func83,Tryz.ntmps83
 go_upto_region 2 with fail
 generalize hW0:World.alloc w _=W at*
 go_upto_if 7 with (go_at_call 117;(with_reducible refine (HD.out _).mono ?_);rintro e w2 ⟨rfl,rfl⟩)
 go_cut [3,4] from 3 to 7 (fun v3 v4 wx=>v3= .int .i64 (if M.isDev m.kind then 2097151 else 0)∧v4= .int .i64 0∧W=wx)
 case first=>
  generalize M.isDev m.kind=b at*
  cases b with
  |_=>
   go_wp2_with fail
   go_meet
   case rel=>exact ⟨rfl,rfl,rfl⟩
 case rest=>
  obtain ⟨rfl,rfl,rfl⟩:=hcut
  generalize (if M.isDev m.kind then (2097151:Int) else 0)=md at HE⊢
  go_upto_if 10 with fail
  go_cut [4] from 4 to 10 (fun v4 wx=>v4= .int .i64 (if (m.kind==48)=true then 1099511627776 else 0)∧W=wx)
  case first=>
   generalize (m.kind==48)=b at*
   cases b with
   |_=>
    go_wp2_with fail
    go_meet
    case rel=>exact ⟨rfl,rfl⟩
  obtain ⟨rfl,rfl⟩:=hcut
  generalize (if (m.kind==48)=true then (1099511627776:Int) else 0)=ms at HE⊢
  go_upto_region 6 with fail
  have HF:Hid (∀ V,Below W.heap.size W V→V.cell? ⟨w.heap.size,3,none⟩=some (.int .i64 m.mode)∧V.cell? ⟨w.heap.size,10,none⟩=some (.int .i64 m.major)∧V.cell? ⟨w.heap.size,11,none⟩=some (.int .i64 m.minor)∧V.cell? ⟨w.heap.size,4,none⟩=some (.int .i64 m.uid)∧V.cell? ⟨w.heap.size,5,none⟩=some (.int .i64 m.gid)∧V.cell? ⟨w.heap.size,8,none⟩=some (.int .i64 m.sec)∧V.cell? ⟨w.heap.size,9,none⟩=some (.int .i64 m.nan)∧V.cell? ⟨w.heap.size,12,none⟩=some (.int .i64 m.size)∧V.cell? ⟨w.heap.size,13,none⟩=some (.int .i64 m.real)∧V.cell? ⟨w.heap.size,14,none⟩=some (.bool m.holes)∧V.cell? ⟨w.heap.size,15,none⟩=some (.slice A m.parts.length c)):=hid (fun V hV=>by
   have hb:MB V w.heap.size m (.slice A m.parts.length c) ev:=B1.out.below hV B1.out.lt
   exact ⟨hb.cell (i:=3) rfl,hb.cell (i:=10) rfl,hb.cell (i:=11) rfl,hb.cell (i:=4) rfl,hb.cell (i:=5) rfl,hb.cell (i:=8) rfl,hb.cell (i:=9) rfl,hb.cell (i:=12) rfl,hb.cell (i:=13) rfl,hb.cell (i:=14) rfl,hb.cell (i:=15) rfl⟩)
  clear B1 k2 HD hW0
  have HW1:=hid (fun V=>within_any m.mode 0 2097151 V)
  have HW2:=hid (fun V=>within_any m.major 0 md V)
  have HW3:=hid (fun V=>within_any m.minor 0 md V)
  have HW4:=hid (fun V=>within_any m.uid 0 4611686018427387904 V)
  have HW5:=hid (fun V=>within_any m.gid 0 4611686018427387904 V)
  have HW7:=hid (fun V=>within_any m.size 0 ms V)
  have HT:=hid (fun V=>St.norm_any m.sec m.nan V)
  unfold St.TimeIs St.tv at HT
  unfold nums8 at HE
  generalize hN:St.M.norm (m.sec,m.nan)=t at HE HT
  clear hN
  obtain ⟨p,q⟩:=t
  dsimp only at HE HT
  generalize hL:m.parts.length=n at*
  clear hL
  obtain ⟨c1,hc1⟩: ∃ c,M.within m.mode 0 2097151=c:=⟨_,rfl⟩
  rw [hc1] at HW1 HE
  clear hc1
  obtain ⟨c2,hc2⟩: ∃ c,M.within m.major 0 md=c:=⟨_,rfl⟩
  rw [hc2] at HW2 HE
  clear hc2
  obtain ⟨c3,hc3⟩: ∃ c,M.within m.minor 0 md=c:=⟨_,rfl⟩
  rw [hc3] at HW3 HE
  clear hc3
  obtain ⟨c4,hc4⟩: ∃ c,M.within m.uid 0 4611686018427387904=c:=⟨_,rfl⟩
  rw [hc4] at HW4 HE
  clear hc4
  obtain ⟨c5,hc5⟩: ∃ c,M.within m.gid 0 4611686018427387904=c:=⟨_,rfl⟩
  rw [hc5] at HW5 HE
  clear hc5
  obtain ⟨c7,hc7⟩: ∃ c,M.within m.size 0 ms=c:=⟨_,rfl⟩
  rw [hc7] at HW7 HE
  clear hc7
  obtain ⟨c6,hc6⟩: ∃ c,(m.sec==p&&m.nan==q)=c:=⟨_,rfl⟩
  rw [hc6] at HE
  have H6:=hid hc6
  clear hc6
  obtain ⟨cr,hcr⟩: ∃ c,(m.real==m.size)=c:=⟨_,rfl⟩
  rw [hcr] at HE
  have HCR:=hid hcr
  clear hcr
  obtain ⟨cn,hcn⟩: ∃ c,((n:Int)==0)=c:=⟨_,rfl⟩
  rw [hcn] at HE
  have HCN:=hid hcn
  clear hcn
  generalize m.holes=ho at HE HF⊢
  obtain ⟨g2,hg2⟩: ∃ g,g=(c1&&c2):=⟨_,rfl⟩
  have Hg2:=hid hg2
  clear hg2
  obtain ⟨g3,hg3⟩: ∃ g,g=(g2&&c3):=⟨_,rfl⟩
  have Hg3:=hid hg3
  clear hg3
  obtain ⟨g4,hg4⟩: ∃ g,g=(g3&&c4):=⟨_,rfl⟩
  have Hg4:=hid hg4
  clear hg4
  obtain ⟨g5,hg5⟩: ∃ g,g=(g4&&c5):=⟨_,rfl⟩
  have Hg5:=hid hg5
  clear hg5
  obtain ⟨g6,hg6⟩: ∃ g,g=(g5&&c6):=⟨_,rfl⟩
  have Hg6:=hid hg6
  clear hg6
  obtain ⟨g7,hg7⟩: ∃ g,g=(g6&&c7):=⟨_,rfl⟩
  have Hg7:=hid hg7
  clear hg7
  obtain ⟨r,hr⟩: ∃ g,g=(cr&&cn):=⟨_,rfl⟩
  have Hr:=hid hr
  clear hr
  obtain ⟨s,hs⟩: ∃ g,g=(ho||r):=⟨_,rfl⟩
  have Hs:=hid hs
  clear hs
  obtain ⟨z,hz⟩: ∃ g,g=(g7&&s):=⟨_,rfl⟩
  have Hz:=hid hz
  clear hz
  refine wp_region_class (fun V=>Below W.heap.size W V) (by kernel_rfl) (by kernel_rfl) (below_drew' (Below.refl _ _)) ?_
  refine qyH ?_
  refine qyH ?_ (hy:=fun W hW=>by obtain ⟨x3,x10,x11,x4,x5,x8,x9,x12,x13,x14,x15⟩:=HF.out W hW;clear hW;go_simp;first|done|with_reducible rfl)
  refine qyH ?_ (v:= .bool c1) (hy:=fun W hW=>by (go_simp;go_at_call 81;(with_reducible refine (HW1.out W).mono ?_);rintro e w' ⟨rfl,rfl⟩;exact ⟨rfl,hW⟩))
  refine qyH ?_
  refine qiH c1 ?_
  refine qiH c1 ?_ (hy:=fun hg W hW=>by subst hg;obtain ⟨x3,x10,x11,x4,x5,x8,x9,x12,x13,x14,x15⟩:=HF.out W hW;clear hW;go_simp;first|done|with_reducible rfl)
  refine qiH c1 ?_
  refine qiH c1 ?_ (v:= .bool c2) (hy:=fun hg W hW=>by subst hg;simp only [cond_true];(go_simp;go_at_call 81;(with_reducible refine (HW2.out W).mono ?_);rintro e w' ⟨rfl,rfl⟩;exact ⟨rfl,hW⟩))
  refine qyH ?_ (v:= .bool g2) (hy:=fun W hW=>by clear hW;rw [Hg2.out];cases c1<;>(go_simp;first|done|with_reducible rfl))
  refine qyH ?_
  refine qiH g2 ?_
  refine qiH g2 ?_ (hy:=fun hg W hW=>by subst hg;obtain ⟨x3,x10,x11,x4,x5,x8,x9,x12,x13,x14,x15⟩:=HF.out W hW;clear hW;go_simp;first|done|with_reducible rfl)
  refine qiH g2 ?_
  refine qiH g2 ?_ (v:= .bool c3) (hy:=fun hg W hW=>by subst hg;simp only [cond_true];(go_simp;go_at_call 81;(with_reducible refine (HW3.out W).mono ?_);rintro e w' ⟨rfl,rfl⟩;exact ⟨rfl,hW⟩))
  refine qyH ?_ (v:= .bool g3) (hy:=fun W hW=>by clear hW;rw [Hg3.out];cases g2<;>(go_simp;first|done|with_reducible rfl))
  refine qyH ?_
  refine qiH g3 ?_
  refine qiH g3 ?_ (hy:=fun hg W hW=>by subst hg;obtain ⟨x3,x10,x11,x4,x5,x8,x9,x12,x13,x14,x15⟩:=HF.out W hW;clear hW;go_simp;first|done|with_reducible rfl)
  refine qiH g3 ?_ (v:= .bool c4) (hy:=fun hg W hW=>by subst hg;simp only [cond_true];(go_simp;go_at_call 81;(with_reducible refine (HW4.out W).mono ?_);rintro e w' ⟨rfl,rfl⟩;exact ⟨rfl,hW⟩))
  refine qyH ?_ (v:= .bool g4) (hy:=fun W hW=>by clear hW;rw [Hg4.out];cases g3<;>(go_simp;first|done|with_reducible rfl))
  refine qyH ?_
  refine qiH g4 ?_
  refine qiH g4 ?_ (hy:=fun hg W hW=>by subst hg;obtain ⟨x3,x10,x11,x4,x5,x8,x9,x12,x13,x14,x15⟩:=HF.out W hW;clear hW;go_simp;first|done|with_reducible rfl)
  refine qiH g4 ?_ (v:= .bool c5) (hy:=fun hg W hW=>by subst hg;simp only [cond_true];(go_simp;go_at_call 81;(with_reducible refine (HW5.out W).mono ?_);rintro e w' ⟨rfl,rfl⟩;exact ⟨rfl,hW⟩))
  refine qyH ?_ (v:= .bool g5) (hy:=fun W hW=>by clear hW;rw [Hg5.out];cases g4<;>(go_simp;first|done|with_reducible rfl))
  refine qyH ?_
  refine qiH g5 ?_
  refine qiH g5 ?_ (hy:=fun hg W hW=>by subst hg;obtain ⟨x3,x10,x11,x4,x5,x8,x9,x12,x13,x14,x15⟩:=HF.out W hW;clear hW;go_simp;first|done|with_reducible rfl)
  refine qiH g5 ?_
  refine qiH g5 ?_ (hy:=fun hg W hW=>by subst hg;obtain ⟨x3,x10,x11,x4,x5,x8,x9,x12,x13,x14,x15⟩:=HF.out W hW;clear hW;go_simp;first|done|with_reducible rfl)
  refine qiH g5 ?_ (v:= .agg #[.int .i64 p, .int .i64 q]) (hy:=fun hg W hW=>by subst hg;simp only [cond_true];(go_simp;go_at_call 118;refine (HT.out W).mono ?_;rintro e w' ⟨rfl,hb⟩;exact ⟨rfl,hW.trans (hb.mono hW.size)⟩))
  refine qiH g5 ?_ (v:= .bool c6) (hy:=fun hg W hW=>by subst hg;clear hW;simp only [cond_true];rw [←H6.out];go_simp;by_cases e1:m.sec=p<;>by_cases e2:m.nan=q<;>simp [e1,e2])
  refine qyH ?_ (v:= .bool g6) (hy:=fun W hW=>by clear hW;rw [Hg6.out];cases g5<;>(go_simp;first|done|with_reducible rfl))
  refine qyH ?_
  refine qiH g6 ?_
  refine qiH g6 ?_ (hy:=fun hg W hW=>by subst hg;obtain ⟨x3,x10,x11,x4,x5,x8,x9,x12,x13,x14,x15⟩:=HF.out W hW;clear hW;go_simp;first|done|with_reducible rfl)
  refine qiH g6 ?_
  refine qiH g6 ?_ (v:= .bool c7) (hy:=fun hg W hW=>by subst hg;simp only [cond_true];(go_simp;go_at_call 81;(with_reducible refine (HW7.out W).mono ?_);rintro e w' ⟨rfl,rfl⟩;exact ⟨rfl,hW⟩))
  refine qyH ?_ (v:= .bool g7) (hy:=fun W hW=>by clear hW;rw [Hg7.out];cases g6<;>(go_simp;first|done|with_reducible rfl))
  refine qyH ?_
  refine qiH g7 ?_
  refine qiH g7 ?_ (hy:=fun hg W hW=>by subst hg;obtain ⟨x3,x10,x11,x4,x5,x8,x9,x12,x13,x14,x15⟩:=HF.out W hW;clear hW;go_simp;first|done|with_reducible rfl)
  refine qiH g7 ?_ (v:= .bool ho) (hy:=fun hg W hW=>by subst hg;clear hW;simp only [cond_true];go_simp;first|done|with_reducible rfl)
  refine qxH (g7&& !ho) (by cases g7<;>cases ho<;>kernel_rfl) ?_ (hy:=fun hg W hW=>by (try rw [hg]);clear hW;go_simp;first|done|with_reducible rfl)
  refine qxH (g7&& !ho) (by cases g7<;>cases ho<;>kernel_rfl) ?_ (hy:=fun hg W hW=>by (try rw [hg]);obtain ⟨x3,x10,x11,x4,x5,x8,x9,x12,x13,x14,x15⟩:=HF.out W hW;clear hW;go_simp;first|done|with_reducible rfl)
  refine qxH (g7&& !ho) (by cases g7<;>cases ho<;>kernel_rfl) ?_ (hy:=fun hg W hW=>by (try rw [hg]);clear hW;go_simp;first|done|with_reducible rfl)
  refine qxH (g7&& !ho) (by cases g7<;>cases ho<;>kernel_rfl) ?_ (hy:=fun hg W hW=>by (try rw [hg]);obtain ⟨x3,x10,x11,x4,x5,x8,x9,x12,x13,x14,x15⟩:=HF.out W hW;clear hW;go_simp;first|done|with_reducible rfl)
  refine qxH (g7&& !ho) (by cases g7<;>cases ho<;>kernel_rfl) ?_ (v:= .bool cr) (hy:=fun hg W hW=>by (try rw [hg]);clear hW;simp only [cond_true];rw [←HCR.out];go_simp;first|done|with_reducible rfl)
  refine qxH (g7&& !ho) (by cases g7<;>cases ho<;>kernel_rfl) ?_ (v:= .bool cr) (hy:=fun hg W hW=>by (try rw [hg]);clear hW;simp only [cond_true];go_simp;first|done|with_reducible rfl)
  refine qxH (g7&& !ho&&cr) (by cases g7<;>cases ho<;>cases cr<;>kernel_rfl) ?_ (hy:=fun hg W hW=>by (try rw [hg]);clear hW;go_simp;first|done|with_reducible rfl)
  refine qxH (g7&& !ho&&cr) (by cases g7<;>cases ho<;>cases cr<;>kernel_rfl) ?_ (hy:=fun hg W hW=>by (try rw [hg]);obtain ⟨x3,x10,x11,x4,x5,x8,x9,x12,x13,x14,x15⟩:=HF.out W hW;clear hW;go_simp;first|done|with_reducible rfl)
  refine qxH (g7&& !ho&&cr) (by cases g7<;>cases ho<;>cases cr<;>kernel_rfl) ?_ (v:= .int .i64 n) (hy:=fun hg W hW=>by (try rw [hg]);clear hW;simp only [cond_true];go_simp;first|done|with_reducible rfl)
  refine qxH (g7&& !ho&&cr) (by cases g7<;>cases ho<;>cases cr<;>kernel_rfl) ?_ (v:= .bool cn) (hy:=fun hg W hW=>by (try rw [hg]);clear hW;simp only [cond_true];rw [←HCN.out];go_simp;first|done|with_reducible rfl)
  refine qxH (g7&& !ho) (by cases g7<;>cases ho<;>kernel_rfl) ?_ (v:= .bool r) (hy:=fun hg W hW=>by clear hW;obtain ⟨h1,h2⟩:=and_not hg;rw [Hr.out];simp only [h1,h2];cases cr<;>(go_simp;first|done|with_reducible rfl))
  refine qiH g7 ?_ (v:= .bool s) (hy:=fun hg W hW=>by clear hW;subst hg;rw [Hs.out];cases ho<;>(go_simp;first|done|with_reducible rfl))
  refine qyH ?_ (v:= .bool z) (hy:=fun W hW=>by clear hW;rw [Hz.out];cases g7<;>(go_simp;first|done|with_reducible rfl))
  refine qyH ?_
  refine wpQuiet_nil ?_
  intro w9 hw9
  clear HW1 HW2 HW3 HW4 HW5 HW7 HF HT H6 HCR HCN
  go_wp2_with fail
  go_ret
  exact ⟨ret_bool' (by rw [HE.out,Hz.out,Hs.out,Hr.out,Hg7.out,Hg6.out,Hg5.out,Hg4.out,Hg3.out,Hg2.out];cases c1<;>cases c2<;>cases c3<;>cases c4<;>cases c5<;>cases c6<;>cases c7<;>cases ho<;>cases cr<;>cases cn<;>rfl),HW.out.trans (Below.mono hw9 HW.out.size)⟩
end Go.Proofs.YtgbgngdakkiclaaGreatDoor

namespace Go.Proofs.YtgbgngdakkiclaaGreatDoor
open Go.RowKit Go.Lib
open Px (R2 tl)
theorem wrong_eq (m:M.Met):M.wrong m=if (!M.within m.kind 48 54)=true then 31 else if (!M.hasTexts m)=true then 33 else if (!M.hasNumbers m)=true then 32 else if (!M.isExtra [] m.extra||(m.holes&& !M.hasHoles m))=true then 34 else 0:=by
 unfold M.wrong
 cases M.within m.kind 48 54<;>cases M.hasTexts m<;>cases M.hasNumbers m<;>cases M.isExtra [] m.extra<;>cases m.holes<;>cases M.hasHoles m<;>rfl
set_option maxRecDepth 100000 in
set_option maxHeartbeats 2000000 in
theorem wrong_any (m:M.Met) (pv ev:Value) (w:World) (hm:MIn w m pv ev):Calls Tryz.prog 65 #[.agg (mcells m pv ev)] w fun e w'=>e= .returned (.int .u16 (M.wrong m:Nat))∧Below w.heap.size w w':=by
 have HE:=hid (wrong_eq m)
 have HM:=hid hm
 obtain ⟨A,c,hev,hr⟩:=hm.extra
 have hnx:=hm.nextra
 have B1:=hid (MB.new w m pv ev)
 have hb1:Below w.heap.size w (w.alloc (.cells (mcells m pv ev) 35)):=(Below.refl _ _).alloc (Nat.le_refl _) _
 have hsz:=World.size_alloc w (.cells (mcells m pv ev) 35)
 have hkw:IntKind.i64.wrap m.kind=m.kind:=IntWalk.i64_in _ (by have:=hm.kind;omega)
 have H1:=hid (fun W=>within_any m.kind 48 54 W)
 have H2:=hid (fun V hV=>hasTexts_any m pv ev V (HM.out.later hV))
 have H3:=hid (fun V hV=>hasNumbers_any m pv ev V (HM.out.later hV))
 have H4:=hid (fun V (hV:Below w.heap.size w V)=>isExtra_any A c m.extra (by omega) V ((hr.below hV).more hV.size))
 have H5:=hid (fun V hV=>hasHoles_any m pv ev V (HM.out.later hV))
 have HW:=hid hb1
 have hev2:Value.slice A m.extra.length c=ev:=hev.symm
 rw [hev2] at H4
 clear hm hr hb1 hev hev2 hnx HM
 generalize hE:M.isExtra [] m.extra=be at*
 have HF:=hid (show ∀ V,Below (w.heap.size+1) (w.alloc (.cells (mcells m pv ev) 35)) V→MB V w.heap.size m pv ev from fun V hV=>B1.out.below hV (by omega))
 clear B1 hE
 go_enter Tryz.func65,Tryz.ntmps65
 go_upto_region 1 with fail
 generalize World.alloc w _=W at*
 have B0:=HF.out W (Below.refl _ _)
 have x2:=B0.cell (i:=2) (v:= .int .u8 m.kind) rfl
 have C1:=hid B0
 clear B0
 have HF2:=hid (show ∀ V,MB V w.heap.size m pv ev→V.cell? ⟨w.heap.size,0,none⟩=some (.string m.name)∧V.cell? ⟨w.heap.size,1,none⟩=some (.string m.link)∧V.cell? ⟨w.heap.size,2,none⟩=some (.int .u8 m.kind)∧V.cell? ⟨w.heap.size,3,none⟩=some (.int .i64 m.mode)∧V.cell? ⟨w.heap.size,4,none⟩=some (.int .i64 m.uid)∧V.cell? ⟨w.heap.size,5,none⟩=some (.int .i64 m.gid)∧V.cell? ⟨w.heap.size,6,none⟩=some (.string m.user)∧V.cell? ⟨w.heap.size,7,none⟩=some (.string m.group)∧V.cell? ⟨w.heap.size,8,none⟩=some (.int .i64 m.sec)∧V.cell? ⟨w.heap.size,9,none⟩=some (.int .i64 m.nan)∧V.cell? ⟨w.heap.size,10,none⟩=some (.int .i64 m.major)∧V.cell? ⟨w.heap.size,11,none⟩=some (.int .i64 m.minor)∧V.cell? ⟨w.heap.size,12,none⟩=some (.int .i64 m.size)∧V.cell? ⟨w.heap.size,13,none⟩=some (.int .i64 m.real)∧V.cell? ⟨w.heap.size,14,none⟩=some (.bool m.holes)∧V.cell? ⟨w.heap.size,15,none⟩=some pv∧V.cell? ⟨w.heap.size,16,none⟩=some ev from fun V h=>
  ⟨h.cell (i:=0) rfl,h.cell (i:=1) rfl,h.cell (i:=2) rfl,h.cell (i:=3) rfl,h.cell (i:=4) rfl,h.cell (i:=5) rfl,h.cell (i:=6) rfl,h.cell (i:=7) rfl,h.cell (i:=8) rfl,h.cell (i:=9) rfl,h.cell (i:=10) rfl,h.cell (i:=11) rfl,h.cell (i:=12) rfl,h.cell (i:=13) rfl,h.cell (i:=14) rfl,h.cell (i:=15) rfl,h.cell (i:=16) rfl⟩)
 cases b1:M.within m.kind 48 54 with
 |false=>
  rw [b1] at H1 HE
  go_wp2_with (go_at_call 81;(with_reducible refine (H1.out _).mono ?_);rintro e w9 ⟨rfl,rfl⟩)
  go_ret
  exact ⟨by rw [HE.out];rfl,HW.out⟩
 |true=>
 rw [b1] at H1 HE
 go_upto_region 3 with (go_at_call 81;(with_reducible refine (H1.out _).mono ?_);rintro e w9 ⟨rfl,rfl⟩)
 clear b1 x2 H1
 go_wp2_with (refine wpList_load_row rfl 35 (.tmp 1) rfl w.heap.size (by rfl) 35 (mcells m pv ev) (0,0) _ C1.out Tryz.underlying35 rfl met_size ?_)
 (with_reducible refine (H2.out _ HW.out).mono ?_)
 rintro e w2 ⟨rfl,hb2⟩
 have B2:=hid (HW.out.trans (hb2.mono HW.out.size))
 have C2:=hid (HF.out w2 (hsz▸hb2))
 have D2:=hid hb2
 clear hb2 H2
 cases b2:M.hasTexts m with
 |false=>
  rw [b2] at HE
  go_wp2_with fail
  go_ret
  exact ⟨by rw [HE.out];rfl,B2.out⟩
 |true=>
 rw [b2] at HE
 clear b2
 go_upto_region 5 with fail
 go_wp2_with (refine wpList_load_row rfl 35 (.tmp 1) rfl w.heap.size (by rfl) 35 (mcells m pv ev) (0,0) _ C2.out Tryz.underlying35 rfl met_size ?_)
 (with_reducible refine (H3.out _ B2.out).mono ?_)
 rintro e w3 ⟨rfl,hb3⟩
 have B3:=hid (B2.out.trans (hb3.mono B2.out.size))
 have D3:=hid (D2.out.trans (hb3.mono D2.out.size))
 have C3:=hid (HF.out w3 (hsz▸D3.out))
 have y16:=C3.out.cell (i:=16) (v:=ev) rfl
 clear hb3 H3 C2
 cases b3:M.hasNumbers m with
 |false=>
  rw [b3] at HE
  clear y16
  go_wp2_with fail
  go_ret
  exact ⟨by rw [HE.out];rfl,B3.out⟩
 |true=>
 rw [b3] at HE
 clear b3
 go_upto_region 7 with fail
 cases bh:m.holes with
 |false=>
  rw [bh] at HF2 HE
  go_wp2_with (first
   |(go_at_call 84;(with_reducible refine (H4.out _ B3.out).mono ?_);rintro e w4 ⟨rfl,hb4⟩;(have B4:=hid (B3.out.trans (hb4.mono B3.out.size)));(have D4:=hid (D3.out.trans (hb4.mono D3.out.size)));(have C4:=hid (HF.out w4 (hsz▸D4.out)));clear y16;obtain ⟨z0,z1,z2,z3,z4,z5,z6,z7,z8,z9,z10,z11,z12,z13,z14,z15,z16⟩:=HF2.out w4 C4.out;clear hb4))
  all_goals first
   |(exfalso;simp_all;done)
   |(go_ret
     first
      |exact ⟨by rw [HE.out];simp [*],B4.out⟩)
 |true=>
  have H6:=hid (show ∀ V,Below w.heap.size w V→Calls Tryz.prog 85 #[.agg #[.string m.name, .string m.link, .int .u8 m.kind, .int .i64 m.mode, .int .i64 m.uid, .int .i64 m.gid, .string m.user, .string m.group, .int .i64 m.sec, .int .i64 m.nan, .int .i64 m.major, .int .i64 m.minor, .int .i64 m.size, .int .i64 m.real, .bool true,pv,ev]] V fun e w'=>e= .returned (.bool (M.hasHoles m))∧Below V.heap.size V w' from by
   have h:=H5.out
   unfold mcells at h
   rw [bh] at h
   exact h)
  rw [bh] at HF2 HE
  go_wp2_with (first
   |(go_at_call 84;(with_reducible refine (H4.out _ B3.out).mono ?_);rintro e w4 ⟨rfl,hb4⟩;(have B4:=hid (B3.out.trans (hb4.mono B3.out.size)));(have D4:=hid (D3.out.trans (hb4.mono D3.out.size)));(have C4:=hid (HF.out w4 (hsz▸D4.out)));clear y16;obtain ⟨z0,z1,z2,z3,z4,z5,z6,z7,z8,z9,z10,z11,z12,z13,z14,z15,z16⟩:=HF2.out w4 C4.out;clear hb4)
   |(go_at_call 85;(with_reducible refine (H6.out _ B4.out).mono ?_);rintro e w5 ⟨rfl,hb5⟩;(have B5:=hid (B4.out.trans (hb5.mono B4.out.size)));clear hb5))
  all_goals first
   |(exfalso;simp_all;done)
   |(go_ret
     first
      |exact ⟨by rw [HE.out];simp [*],B5.out⟩
      |exact ⟨by rw [HE.out];simp [*],B4.out⟩)
end Go.Proofs.YtgbgngdakkiclaaGreatDoor
