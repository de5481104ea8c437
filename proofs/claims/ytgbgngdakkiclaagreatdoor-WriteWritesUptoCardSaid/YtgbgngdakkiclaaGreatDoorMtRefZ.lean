/-
  Texts of one chapter, merged.
-/
import Derived.Test.YtgbgngdakkiclaaGreatDoorMtTextZ
import Derived.IntWalk
import Derived.Test.YtgbgngdakkiclaaGreatDoorMtMathZ
import Derived.Test.YtgbgngdakkiclaaGreatDoorKN
import Derived.Test.YtgbgngdakkiclaaGreatDoorKT
import Derived.Tactics
import Derived.Test.YtgbgngdakkiclaaGreatDoorKS
import Derived.Deep.QuietTactic
import Derived.BigQuiet
import Derived.Laws.StructEq
import Derived.Lib.MinMax
import Derived.Test.YtgbgngdakkiclaaGreatDoorKX
import Derived.Deep.CutRange
import Derived.WalkKit
import Derived.Test.YtgbgngdakkiclaaGreatDoorStepZ
import Derived.Test.YtgbgngdakkiclaaGreatDoorMtNumZ
import Derived.Test.YtgbgngdakkiclaaGreatDoorMtGive
import Derived.Test.YtgbgngdakkiclaaGreatDoorMtDelZ
import Derived.Laws.Cover1
import Derived.Sort.Walk0
set_option linter.unusedVariables false
set_option linter.unusedSimpArgs false
namespace Go.Proofs.YtgbgngdakkiclaaGreatDoor
open Go.RowKit Go.Lib
open Px (R2 tl)
theorem refLinked_any (k:Int) (w:World):Calls Tryz.prog 37 #[.int .u8 k] w fun e w'=>e= .returned (.bool (M.isLink k))∧w=w':=by
 unfold M.isLink
 cases h:k==49 with
 |_=>
  go_enter Tryz.func37,Tryz.ntmps37
  go_wp2
  go_ret
  exact ⟨rfl,rfl⟩
theorem refDevice_any (k:Int) (w:World):Calls Tryz.prog 41 #[.int .u8 k] w fun e w'=>e= .returned (.bool (M.isDev k))∧w=w':=by
 unfold M.isDev
 cases h:k==51 with
 |_=>
  go_enter Tryz.func41,Tryz.ntmps41
  go_wp2
  go_ret
  exact ⟨rfl,rfl⟩
theorem refWithin_any (n b:Int) (w:World):Calls Tryz.prog 40 #[.int .i64 n, .int .i64 b] w fun e w'=>e= .returned (.bool (M.within n 0 b))∧w=w':=by
 unfold M.within
 have hg:decide (n≥0)=decide (0≤n):=rfl
 cases h:decide (0≤n) with
 |_=>
  go_enter Tryz.func40,Tryz.ntmps40
  go_wp2
  go_ret
  exact ⟨rfl,rfl⟩
theorem slash_last (s:ByteArray) (j:Nat) (hlt:j<s.size) (h:s.size=j+1):(((s[j]'hlt).toNat:Int)==47)=M.slash (tl s):=by
 have hl:tl s≠ []:=by intro e;have:=congrArg List.length e;have h2:(tl s).length=s.size:=rfl;have h3:(tl s).length=0:=this;omega
 have hlen:(tl s).length=j+1:=h
 unfold M.slash
 rw [List.getLast?_eq_getElem?,hlen]
 have hj2:j<(tl s).length:=by omega
 have e:(tl s)[j+1 - 1]?=some (s[j]'hlt):=by
  rw [Nat.add_sub_cancel,List.getElem?_eq_getElem hj2];rfl
 rw [e,Bool.eq_iff_iff,beq_iff_eq,beq_iff_eq,Option.some.injEq]
 constructor
 ·intro h;exact UInt8.toNat_inj.1 (by have:(s[j]'hlt).toNat=47:=by omega
                                      rw [this];rfl)
 ·intro h;rw [h];rfl
theorem slash_none (s:ByteArray) (h:s.size=0):M.slash (tl s)=false:=by
 have:tl s= []:=List.length_eq_zero_iff.1 h
 rw [this];rfl
theorem refEnds_any (s:ByteArray) (hs:s.size≤1048576) (w:World):Calls Tryz.prog 39 #[.string s] w fun e w'=>e= .returned (.bool (M.slash (tl s)))∧w=w':=by
 by_cases h0:s.size=0
 ·have d0:decide (0<s.size)=false:=by rw [decide_eq_false_iff_not];omega
  have HE:=hid (slash_none s h0)
  have hz:(s.size:Int)=0:=by omega
  clear h0 hs
  go_enter Tryz.func39,Tryz.ntmps39
  go_wp2
  go_ret
  exact ⟨ret_boolT HE.out.symm,rfl⟩
 ·obtain ⟨j,hj⟩: ∃ j,s.size=j+1:=⟨s.size - 1,by omega⟩
  have hjs:j<s.size:=by omega
  have HE:=hid (slash_last s j hjs hj)
  have d0:decide (0<s.size)=true:=by rw [decide_eq_true_eq];omega
  have hw:IntKind.i64.wrap ((s.size:Int) - 1)=(j:Int):=by rw [IntWalk.i64_in _ (by omega)];omega
  clear h0 hj
  go_enter Tryz.func39,Tryz.ntmps39
  go_wp2
  go_ret
  exact ⟨ret_boolT (by rw [←HE.out]),rfl⟩
theorem byte_nil (s:ByteArray) (k:Nat) (h:k<s.size):(((s[k]'h).toNat:Int)==0)=((tl s)[k]'h==0):=by
 have e:(tl s)[k]'h=s[k]'h:=rfl
 rw [e,Bool.eq_iff_iff,beq_iff_eq,beq_iff_eq]
 constructor
 ·intro h2;exact UInt8.toNat_inj.1 (by have:(s[k]'h).toNat=0:=by omega
                                       rw [this];rfl)
 ·intro h2;rw [h2];rfl
set_option maxHeartbeats 1000000 in
theorem refNought_any (s:ByteArray) (hs:s.size≤1048576) (w:World):Calls Tryz.prog 38 #[.string s] w fun e w'=>e= .returned (.bool (!M.noNul (tl s)))∧w=w':=by
 have hlen:(tl s).length=s.size:=rfl
 unfold M.noNul
 go_enter Tryz.func38,Tryz.ntmps38
 go_wp2
 go_loopw [3] (fun iv wr=> ∃ (k:Nat),iv= .int .i64 k∧k≤s.size∧Hid (((tl s).take k).all (fun c=> !(c==0))=true)∧w=wr) (fun iv _=>s.size - (intOf iv).toNat)
 case atStart=>exact ⟨0,rfl,by omega,hid rfl,rfl⟩
 case round=>
  obtain ⟨k,rfl,hk,HN,rfl⟩:=hrel
  by_cases hlt:k<s.size
  ·have HB:=hid (byte_nil s k hlt)
   have hkl:k<(tl s).length:=hlt
   have hnx:=IntWalk.i64_in ((k:Int)+1) (by omega)
   cases hc:((tl s)[k]'hlt==0) with
   |true=>
    have d0:(((s[k]'hlt).toNat:Int)==0)=true:=by rw [HB.out];exact hc
    have HE:=hid (Px.all_not (p:=fun c=> !(c==0)) hkl (by have h:=hc;simp at h⊢;exact h))
    clear hc
    go_wp2
    go_ret
    exact ⟨ret_boolT (by rw [HE.out];rfl),rfl⟩
   |false=>
    have d0:(((s[k]'hlt).toNat:Int)==0)=false:=by rw [HB.out];exact hc
    have HN2:=hid (Px.all_take_succ (p:=fun c=> !(c==0)) hkl HN.out (by have h:=hc;simp at h⊢;exact h))
    clear hc
    go_wp2
    go_roundw
    case rel=>exact ⟨k+1,by go_num,by omega,HN2,by first|rfl|trivial⟩
    case measure=>simp [intOf];omega
  ·obtain rfl:k=s.size:=by omega
   have HE:=hid HN.out
   rw [←hlen,List.take_length] at HE
   go_wp2
   go_ret
   exact ⟨ret_boolT (by rw [HE.out];rfl),rfl⟩
end Go.Proofs.YtgbgngdakkiclaaGreatDoor

namespace Go.Proofs.YtgbgngdakkiclaaGreatDoor
namespace M
open Px (tl R2 ltB ltB_ord)
open Px.M (Rc find merge Rising puts put hasValue)
theorem put_at {r:Rc} : ∀ {out:List Rc} {k:Nat},Rising ltB out→(∀ x∈out,x.1≠r.1)→k≤out.length→(∀ j x,k≤j→out[j]?=some x→ltB r.1 x.1=true)→(∀ x,0<k→out[k - 1]?=some x→ltB r.1 x.1=false)→
  put ltB out r=out.take k++r::out.drop k
 | [],k,_,_,hk,_,_=>by
   have:k=0:=by simpa using hk
   subst this
   rfl
 |x::l,0,hr,hne,_,h1,_=>by
  have hx:ltB r.1 x.1=true:=h1 0 x (Nat.le_refl _) rfl
  have hnx:ltB x.1 r.1=false:=by
   cases h:ltB x.1 r.1 with
   |false=>rfl
   |true=>have:=ltB_ord.tr _ _ _ h hx;rw [ltB_ord.irr] at this;cases this
  unfold put
  rw [hnx,if_neg (by simp),if_neg (hne x List.mem_cons_self)]
  rfl
 |x::l,k+1,hr,hne,hk,h1,h2=>by
  have key: ∀ y∈x::l,ltB r.1 y.1=false→ltB y.1 r.1=true:=by
   intro y hy hf
   cases h:ltB y.1 r.1 with
   |true=>rfl
   |false=>exact absurd (ltB_ord.tot _ _ h hf) (hne y hy)
  have hx:ltB x.1 r.1=true:=by
   cases k with
   |zero=>exact key x List.mem_cons_self (h2 x (by omega) rfl)
   |succ k=>
    have hkl:k<l.length:=by have:k+1+1≤l.length+1:=hk;omega
    have hm:l[k]∈l:=List.getElem_mem hkl
    have h3:=key l[k] (List.mem_cons_of_mem _ hm) (h2 l[k] (by omega) (by simp [hkl]))
    exact ltB_ord.tr _ _ _ (hr.1 _ hm) h3
  unfold put
  rw [hx,if_pos rfl,put_at (k:=k) hr.2 (fun y hy=>hne y (List.mem_cons_of_mem _ hy)) (by simpa using hk) (fun j y hj hy=>h1 (j+1) y (by omega) (by simpa using hy)) (fun y h0 hy=>h2 y (by omega) (by
   obtain ⟨q,rfl⟩: ∃ q,k=q+1:=⟨k - 1,by omega⟩
   simpa using hy))]
  rfl
theorem puts_snoc (l m:List Rc) (r:Rc):puts ltB l (m++ [r])=put ltB (puts ltB l m) r:=by simp [puts]
theorem puts_mem {r:Rc} : ∀ {m l:List Rc},r∈puts ltB l m→r∈l∨r∈m
 | [],l,h=> .inl h
 |x::m,l,h=>by
  rcases puts_mem (m:=m) (l:=put ltB l x) h with h|h
  ·rcases Px.M.put_mem h with rfl|h
   ·exact .inr List.mem_cons_self
   ·exact .inl h
  ·exact .inr (List.mem_cons_of_mem _ h)
def Apart (l:List Rc):Prop:=(l.map Prod.fst).Nodup
theorem apart_next {l:List Rc} (h:Apart l) {k:Nat} (hk:k<l.length): ∀ x∈puts ltB [] (l.take k),x.1≠(l[k]).1:=by
 intro x hx e
 rcases puts_mem hx with hx|hx
 ·cases hx
 ·have h2:Apart (l.take (k+1)):=List.Nodup.sublist ((List.take_sublist _ _).map _) h
  unfold Apart at h2
  rw [List.take_succ_eq_append_getElem hk,List.map_append,List.nodup_append] at h2
  exact h2.2.2 x.1 (List.mem_map_of_mem hx) (l[k]).1 (by simp) e
theorem puts_merge {l m:List Rc} (hv: ∀ r∈l++m,r.2≠ []):puts ltB [] (l++m)=merge ltB l m:=by
 unfold merge
 rw [←Px.M.puts_app]
 refine (List.filter_eq_self.2 fun r hr=> ?_).symm
 rcases puts_mem hr with h|h
 ·cases h
 ·have:=hv r h
  unfold hasValue
  simpa using this
theorem sub_if {c:Prop} [Decidable c] (k v:List UInt8):((if c then [] else [(k,v)]:List Rc).map Prod.fst).Sublist [k]:=by
 split
 ·exact List.nil_sublist _
 ·exact List.Sublist.refl _
theorem gives_apart (m:Met):Apart (gives m):=by
 have h:((gives m).map Prod.fst).Sublist keys:=by
  unfold gives
  simp only [List.map_append]
  have e:keys= [tl kPath]++([tl kLink]++([tl kUser]++([tl kGroup]++([tl kUid]++([tl kGid]++([tl kSize]++([tl kTime]++ [tl kMap,tl kReal]))))))):=rfl
  rw [e]
  refine List.Sublist.append (sub_if _ _) (List.Sublist.append (sub_if _ _) (List.Sublist.append (sub_if _ _) (List.Sublist.append (sub_if _ _) (List.Sublist.append (sub_if _ _) (List.Sublist.append (sub_if _ _) (List.Sublist.append (sub_if _ _) (List.Sublist.append (sub_if _ _) ?_)))))))
  unfold gHoles
  split
  ·exact List.Sublist.refl _
  ·exact List.nil_sublist _
 exact List.Nodup.sublist h (by decide)
theorem gives_known (m:Met): ∀ r∈gives m,isKey r.1=true:=by
 intro r hr
 cases hk:isKey r.1 with
 |true=>rfl
 |false=>
  have h:=find_unknown m hk
  have:find (gives m) r.1≠none:=by
   generalize gives m=l at hr
   clear h hk
   induction l with
   |nil=>cases hr
   |cons x l ih=>
    rw [Px.M.find_cons]
    rcases List.mem_cons.1 hr with rfl|hr
    ·cases find l r.1<;>simp
    ·have:=ih hr
     cases hf:find l r.1 with
     |none=>exact absurd hf this
     |some v=>simp
  exact absurd h this
theorem rising_apart: ∀ {l:List Rc},Rising ltB l→Apart l
 | [],_=>List.nodup_nil
 |x::l,h=>by
  unfold Apart
  rw [List.map_cons,List.nodup_cons]
  refine ⟨fun hm=> ?_,rising_apart h.2⟩
  obtain ⟨y,hy,e⟩:=List.mem_map.1 hm
  have:=h.1 y hy
  rw [e,ltB_ord.irr] at this
  cases this
theorem all_apart {m:Met} (R:Right m):Apart (gives m++m.extra.map rc):=by
 unfold Apart
 rw [List.map_append,List.nodup_append]
 refine ⟨gives_apart m,rising_apart (extra_rising R.extra), ?_⟩
 intro a ha b hb e
 obtain ⟨x,hx,rfl⟩:=List.mem_map.1 ha
 obtain ⟨y,hy,rfl⟩:=List.mem_map.1 hb
 have h1:=gives_known m x hx
 have h2:=(extra_unknown R y hy).1
 rw [e,h2] at h1
 cases h1
theorem gives_value {m:Met} (R:Right m): ∀ r∈gives m,r.2≠ []:=by
 have pos: ∀ {s:ByteArray} {n:Nat},n<s.size→tl s≠ []:=by
  intro s n h e
  have:s.size=0:=congrArg List.length e
  omega
 intro r hr
 unfold gives at hr
 simp only [List.mem_append] at hr
 have one: ∀ {c:Prop} [Decidable c] {k v:List UInt8},r∈(if c then [] else [(k,v)]:List Rc)→(¬ c→v≠ [])→r.2≠ []:=by
  intro c _ k v h hv
  split at h
  ·cases h
  ·rename_i hc
   rw [List.mem_singleton] at h
   subst h
   exact hv hc
 rcases hr with h|h|h|h|h|h|h|h|h
 ·exact one h fun hc=>pos (long_name (by simpa using hc))
 ·exact one h fun hc=>pos (Nat.lt_of_not_le hc)
 ·exact one h fun hc=>pos (Nat.lt_of_not_le hc)
 ·exact one h fun hc=>pos (Nat.lt_of_not_le hc)
 ·exact one h fun _=>itoa_ne R.uid.1
 ·exact one h fun _=>itoa_ne R.gid.1
 ·exact one h fun _=>itoa_ne R.size.1
 ·exact one h fun _=>pr_ne _
 ·unfold gHoles at h
  split at h
  ·rename_i hh
   rcases List.mem_cons.1 h with rfl|h
   ·exact layout_ne _
   ·rw [List.mem_singleton] at h
    subst h
    refine itoa_ne ?_
    have hc:=(R.holes hh).2.2
    unfold Sp.M.check at hc
    split at hc
    ·cases hc
    ·split at hc
     ·cases hc
     ·rename_i h2;omega
  ·cases h
theorem puts_recs {m:Met} (R:Right m):puts ltB [] (gives m++m.extra.map rc)=recsOf m:=puts_merge fun r hr=>by
 rcases List.mem_append.1 hr with h|h
 ·exact gives_value R r h
 ·exact (extra_unknown R r h).2
end M
end Go.Proofs.YtgbgngdakkiclaaGreatDoor

set_option linter.unusedVariables false
set_option linter.unusedSimpArgs false
namespace Go.Proofs.YtgbgngdakkiclaaGreatDoor.Nm
open Go.RowKit Go.Lib
set_option maxHeartbeats 400000 in
theorem putOctalRef_any (n wide:Int) (w:World):
  Calls Tryz.prog 51 #[.int .i64 n, .int .i64 wide] w (PutPost w (M.octFits n wide) (M.octR n wide)):=by
 by_cases h:2≤wide∧wide≤32∧0≤n∧n≤4611686018427387904
 ·obtain ⟨h1,h2,h3,h4⟩:=h
  obtain ⟨N,rfl⟩:=Int.eq_ofNat_of_zero_le (by omega:0≤wide)
  exact putOctalRef_go n N w (by omega) (by omega) h3 h4
 ·rw [octR_no (octFits_no h),octFits_no h]
  by_cases h1:wide<2
  ·have e1:decide (wide<2)=true:=by simpa using h1
   clear h h1
   go_enter Tryz.func51,Tryz.ntmps51
   go_wp2
   go_ret2
   exact PutPost.none_ (Below.refl _ _)
  ·have e1:decide (wide<2)=false:=by simpa using h1
   by_cases h2:32<wide
   ·have e2:decide (32<wide)=true:=by simpa using h2
    clear h h1 h2
    go_enter Tryz.func51,Tryz.ntmps51
    go_wp2
    go_ret2
    exact PutPost.none_ (Below.refl _ _)
   ·have e2:decide (32<wide)=false:=by simpa using h2
    by_cases h3:n<0
    ·have e3:decide (n<0)=true:=by simpa using h3
     clear h h1 h2 h3
     go_enter Tryz.func51,Tryz.ntmps51
     go_wp2
     go_ret2
     exact PutPost.none_ (Below.refl _ _)
    ·have e3:decide (n<0)=false:=by simpa using h3
     have e4:decide (4611686018427387904<n)=true:=by rw [decide_eq_true_eq];omega
     clear h h1 h2 h3
     go_enter Tryz.func51,Tryz.ntmps51
     go_wp2
     go_ret2
     exact PutPost.none_ (Below.refl _ _)
end Go.Proofs.YtgbgngdakkiclaaGreatDoor.Nm

set_option linter.unusedVariables false
set_option linter.unusedSimpArgs false
namespace Go.Proofs.YtgbgngdakkiclaaGreatDoor.St
open Go.RowKit Go.Shelf
namespace M
theorem num_base: ∀ (l:List UInt8) (a:Nat),num l a=a*10^l.length+num l 0
 | [],a=>by simp [num]
 |c::l,a=>by
  show num l (10*a+(c.toNat - 48))=a*10^(l.length+1)+num l (10*0+(c.toNat - 48))
  rw [num_base l (10*a+(c.toNat - 48)),num_base l (10*0+(c.toNat - 48)),Nat.pow_succ]
  rw [Nat.add_mul,Nat.mul_zero,Nat.zero_add,Nat.mul_comm 10 a,Nat.mul_assoc,Nat.mul_comm 10 (10^l.length)]
  omega
theorem dec_billion {n:Nat} (h:n<1000000000):Lib.decDigits (1000000000+n)=49::pad9 n:=by
 have hl:=pad9_len h
 have hnum:num (49::pad9 n) 0=1000000000+n:=by
  show num (pad9 n) (10*0+(49 - 48))=_
  rw [num_base,hl,pad9_num]
 have hnd:Lib.nDigits (1000000000+n)=10:=Lib.nDigits_unique 9 _ (by omega) (by omega)
 have:=dec_of_num 10 (49::pad9 n) (by rw [List.length_cons,hl]) (by simp) (by rw [List.all_cons,pad9_all];rfl) (by rw [List.length_cons,hl,hnum,hnd])
 rw [hnum] at this
 exact this.symm
theorem trim_snoc0 (g:List UInt8):trim0 (g++ [48])=trim0 g:=by unfold trim0;simp
theorem trim_snoc {g:List UInt8} {c:UInt8} (h:c≠48):trim0 (g++ [c])=g++ [c]:=by
 unfold trim0
 rw [List.reverse_append,List.reverse_singleton,List.singleton_append,List.dropWhile_cons]
 have:(c==48)=false:=by simpa using h
 rw [this]
 simp
end M
def strSize:Value→Nat
 | .string r=>r.size
 |_=>0
theorem byte_ne {c d:UInt8} (h:c≠d):((c.toNat:Int)==(d.toNat:Int))=false:=by
 rw [beq_eq_false_iff_ne]
 intro e
 exact h (UInt8.toNat_inj.1 (by omega))
theorem split_last {r:ByteArray} {L:Nat} (hL:r.size=L+1):tl r=(tl r).take L++ [r[L]'(by omega)]:=by
 have h:=List.take_append_drop L (tl r)
 have hl:L<(tl r).length:=by rw [tl_len];omega
 have e:(tl r).drop L= [r[L]'(by omega)]:=by
  rw [List.drop_eq_getElem_cons hl,List.drop_of_length_le (by rw [tl_len];omega)]
  rfl
 rw [e] at h
 exact h.symm
theorem ext_take (r:ByteArray) (L:Nat):tl (r.extract 0 L)=(tl r).take L:=by
 show (r.extract 0 L).data.toList=_
 simp [ByteArray.data_extract,tl]
theorem ext_tail (r:ByteArray):tl (r.extract 1 r.size)=(tl r).drop 1:=by
 show (r.extract 1 r.size).data.toList=_
 simp [ByteArray.data_extract,tl]
 rw [List.take_of_length_le]
 simp
set_option maxRecDepth 100000 in
set_option maxHeartbeats 4000000 in
theorem refPrint_any (S n:Int) (B:Nat) (w:World) (hB:B≤w.heap.size) (ht:TB B w):Calls Tryz.prog 52 #[.agg #[.int .i64 S, .int .i64 n]] w (TextIs (M.pr (M.norm (S,n))) w):=by
 have C1:=fun W=>refNorm_to S n W
 have hok:=M.norm_ok (S,n)
 generalize M.norm (S,n)=t at*
 obtain ⟨p1,p2⟩:=t
 obtain ⟨a1,a2,a3,a4,a5⟩:=M.sgn_parts hok
 obtain ⟨o1,o2,o3,o4⟩:=hok
 dsimp only at o1 o2 o3 o4
 have he:M.pr (p1,p2)=(if M.below0 (p1,p2)=true then [45] else [])++(Lib.decDigits (M.sgn (M.below0 (p1,p2)) (p1,p2)).1.toNat++M.fracText (M.sgn (M.below0 (p1,p2)) (p1,p2)).2.toNat):=rfl
 have hb0:M.below0 (p1,p2)=decide (p1<0):=rfl
 have hq:M.below0 (p1,p2)=true→M.sgn (M.below0 (p1,p2)) (p1,p2)=M.opp (p1,p2):=fun h=>by unfold M.sgn;rw [if_pos h]
 have hq2:M.below0 (p1,p2)=false→M.sgn (M.below0 (p1,p2)) (p1,p2)=(p1,p2):=fun h=>by unfold M.sgn;rw [if_neg (by rw [h];decide)]
 generalize M.below0 (p1,p2)=b at*
 generalize M.sgn b (p1,p2)=q at*
 obtain ⟨A,N⟩:=q
 dsimp only at a1 a2 a3 a4 a5 he
 obtain ⟨A',rfl⟩: ∃ A':Nat,A=A':=⟨A.toNat,by omega⟩
 obtain ⟨N',rfl⟩: ∃ N':Nat,N=N':=⟨N.toNat,by omega⟩
 rw [Int.toNat_natCast,Int.toNat_natCast] at he
 have hd1:Lib.nDigits A'≤15:=M.dec_len (by omega) (by omega)
 have CA:=fun B' W h=>itoa_any A' (by omega) B' W h
 have CN:=fun B' W h=>itoa_any (1000000000+N') (by omega) B' W h
 have e10:((1000000000+N':Nat):Int)=1000000000+(N':Int):=by omega
 rw [e10] at CN
 have HT:=Lib.hid (ht.up hB)
 have H1:=Lib.hid C1
 have HCA:=Lib.hid CA
 have HCN:=Lib.hid CN
 have HE:=Lib.hid he
 clear C1 CA CN he ht e10
 by_cases hN0:p2=0
 case' pos=>
  have hN':N'=0:=by have:=a5.2 hN0;omega
  subst hN0
  subst hN'
  have hfr:M.fracText 0= []:=rfl
  rw [hfr] at HE
  clear hfr
 case' neg=>
  have hNp:0<N':=by
   rcases Nat.eq_zero_or_pos N' with h0|h0
   ·exact absurd (a5.1 (by omega)) hN0
   ·exact h0
  have hfr:M.fracText N'=46::M.trim0 (M.pad9 N'):=by unfold M.fracText;rw [if_neg (by omega)]
  rw [hfr] at HE
  have k5:((N':Int)==0)=false:=by simp;omega
  have k6:decide (p2>0)=true:=by rw [decide_eq_true_eq];omega
  clear hfr
 all_goals
  clear a5
  cases b
  case' false=>
   have hpq:=hq2 rfl
   simp only [Prod.mk.injEq] at hpq
   have k0:decide (p1<0)=false:=hb0.symm
  case' true=>
   have hpq:=hq rfl
   have k0:decide (p1<0)=true:=hb0.symm
   unfold M.opp at hpq
 case pos.false=>
  obtain ⟨rfl,_⟩:=hpq
  clear hq hq2 hb0
  go_enter Tryz.func52,Tryz.ntmps52
  go_wp2_with fail
  refine (H1.out _).mono ?_
  rintro e w1 ⟨rfl,rfl⟩
  dsimp only
  go_wp2_with fail
  refine (HCA.out w.heap.size _ (HT.out.on (below3 _ _ _ _))).mono ?_
  rintro e w2 ⟨x,rfl,hx,hxs,hb2⟩
  have b2:Below w.heap.size w w2:=(below3 _ _ _ _).trans (hb2.mono (by simp;omega))
  have hxz:x.size≤15:=by rw [hxs];exact hd1
  have HX:=Lib.hid hx
  clear hb2 hx hxs
  go_wp2
  go_ret
  refine ⟨ret_text ?_,b2⟩
  rw [HE.out,tl_append,HX.out,List.append_nil]
  rfl
 case pos.true=>
  rw [if_pos rfl] at hpq
  simp only [Prod.mk.injEq] at hpq
  obtain ⟨hA,_⟩:=hpq
  have hA': -p1=(A':Int):=hA.symm
  clear hq hq2 hb0 hA
  go_enter Tryz.func52,Tryz.ntmps52
  go_wp2_with fail
  refine (H1.out _).mono ?_
  rintro e w1 ⟨rfl,rfl⟩
  dsimp only
  go_wp2_with fail
  refine (HCA.out w.heap.size _ (HT.out.on (below3 _ _ _ _))).mono ?_
  rintro e w2 ⟨x,rfl,hx,hxs,hb2⟩
  have b2:Below w.heap.size w w2:=(below3 _ _ _ _).trans (hb2.mono (by simp;omega))
  have hxz:x.size≤15:=by rw [hxs];exact hd1
  have HX:=Lib.hid hx
  clear hb2 hx hxs
  go_wp2
  go_ret
  refine ⟨ret_text ?_,b2⟩
  rw [HE.out,tl_append,HX.out,List.append_nil]
  rfl
 case' neg.false=>
  obtain ⟨hpA,hpN⟩:=hpq
  subst hpA
  subst hpN
  clear hq hq2 hb0
  go_enter Tryz.func52,Tryz.ntmps52
  go_wp2_with fail
  refine (H1.out _).mono ?_
  rintro e w1 ⟨rfl,rfl⟩
  dsimp only
  go_wp2_with fail
  refine (HCA.out w.heap.size _ (HT.out.on (below3 _ _ _ _))).mono ?_
  rintro e w2 ⟨x,rfl,hx,hxs,hb2⟩
 case' neg.true=>
  rw [if_neg hN0] at hpq
  simp only [Prod.mk.injEq] at hpq
  obtain ⟨hA,hN⟩:=hpq
  have hA': -p1 - 1=(A':Int):=hA.symm
  have hN':1000000000 - p2=(N':Int):=hN.symm
  clear hq hq2 hb0 hA hN
  go_enter Tryz.func52,Tryz.ntmps52
  go_wp2_with fail
  refine (H1.out _).mono ?_
  rintro e w1 ⟨rfl,rfl⟩
  dsimp only
  go_wp2_with fail
  refine (HCA.out w.heap.size _ (HT.out.on (below3 _ _ _ _))).mono ?_
  rintro e w2 ⟨x,rfl,hx,hxs,hb2⟩
 all_goals
  have b2:Below w.heap.size w w2:=(below3 _ _ _ _).trans (hb2.mono (by simp;omega))
  have hxz:x.size≤15:=by rw [hxs];exact hd1
  have HX:=Lib.hid hx
  clear hb2 hx hxs
  go_wp2_with fail
  refine (HCN.out w.heap.size _ (HT.out.on b2)).mono ?_
  rintro e w3 ⟨y,rfl,hy,hys,hb3⟩
  have b3:=b2.trans (hb3.mono b2.size)
  rw [M.dec_billion (by omega)] at hy
  have hy10:y.size=10:=by rw [←tl_len,hy,List.length_cons,M.pad9_len (by omega)]
  have hr0:tl (y.extract 1 y.size)=M.pad9 N':=by rw [ext_tail,hy];rfl
  have hrs:(y.extract 1 y.size).size=9:=by rw [←tl_len,hr0,M.pad9_len (by omega)]
  have hy1:(1:Int)≤(y.size:Int):=by omega
  have HR0:=Lib.hid hr0
  have HRS:=Lib.hid hrs
  have hne:=M.trim_ne hNp
  have HNE:=Lib.hid hne
  have htl:=M.trim_len (n:=N') (by omega)
  clear hy hys hy10 hr0 hrs hne hb3 HCA HCN H1
  go_wp2_with fail
  go_loop [6] (fun v=> ∃ r:ByteArray,v= .string r∧Hid (M.trim0 (tl r)=M.trim0 (M.pad9 N'))∧r.size≤9) (fun v=>strSize v)
  case atStart=>exact ⟨_,rfl,Lib.hid (by rw [HR0.out]),by rw [HRS.out];exact Nat.le_refl _⟩
  case round=>
   obtain ⟨r,rfl,hT,hr9⟩:=hrel
   have hr0:0<r.size:=by
    rcases Nat.eq_zero_or_pos r.size with h0|h0
    ·exfalso
     have h1:=hT.out
     rw [List.eq_nil_of_length_eq_zero (show (tl r).length=0 by rw [tl_len];exact h0)] at h1
     exact HNE.out h1.symm
    ·exact h0
   obtain ⟨L,hL⟩: ∃ L,r.size=L+1:=⟨r.size - 1,by omega⟩
   have hs:=split_last hL
   have hLs:L<r.size:=by omega
   have l3:(r.size:Int) - 1=(L:Int):=by omega
   have l4:IntKind.i64.wrap (L:Int)=L:=by
    rw [IntKind.wrap_i64]
    omega
   have l5:(L:Int)≤(r.size:Int):=by omega
   by_cases hc:r[L]'hLs=48
   ·have hT2:M.trim0 (tl (r.extract 0 L))=M.trim0 (M.pad9 N'):=by
     rw [ext_take,←hT.out]
     conv=>rhs;rw [hs,hc,M.trim_snoc0]
    have HT2:=Lib.hid hT2
    have k7:(((r[L]'hLs).toNat:Int)==48)=true:=by rw [hc];rfl
    have hsz:(r.extract 0 L).size=L:=by rw [←tl_len,ext_take,List.length_take,tl_len];omega
    have HSZ:=Lib.hid hsz
    clear hT hT2 hs hc hL hsz hr0
    go_wp2
    go_round
    case rel=>exact ⟨_,rfl,HT2,by rw [HSZ.out];omega⟩
    case measure=>simp only [strSize];rw [HSZ.out];omega
   ·have hfin:tl r=M.trim0 (M.pad9 N'):=by
     rw [←hT.out]
     conv=>rhs;rw [hs,M.trim_snoc hc]
     exact hs
    have HF:=Lib.hid hfin
    have k7:(((r[L]'hLs).toNat:Int)==48)=false:=byte_ne (d:=48) hc
    clear hT hfin hs hc hL hr0
    go_wp2
    go_ret
    refine ⟨ret_text ?_,b3⟩
    rw [HE.out,tl_append,tl_append,tl_append,HX.out,HF.out]
    simp [tl]
end Go.Proofs.YtgbgngdakkiclaaGreatDoor.St

set_option linter.unusedVariables false
set_option linter.unusedSimpArgs false
namespace Go.Proofs.YtgbgngdakkiclaaGreatDoor.Sp
open Go.RowKit Go.Lib
set_option maxRecDepth 100000 in
set_option maxHeartbeats 1000000 in
theorem refCheck_any (A:Option Addr) (n c:Nat) (l:List M.Pt) (stored real:Int) (w:World) (hr:RdP w w.heap.size A n l) (hi:M.i64s l) (hn:n≤1048576):
  Calls Tryz.prog 46 #[.slice A n c, .int .i64 stored, .int .i64 real] w fun e w'=>e= .returned (.int .i64 (M.check l stored real))∧Below w.heap.size w w':=by
 have HL:=hid hr.len
 have HR:=hid hr
 have HI:=hid hi
 clear hr hi
 by_cases hlong:1000<n
 ·have HE:=hid (M.check_long (l:=l) stored real (by rw [HL.out];exact hlong))
  have d1:decide ((1000:Int)<(n:Int))=true:=by rw [decide_eq_true_eq];omega
  go_enter Tryz.func46,Tryz.ntmps46
  go_wp2
  go_ret
  exact ⟨by rw [HE.out];rfl,Below.refl _ _⟩
 have HLo:=hid (show ¬ 1000<l.length by rw [HL.out];exact hlong)
 have d1:decide ((1000:Int)<(n:Int))=false:=by rw [decide_eq_false_iff_not];omega
 by_cases hreal:real<0∨1099511627776<real
 ·have HE:=hid (M.check_real (l:=l) stored HLo.out hreal)
  by_cases h0:real<0
  case' pos=>have d2:decide (real<0)=true:=by rw [decide_eq_true_eq];exact h0
  case' neg=>
   have d2:decide (real<0)=false:=by rw [decide_eq_false_iff_not];exact h0
   have d3:decide (1099511627776<real)=true:=by rw [decide_eq_true_eq];omega
  all_goals
   clear hreal h0
   go_enter Tryz.func46,Tryz.ntmps46
   go_wp2
   go_ret
   exact ⟨by rw [HE.out];rfl,Below.refl _ _⟩
 have HE:=hid (M.check_walk (l:=l) stored HLo.out hreal)
 have h0:0≤real:=by omega
 have h1:real≤1099511627776:=by omega
 have d2:decide (real<0)=false:=by rw [decide_eq_false_iff_not];omega
 have d3:decide (1099511627776<real)=false:=by rw [decide_eq_false_iff_not];omega
 clear hreal
 go_enter Tryz.func46,Tryz.ntmps46
 go_wp2
 go_loopw [7,8,9] (fun e s i wr=>Hid (Below w.heap.size w wr)∧ ∃ (k:Nat) (en sn:Int),i= .int .i64 k∧e= .int .i64 en∧s= .int .i64 sn∧k≤n∧0≤en∧en≤real∧0≤sn∧sn≤en∧Hid (M.walk real 0 0 l=M.walk real en sn (l.drop k))) (fun _ _ i _=>n - (RowKit.intOf i).toNat)
 case atStart=>exact ⟨hid (Below.refl _ _),0,0,0,rfl,rfl,rfl,Nat.zero_le _,Int.le_refl _,h0,Int.le_refl _,Int.le_refl _,hid rfl⟩
 case round=>
  obtain ⟨HB,k,en,sn,rfl,rfl,rfl,hk,he0,he1,hs0,hs1,HW⟩:=hrel
  by_cases hlt:k<n
  ·obtain ⟨b,off,⟨p,q⟩,rfl,hb,hp,hc1,hc2⟩:=(HR.out.below HB.out).at_ hlt
   dsimp only at hc1 hc2
   have HST:=hid (fun h1=>M.walk_step HW.out hp h1)
   have HBD:=hid (fun h1=>M.walk_bad HW.out hp h1)
   obtain ⟨⟨p0,p1⟩,q0,q1⟩:=HI.out _ (List.mem_of_getElem? hp)
   clear hp
   dsimp only at HST HBD p0 p1 q0 q1
   obtain ⟨kk,hkk⟩: ∃ kk,kk=k+1:=⟨_,rfl⟩
   rw [←hkk] at HST
   by_cases hbad:p<en∨q<0∨real - p<q
   ·have HE2:=hid (show M.check l stored real=11 by rw [HE.out,HBD.out hbad];rfl)
    clear HST HBD
    by_cases c1:p<en
    case' pos=>have d4:decide (p<en)=true:=by rw [decide_eq_true_eq];exact c1
    case' neg=>
     have d4:decide (p<en)=false:=by rw [decide_eq_false_iff_not];exact c1
     by_cases c2:q<0
     case' pos=>have d5:decide (q<0)=true:=by rw [decide_eq_true_eq];exact c2
     case' neg=>
      have d5:decide (q<0)=false:=by rw [decide_eq_false_iff_not];exact c2
      by_cases c3:real<p
      case' pos=>have d6:decide (real<p)=true:=by rw [decide_eq_true_eq];exact c3
      case' neg=>
       have d6:decide (real<p)=false:=by rw [decide_eq_false_iff_not];exact c3
       have d7:decide (real - p<q)=true:=by rw [decide_eq_true_eq];omega
    all_goals
     by_cases hk0:k=0
     case' pos=>
      subst hk0
      simp only [Nat.zero_mul,Nat.add_zero] at hc1 hc2
     case' neg=>have hk1:0<k:=by omega
     all_goals
      go_wp2_with fail
      go_quiet (fail)
      go_wp2
      go_ret
      exact ⟨by rw [HE2.out];rfl,below_drewN' HB.out _⟩
   ·have HST2:=hid (HST.out hbad)
    have c1: ¬ p<en:=by omega
    have c2: ¬ q<0:=by omega
    have c3: ¬ real - p<q:=by omega
    have d4:decide (p<en)=false:=by rw [decide_eq_false_iff_not];exact c1
    have d5:decide (q<0)=false:=by rw [decide_eq_false_iff_not];exact c2
    have d6:decide (real<p)=false:=by rw [decide_eq_false_iff_not];omega
    have d7:decide (real - p<q)=false:=by rw [decide_eq_false_iff_not];exact c3
    clear hbad HST HBD
    by_cases hk0:k=0
    case' pos=>
     subst hk0
     simp only [Nat.zero_mul,Nat.add_zero] at hc1 hc2
    case' neg=>have hk1:0<k:=by omega
    all_goals
     go_wp2_with fail
     go_quiet (fail)
     go_wp2_with fail
     go_quiet (fail)
     go_wp2
     go_roundw
     case rel=>exact ⟨hid (below_drewN' HB.out _),kk,p+q,sn+q,(by subst hkk;first|rfl|go_num),by go_num,by go_num,by omega,by omega,by omega,by omega,by omega,HST2⟩
     case measure=>simp [RowKit.intOf];omega
  ·obtain rfl:k=n:=by omega
   have HN:=hid (show M.walk real 0 0 l=some (en,sn) from M.walk_end (by rw [HL.out];exact HW.out))
   have d8:decide (k<k)=false:=by simp
   by_cases hs:sn=stored
   ·have d7:(sn !=stored)=false:=by simpa using hs
    have HE2:=hid (show M.check l stored real=0 by rw [HE.out,HN.out];show (if sn=stored then (0:Int) else 11)=0;rw [if_pos hs])
    clear hs hlt
    go_wp2
    go_ret
    exact ⟨by rw [HE2.out];rfl,HB.out⟩
   ·have d7:(sn !=stored)=true:=by simpa using hs
    have HE2:=hid (show M.check l stored real=11 by rw [HE.out,HN.out];show (if sn=stored then (0:Int) else 11)=11;rw [if_neg hs])
    clear hs hlt
    go_wp2
    go_ret
    exact ⟨by rw [HE2.out];rfl,HB.out⟩
end Go.Proofs.YtgbgngdakkiclaaGreatDoor.Sp
set_option linter.unusedVariables false
set_option linter.unusedSimpArgs false
namespace Go.Proofs.YtgbgngdakkiclaaGreatDoor.Sp
open Go.RowKit
theorem wp_region_class {P:Program} {id:Nat} {Q:Exit→Act→World→Prop} {a:Act} {w:World} {l:List Oper} (C:World→Prop) (hm:P.follows .mixedOrders=true) (hB:Region.lexB .any l.toArray=true) (hC:C w.drew)
  (h:wpQuiet P l.toArray C (fun a'=> ∀ w',C w'→Q .normal a' w') l a):(Code.region id l.toArray true).wp P Q a w:=
 wp_region_quiet (C:=C) hm hB hC (by simpa using h)
end Go.Proofs.YtgbgngdakkiclaaGreatDoor.Sp
set_option linter.unusedVariables false
set_option linter.unusedSimpArgs false
namespace Go.Proofs.YtgbgngdakkiclaaGreatDoor.Sp
open Go.RowKit Go.Lib
attribute [local go_sem ↓] add_plain
def mkS (l:List UInt8):ByteArray:=⟨l.toArray⟩
theorem mkS_app (a b:List UInt8):mkS a++mkS b=mkS (a++b):=by
 apply tl_inj
 rw [tl_append]
 unfold mkS
 rw [tl_mk,tl_mk,tl_mk]
theorem mkS_size (a:List UInt8):(mkS a).size=a.length:=by unfold mkS;simp [ByteArray.size]
theorem mkS_comma:(⟨#[44]⟩:ByteArray)=mkS [44]:=rfl
set_option maxRecDepth 100000 in
theorem refNumber_any (x:Int) (h0: -9223372036854775808≤x) (h1:x≤9223372036854775807) (w:World) (ht:EV w.heap.size w):
  Calls Tryz.prog 74 #[.int .i64 x] w fun e w'=>e= .returned (.string (mkS (M.numT x)))∧Below w.heap.size w w':=by
 have e1:(max 0 (min x 9999999999999):Int)=M.clip13 x:=by unfold M.clip13;omega
 have HI:=hid (itoa_any (M.clip13 x) (by unfold M.clip13;omega) (by unfold M.clip13;omega) w.heap.size w ht)
 have HN:Hid (M.numT x=Lib.itoa (M.clip13 x)):=hid rfl
 generalize M.clip13 x=y at*
 go_enter Tryz.func74,Tryz.ntmps74
 go_wp2_with (go_at_call 54;(with_reducible refine HI.out.mono ?_);rintro e w1 ⟨rfl,hb1⟩)
 go_ret
 exact ⟨by rw [HN.out];rfl,hb1⟩
set_option maxRecDepth 100000 in
set_option maxHeartbeats 4000000 in
theorem refPrint_any (A:Option Addr) (n c:Nat) (l:List M.Pt) (w:World) (hr:RdP w w.heap.size A n l) (hi:M.i64s l) (hn:n≤3000) (ht:EV w.heap.size w):
  Calls Tryz.prog 53 #[.slice A n c] w fun e w'=>e= .returned (.string (mkS (M.print l)))∧Below w.heap.size w w':=by
 have HL:=hid hr.len
 have HR:=hid (fun (W:World) (hW:Below w.heap.size w W)=>hr.below hW)
 have HI:=hid hi
 have HT:=hid (fun (W:World) (hW:Below w.heap.size w W)=>(ht.on hW).up hW.size)
 have HE:Hid ((⟨#[]⟩:ByteArray)=mkS (M.print (l.take 0))):=hid rfl
 clear hr hi ht
 go_enter Tryz.func53,Tryz.ntmps53
 go_wp2
 go_loopw [3,4] (fun sv iv wr=> ∃ (k:Nat) (S:ByteArray),iv= .int .i64 k∧k≤n∧sv= .string S∧Hid (S=mkS (M.print (l.take k)))∧Hid (Below w.heap.size w wr)) (fun _ iv _=>n - (RowKit.intOf iv).toNat)
 case atStart=>exact ⟨0,_,rfl,Nat.zero_le _,rfl,HE,hid (Below.refl _ _)⟩
 case round=>
  obtain ⟨k,S,rfl,hk,rfl,HS,HB⟩:=hrel
  have hpl:=M.print_len (l.take k)
  rw [List.length_take,HL.out] at hpl
  have hS:S.size≤84000:=by rw [HS.out,mkS_size];omega
  by_cases hlt:k<n
  ·obtain ⟨b,off,⟨p,q⟩,rfl,hb,hp,hc1,hc2⟩:=(HR.out wr HB.out).at_ hlt
   obtain ⟨⟨hp0,hp1⟩,hq0,hq1⟩:=HI.out _ (List.mem_of_getElem? hp)
   dsimp only at hc1 hc2 hp0 hp1 hq0 hq1
   have d1:decide (k<n)=true:=by rw [decide_eq_true_eq];exact hlt
   obtain ⟨k1,hk1⟩: ∃ k1,k1=k+1:=⟨_,rfl⟩
   have htk:l.take (k+1)=l.take k++ [(p,q)]:=by
    obtain ⟨hkl,he⟩:=List.getElem?_eq_some_iff.1 hp
    rw [List.take_succ_eq_append_getElem hkl,he]
   have HPS:=hid (M.print_snoc (l.take k) (p,q))
   rw [←htk,←hk1] at HPS
   have HN1:=hid (fun (W:World) (hW:Below w.heap.size w W)=>refNumber_any p hp0 hp1 W (HT.out W hW))
   have HN2:=hid (fun (W:World) (hW:Below w.heap.size w W)=>refNumber_any q hq0 hq1 W (HT.out W hW))
   have hn1:(mkS (M.numT p)).size≤13:=by rw [mkS_size];exact M.numT_len p
   have hn2:(mkS (M.numT q)).size≤13:=by rw [mkS_size];exact M.numT_len q
   have HPT:Hid (M.ptT (p,q)=M.numT p++44::M.numT q):=hid rfl
   have C1:=hid (fun (W:World) (hW:Below w.heap.size wr W)=>(hW.cell (p:=⟨b,off+k*2,none⟩) hb).trans hc1)
   have C2:=hid (fun (W:World) (hW:Below w.heap.size wr W)=>(hW.cell (p:=⟨b,off+k*2+1,none⟩) hb).trans hc2)
   clear hp hc1 hc2 htk hpl
   by_cases hk0:k=0
   case' pos=>
    have HFS:=hid (show mkS (M.print (l.take k1))=S++mkS (M.numT p)++⟨#[44]⟩++mkS (M.numT q) by
     rw [HPS.out,if_pos (by rw [hk0];rfl),HPT.out,HS.out,hk0,show M.print (l.take 0)= [] from rfl,mkS_comma,mkS_app,mkS_app,mkS_app]
     simp)
    have d2:decide (0<k)=false:=by rw [decide_eq_false_iff_not];omega
   case' neg=>
    have HFS:=hid (show mkS (M.print (l.take k1))=S++⟨#[44]⟩++mkS (M.numT p)++⟨#[44]⟩++mkS (M.numT q) by
     rw [HPS.out,if_neg (by intro e;have:=congrArg List.length e;rw [List.length_take,HL.out,List.length_nil] at this;omega),HPT.out,HS.out,mkS_comma,mkS_app,mkS_app,mkS_app,mkS_app]
     simp)
    have d2:decide (0<k)=true:=by rw [decide_eq_true_eq];omega
   all_goals
    clear HPS HPT HS hk0
    go_wp2_with fail
    refine wp_region_class (fun W=>Below w.heap.size wr W) (by kernel_rfl) (by kernel_rfl) (below_drew' (Below.refl _ _)) ?_
    repeat
     refine wpQuiet_step (fun K hK=> ?_)
     go_simp
     first
      |(refine hK _ ?_;clear hK K)
      |(apply Exists.intro
        refine ⟨fun W hW=> ?_,hK _ ?_⟩
        ·first
          |with_reducible rfl
          |(have x1:=C1.out W hW;have x2:=C2.out W hW;go_simp;done)
          |(have x1:=C1.out W hW;have x2:=C2.out W hW;go_simp;with_reducible rfl)
          |(have x1:=C1.out W hW;have x2:=C2.out W hW;go_simp;rw [if_neg (by omega)];exact ⟨rfl,rfl⟩)
          |(go_at_call 74;(with_reducible refine (HN1.out W (HB.out.trans hW)).mono ?_);rintro e w' ⟨rfl,hb⟩;exact ⟨rfl,hW.trans (hb.mono (HB.out.trans hW).size)⟩)
          |(go_at_call 74;(with_reducible refine (HN2.out W (HB.out.trans hW)).mono ?_);rintro e w' ⟨rfl,hb⟩;exact ⟨rfl,hW.trans (hb.mono (HB.out.trans hW).size)⟩)
        clear hK K)
    refine wpQuiet_nil ?_
    intro w2 hb2
    go_wp2_with fail
    go_roundw
    case rel=>exact ⟨k1,_,(by subst hk1;first|rfl|go_num),by omega,rfl,hid (by rw [HFS.out]),hid (HB.out.trans hb2)⟩
    case measure=>simp [RowKit.intOf]<;>omega
  ·obtain rfl:k=n:=by omega
   have d1:decide (k<k)=false:=by simp
   rw [List.take_of_length_le (by rw [HL.out];exact Nat.le_refl _)] at HS
   clear hpl
   go_wp2_with fail
   go_ret
   exact ⟨by rw [HS.out];rfl,HB.out⟩
end Go.Proofs.YtgbgngdakkiclaaGreatDoor.Sp

namespace Go.Proofs.YtgbgngdakkiclaaGreatDoor
open Go.RowKit Go.Lib
open Px (R2 tl)
def tcells (h:M.Hdr) (pv rv:Value):Array Value:=
 #[.string h.name, .int .i64 h.mode, .int .i64 h.uid, .int .i64 h.gid, .int .i64 h.size, .int .i64 h.mtime, .int .u8 h.kind, .string h.link, .int .i64 h.way, .string h.user, .string h.group, .int .i64 h.major, .int .i64 h.minor, .string h.pre,pv, .bool h.more, .int .i64 h.real,rv]
theorem t_size:(Tryz.prog.info? 65).map (·.size)=some 18:=by kernel_rfl
theorem tcells_one (h:M.Hdr) {pv rv:Value} (hp:pv.oneCell'=true) (hr:rv.oneCell'=true):(tcells h pv rv).all (·.oneCell')=true:=by
 simp [tcells,Value.oneCell',hp,hr]<;>simpa [Value.oneCell'] using And.intro hp hr
def TK (w:World) (g:Nat) (h:M.Hdr) (pv rv:Value):Prop:=w.heap[g]?=some (.cells (tcells h pv rv) 65 (0,0))
section
variable {w w':World} {g:Nat} {h:M.Hdr} {pv rv:Value}
theorem TK.lt (hb:TK w g h pv rv):g<w.heap.size:=(Array.getElem?_eq_some_iff.1 hb).1
theorem TK.cell (hb:TK w g h pv rv) {i:Nat} {v:Value} (hv:(tcells h pv rv)[i]?=some v):w.cell? ⟨g,i,none⟩=some v:=by
 rw [cell_of_row w g i _ _ (0,0) hb];exact hv
theorem TK.frozen (hb:TK w g h pv rv) (i:Nat):w.frozen? ⟨g,i,none⟩=false:=frozen_of_row w g i _ _ hb
theorem TK.of_block (hb:TK w g h pv rv) (e:w'.heap[g]?=w.heap[g]?):TK w' g h pv rv:=e.trans hb
theorem TK.other (hb:TK w g h pv rv) {a:Addr} (hn:g≠a.block) (v:Value):TK (w.setCell a v) g h pv rv:=hb.of_block (heap_setCell_other w a g v hn)
theorem TK.alloc (hb:TK w g h pv rv) (o:Obj):TK (w.alloc o) g h pv rv:=hb.of_block (by show (w.heap.push o)[g]?=_;rw [Array.getElem?_push,if_neg (Nat.ne_of_lt hb.lt)])
theorem TK.below {B:Nat} (hb:TK w g h pv rv) (hw:Below B w w') (hB:g<B):TK w' g h pv rv:=hb.of_block (hw.block g hB)
theorem TK.new (w:World) (h:M.Hdr) (pv rv:Value):TK (w.alloc (.cells (tcells h pv rv) 65)) w.heap.size h pv rv:=heap_alloc_new w _
theorem TK.set (hb:TK w g h pv rv) (i:Nat) (v:Value) {h':M.Hdr} {pv' rv':Value} (e:(tcells h pv rv).set! i v=tcells h' pv' rv'):TK (w.setCell ⟨g,i,none⟩ v) g h' pv' rv':=by
 unfold TK
 rw [heap_setCell_same w g i _ _ _ hb,←e]
 simp
theorem TK.row (hb:TK w g h pv rv) (h':M.Hdr) (pv' rv':Value):TK (w.setRow g (tcells h' pv' rv')) g h' pv' rv':=setRow_heap _ _ _ _ _ _ hb
theorem TK.all (hb:TK w g h pv rv):w.cell? ⟨g,0,none⟩=some (.string h.name)∧w.cell? ⟨g,1,none⟩=some (.int .i64 h.mode)∧w.cell? ⟨g,2,none⟩=some (.int .i64 h.uid)∧w.cell? ⟨g,3,none⟩=some (.int .i64 h.gid)∧w.cell? ⟨g,4,none⟩=some (.int .i64 h.size)∧w.cell? ⟨g,5,none⟩=some (.int .i64 h.mtime)∧w.cell? ⟨g,6,none⟩=some (.int .u8 h.kind)∧w.cell? ⟨g,7,none⟩=some (.string h.link)∧w.cell? ⟨g,8,none⟩=some (.int .i64 h.way)∧w.cell? ⟨g,9,none⟩=some (.string h.user)∧w.cell? ⟨g,10,none⟩=some (.string h.group)∧w.cell? ⟨g,11,none⟩=some (.int .i64 h.major)∧w.cell? ⟨g,12,none⟩=some (.int .i64 h.minor)∧w.cell? ⟨g,13,none⟩=some (.string h.pre)∧w.cell? ⟨g,14,none⟩=some (pv)∧w.cell? ⟨g,15,none⟩=some (.bool h.more)∧w.cell? ⟨g,16,none⟩=some (.int .i64 h.real)∧w.cell? ⟨g,17,none⟩=some (rv):=
 ⟨hb.cell rfl,hb.cell rfl,hb.cell rfl,hb.cell rfl,hb.cell rfl,hb.cell rfl,hb.cell rfl,hb.cell rfl,hb.cell rfl,hb.cell rfl,hb.cell rfl,hb.cell rfl,hb.cell rfl,hb.cell rfl,hb.cell rfl,hb.cell rfl,hb.cell rfl,hb.cell rfl⟩
theorem TK.load (hb:TK w g h pv rv):Sem.run Tryz.prog (loadVar 65 ⟨g,0,none⟩) w= .ok (.agg (tcells h pv rv)) w:=
 run_loadVar_row (P:=Tryz.prog) w g 65 65 (tcells h pv rv) (0,0) _ hb Tryz.underlying65 rfl t_size
end
theorem tk_zero (w:World):TK (w.alloc (.cells #[.string ⟨#[]⟩, .int .i64 0, .int .i64 0, .int .i64 0, .int .i64 0, .int .i64 0, .int .u8 0, .string ⟨#[]⟩, .int .i64 0, .string ⟨#[]⟩, .string ⟨#[]⟩, .int .i64 0, .int .i64 0, .string ⟨#[]⟩, .slice none 0 0, .bool false, .int .i64 0, .slice none 0 0] 65)) w.heap.size {} (.slice none 0 0) (.slice none 0 0):=TK.new w {} (.slice none 0 0) (.slice none 0 0)
theorem run_row {P:Program} {o:Oper} {a:Act} {w:World} (ty:TypeId) (x:Operand) (ho:o.op= .load ty x)
  (g:Nat) (hx:a.eval x= .pointer (some ⟨g,0,none⟩)) (t:TypeId) (cs:Array Value) (fr:Nat × Nat) (d:TypeDesc) (hg:w.heap[g]?=some (.cells cs t fr))
  (hu:P.underlying ty=some d) (hd:(match d with| .struct _| .array _ _=>true|_=>false)=true) (hi:(P.info? ty).map (·.size)=some cs.size):
  (execOp a.eval o).run P w= .ok (.value (.agg cs)) w:=by
 unfold execOp
 simp only [ho,hx,Instr.loadAt,Instr.sureAddr,Sem.run_bind,Sem.run_pure,Result.andThen_ok,run_loadVar_row w g t ty cs fr d hg hu hd hi]
theorem results_told {tmps:Array Value} {g:Nat} {h:M.Hdr} {pv rv:Value} {w:World} (hb:TK w g h pv rv) (h6:tmps.getD 6 undef= .pointer (some ⟨g,0,none⟩)):
  (results Tryz.f48 tmps).run Tryz.prog w= .ok (.agg (tcells h pv rv)) w:=by
 rw [Array.getD_eq_getD_getElem?] at h6
 have hl:=hb.load
 simp [results,Tryz.results48,h6,asAddr,hl]
theorem ownR_row {w:World} {base:Nat} {v:Value} {l:List R2} (h:Px.OwnR w base v l) {g:Nat} (hg:g<base) (cs:Array Value):Px.OwnR (w.setRow g cs) base v l:=by
 obtain ⟨h1,h2⟩:=h
 refine ⟨h1, ?_⟩
 rcases h2 with h2|⟨g',cap,cur,hv,hg',hh,r⟩
 ·exact Or.inl h2
 ·exact Or.inr ⟨g',cap,cur,hv,hg',(setRow_other w g g' cs (by omega)).trans hh,r⟩
theorem ownR_rd {w:World} {b n c:Nat} {A:Option Addr} {l:List R2} (h:Px.OwnR w b (.slice A n c) l):Px.RdR w w.heap.size A l:=by
 obtain ⟨A',c',e,h2,_⟩:=h.rd
 injection e with e1
 rw [e1];exact h2
def TIs (h:M.Hdr) (rs:List R2) (w:World) (e:Ending) (w':World):Prop:=
 ∃ v,e= .returned (.agg (tcells h (.slice none 0 0) v))∧Px.OwnR w' w.heap.size v rs∧Below w.heap.size w w'
structure Ent (w W:World) (h:M.Hdr) (rv:Value):Prop where
 below:Below w.heap.size w W
 arg:TK W w.heap.size h (.slice none 0 0) rv
 res:TK W (w.heap.size+1) {} (.slice none 0 0) (.slice none 0 0)
 size:W.heap.size=w.heap.size+2
theorem ent_new (w:World) (h:M.Hdr) (rv:Value):Ent w ((w.alloc (.cells (tcells h (.slice none 0 0) rv) 65)).alloc (.cells #[.string ⟨#[]⟩, .int .i64 0, .int .i64 0, .int .i64 0, .int .i64 0, .int .i64 0, .int .u8 0, .string ⟨#[]⟩, .int .i64 0, .string ⟨#[]⟩, .string ⟨#[]⟩, .int .i64 0, .int .i64 0, .string ⟨#[]⟩, .slice none 0 0, .bool false, .int .i64 0, .slice none 0 0] 65)) h rv where
 below:=((Below.refl w.heap.size w).alloc (Nat.le_refl _) _).alloc (by simp) _
 arg:=(TK.new w h (.slice none 0 0) rv).alloc _
 res:=by
  have t:=tk_zero (w.alloc (.cells (tcells h (.slice none 0 0) rv) 65))
  rw [World.size_alloc] at t
  exact t
 size:=by simp
theorem TK.store {w:World} {g:Nat} {h0:M.Hdr} {p0 r0:Value} (hb:TK w g h0 p0 r0) (h:M.Hdr) (A B:Option Addr) (n c n2 c2:Nat):
  Sem.run Tryz.prog (storeCells ⟨g,0,none⟩ (tcells h (.slice A n c) (.slice B n2 c2)).toList) w= .ok () (w.setRow g (tcells h (.slice A n c) (.slice B n2 c2))):=by
 have e:=store_row w g _ _ (tcells h (.slice A n c) (.slice B n2 c2)).toList hb rfl (by
  intro v hv
  have:=tcells_one h (pv:= .slice A n c) (rv:= .slice B n2 c2) rfl rfl
  rw [Array.all_eq_true'] at this
  exact this v (by simpa using hv))
 rw [show (tcells h (.slice A n c) (.slice B n2 c2)).toList.toArray=tcells h (.slice A n c) (.slice B n2 c2) from rfl] at e
 exact e
set_option maxRecDepth 100000 in
set_option maxHeartbeats 2000000 in
theorem told10_any (h:M.Hdr) (rs:List R2) (A:Option Addr) (c:Nat) (k v:ByteArray) (w:World) (hr:Px.RdR w w.heap.size A rs) (hl:rs.length≤100000):
  Calls Tryz.prog 48 #[.agg (tcells h (.slice none 0 0) (.slice A rs.length c)), .string k, .string v] w (TIs h (rs++ [(k,v)]) w):=by
 have EN:=hid (ent_new w h (.slice A rs.length c))
 have HR:=hid (hr.below EN.out.below)
 clear hr
 go_enter Tryz.func48,Tryz.ntmps48
 go_upto_region 1 with fail
 generalize World.alloc (World.alloc w _) _=W at*
 have k17:=EN.out.arg.cell (i:=17) (v:= .slice A rs.length c) rfl
 have hbase:w.heap.size+2≤W.heap.size:=by rw [EN.out.size];exact Nat.le_refl _
 have hrl:([]:List R2).length+rs.length≤100000000:=by simp;omega
 go_upto_region 3 with (at_builtin;refine Px.wpList_appRs rfl (.tmp 8) (.tmp 10) rfl (w.heap.size+2) (.slice none 0 0) [] rs rfl (Px.OwnR.nil _ _) hbase A c rfl w.heap.size HR.out hrl ?_)
 intro v3 w3 l3 HL3 hn3 o3 b3 g3
 obtain rfl:l3=rs:=HL3.out
 have T13:=hid (EN.out.arg.below b3 (by omega))
 have T23:=hid (EN.out.res.below b3 (by omega))
 have HB3:=hid (EN.out.below.trans (b3.mono (by omega)))
 have O3:=hid o3
 have hbase3:w.heap.size+2≤w3.heap.size:=Nat.le_trans hbase b3.size
 clear k17 hbase hrl HL3 hn3 o3 b3 g3 EN HR
 go_upto_region 4 with (at_builtin;refine Px.wpList_appR rfl (.tmp 12) (.tmp 16) rfl (w.heap.size+2) v3 l3 (k,v) rfl rfl rfl O3.out hbase3 rfl (by omega) ?_)
 intro v4 w4 l4 HL4 hn4 o4 b4 g4
 have T14:=hid (T13.out.below b4 (by omega))
 have T24:=hid (T23.out.below b4 (by omega))
 have HB4:=hid (HB3.out.trans (b4.mono (by omega)))
 have O4:=hid o4
 have hbase4:w.heap.size+2≤w4.heap.size:=Nat.le_trans hbase3 b4.size
 obtain ⟨A4,c4,rfl,hr4,hc4,hm4⟩:=o4.rd
 have HR4:=hid hr4
 clear O3 hn4 o4 b4 g4 T13 T23 HB3 hbase3 hr4
 have f17:=T14.out.frozen 17
 have k17:=T14.out.cell (i:=17) (v:= .slice A l3.length c) rfl
 go_upto_region 5 with fail
 have T15:=hid (T14.out.set (pv':= .slice none 0 0) (rv':= .slice A4 l4.length c4) 17 (.slice A4 l4.length c4) rfl)
 have T25:=hid (T24.out.other (a:=⟨w.heap.size,17,none⟩) (by simp) (.slice A4 l4.length c4))
 have HB5:=hid (HB4.out.setCell (p:=⟨w.heap.size,17,none⟩) (Nat.le_refl _) (.slice A4 l4.length c4))
 have O5:=hid (show Px.OwnR (w4.setCell ⟨w.heap.size,17,none⟩ (.slice A4 l4.length c4)) (w.heap.size+2) (.slice A4 l4.length c4) l4 from ownsRow_setCell_below O4.out (a:=⟨w.heap.size,17,none⟩) (by show w.heap.size<_;omega) _)
 clear T14 T24 HB4 O4 HR4 f17 k17 hbase4
 generalize World.setCell w4 _ _=w5 at*
 go_wp2_with (first
  |(refine wpList_load_row rfl 65 (.tmp 3) rfl w.heap.size (by rfl) 65 (tcells h (.slice none 0 0) (.slice A4 l4.length c4)) (0,0) _ T15.out Tryz.underlying65 rfl t_size ?_)
  |(refine wpList_store_row rfl 65 (.tmp 6) (.tmp 20) rfl (w.heap.size+1) (tcells h (.slice none 0 0) (.slice A4 l4.length c4)) (by rfl) (by rfl) 65 _ T25.out t_size rfl (tcells_one _ rfl rfl) ?_))
 refine bodyPost_ret (results_told (T25.out.row h (.slice none 0 0) (.slice A4 l4.length c4)) rfl) rfl ?_
 have hR:=(ownR_row O5.out (g:=w.heap.size+1) (by omega) (tcells h (.slice none 0 0) (.slice A4 l4.length c4))).lower (b2:=w.heap.size) (by omega)
 rw [HL4.out] at hR⊢
 exact ⟨_,rfl,hR,below_setRow HB5.out (by omega) _⟩
end Go.Proofs.YtgbgngdakkiclaaGreatDoor

namespace Go.Proofs.YtgbgngdakkiclaaGreatDoor
open Go.RowKit Go.Lib
open Px (R2 tl)
theorem results_short {tmps:Array Value} {g:Nat} {h:M.Hdr} {pv rv v:Value} {w:World} (hb:TK w g h pv rv) (h8:tmps.getD 8 undef= .pointer (some ⟨g,0,none⟩)) (h9:tmps.getD 9 undef=v):
  (results Tryz.f49 tmps).run Tryz.prog w= .ok (.tuple #[.agg (tcells h pv rv),v]) w:=by
 rw [Array.getD_eq_getD_getElem?] at h8 h9
 have hl:=hb.load
 simp [results,Tryz.results49,h8,h9,asAddr,hl]
theorem results_small {tmps:Array Value} {g:Nat} {h:M.Hdr} {pv rv v:Value} {w:World} (hb:TK w g h pv rv) (h8:tmps.getD 8 undef= .pointer (some ⟨g,0,none⟩)) (h9:tmps.getD 9 undef=v):
  (results Tryz.f50 tmps).run Tryz.prog w= .ok (.tuple #[.agg (tcells h pv rv),v]) w:=by
 rw [Array.getD_eq_getD_getElem?] at h8 h9
 have hl:=hb.load
 simp [results,Tryz.results50,h8,h9,asAddr,hl]
def ShIs (base:Nat) (h:M.Hdr) (rs:List R2) (x:Value) (w:World) (e:Ending) (w':World):Prop:=
 ∃ v,e= .returned (.tuple #[.agg (tcells h (.slice none 0 0) v),x])∧Px.OwnR w' base v rs∧Below w.heap.size w w'
theorem ret_pair {a b:Value} {x:Value} (h:x=b):Ending.returned (.tuple #[a,x])= .returned (.tuple #[a,b]):=by rw [h]
set_option maxRecDepth 100000 in
set_option maxHeartbeats 2000000 in
theorem short10_any (hd0:M.Hdr) (rs:List R2) (rv:Value) (base:Nat) (k s:ByteArray) (wide:Nat) (w:World) (ho:Px.OwnR w base rv rs) (hbw:base≤w.heap.size) (hl:rs.length≤100000) (hs:s.size≤1048576):
  Calls Tryz.prog 49 #[.agg (tcells hd0 (.slice none 0 0) rv), .string k, .string s, .int .i64 wide] w (ShIs base hd0 (rs++(if s.size≤wide then [] else [(k,s)])) (.string (s.extract 0 wide)) w):=by
 obtain ⟨rt,hrt⟩: ∃ rt,rs++(if s.size≤wide then [] else [(k,s)])=rt:=⟨_,rfl⟩
 rw [hrt]
 have HQ:=hid hrt
 clear hrt
 obtain ⟨A,c,rfl,hr,_,_⟩:=ho.rd
 have EN:=hid (ent_new w hd0 (.slice A rs.length c))
 have HR:=hid hr
 have HO:=hid ho
 clear hr ho
 go_enter Tryz.func49,Tryz.ntmps49
 go_upto_region 1 with fail
 generalize World.alloc (World.alloc w _) _=W at*
 by_cases hw:s.size≤wide
 ·have d1:decide (s.size≤wide)=true:=by rw [decide_eq_true_eq];omega
  have HE:=hid (M.extract_all hw)
  rw [if_pos hw,List.append_nil] at HQ
  obtain rfl:=HQ.out
  clear hw
  go_wp2_with (first
   |(refine wpList_load_row rfl 65 (.tmp 4) rfl w.heap.size (by rfl) 65 (tcells hd0 (.slice none 0 0) (.slice A rs.length c)) (0,0) _ EN.out.arg Tryz.underlying65 rfl t_size ?_)
   |(refine wpList_store_row rfl 65 (.tmp 8) (.tmp 14) rfl (w.heap.size+1) (tcells hd0 (.slice none 0 0) (.slice A rs.length c)) (by rfl) (by rfl) 65 _ EN.out.res t_size rfl (tcells_one _ rfl rfl) ?_))
  all_goals
   refine bodyPost_ret (results_short (EN.out.res.row hd0 (.slice none 0 0) (.slice A rs.length c)) rfl rfl) rfl ?_
   have hb:=below_setRow EN.out.below (g:=w.heap.size+1) (by omega) (tcells hd0 (.slice none 0 0) (.slice A rs.length c))
   exact ⟨_,ret_pair (by rw [HE.out];rfl),HO.out.below hb,hb⟩
 ·have d1:decide (s.size≤wide)=false:=by rw [decide_eq_false_iff_not];omega
  rw [if_neg hw] at HQ
  obtain rfl:=HQ.out
  have hws:(wide:Int)≤(s.size:Int):=by omega
  have hw0:wide≤s.size:=by omega
  clear hw
  have HC:=hid (fun (V:World) (hV:Below w.heap.size w V)=>told10_any hd0 rs A c k s V ((HR.out.below hV).more hV.size) hl)
  go_wp2_with fail
  refine wp_region_held_drew (S:=fun V=>Below w.heap.size w V∧TK V w.heap.size hd0 (.slice none 0 0) (.slice A rs.length c)∧w.heap.size+2≤V.heap.size) (by kernel_rfl) ⟨below_drew' EN.out.below,EN.out.arg,Nat.le_of_eq EN.out.size.symm⟩ (fun hS=> ?_)
  have HZ:=hid (fun (V:World) (hV:Below W.heap.size W V)=>EN.out.res.below hV (by rw [EN.out.size];omega))
  refine tkH 0 hS ?_ (v:= .agg (tcells hd0 (.slice none 0 0) (.slice A rs.length c))) (hy:=fun W hW=>by exact run_row 65 (.tmp 4) rfl w.heap.size (by rfl) 65 _ (0,0) _ hW.2.1 Tryz.underlying65 rfl t_size)
  refine tkH 1 hS ?_
  refine tkH 2 hS ?_
  refine tkH 4 hS ?_
  refine tkH 5 hS ?_
  refine tkH 6 hS ?_
  have hW2:w.heap.size+1<W.drew.heap.size:=by show w.heap.size+1<W.heap.size;rw [EN.out.size];omega
  have HZ2:=hid (show TK W.drew (w.heap.size+1) {} (.slice none 0 0) (.slice none 0 0) from EN.out.res)
  clear HZ EN
  generalize W.drew=V at*
  refine loneH (i:=3) 19 rfl rfl (by kernel_rfl) (by rfl) (fun K hK=> ?_)
  go_simp
  go_at_call 48
  have hz:=hid hS
  clear hS
  refine (HC.out _ hz.out.1).mono ?_
  rintro e w9 ⟨v9,rfl,o9,b9⟩
  have HS9:=hid (show Below w.heap.size w w9∧TK w9 w.heap.size hd0 (.slice none 0 0) (.slice A rs.length c)∧TK w9 (w.heap.size+1) {} (.slice none 0 0) (.slice none 0 0)∧w.heap.size+2≤w9.heap.size from ⟨hz.out.1.trans (b9.mono hz.out.1.size),hz.out.2.1.below b9 hz.out.2.1.lt,HZ2.out.below b9 hW2,Nat.le_trans hz.out.2.2 b9.size⟩)
  have HO9:=hid (o9.lower hz.out.2.2)
  obtain ⟨A9,c9,hv9,_⟩:=o9.rd
  obtain ⟨n9,hn9⟩: ∃ n,(rs++ [(k,s)]).length=n:=⟨_,rfl⟩
  rw [hn9] at hv9
  subst hv9
  have ST:=HS9.out.2.2.1.store hd0 none A9 0 0 n9 c9
  clear o9 b9 hz hn9
  refine hK.out _ _ ⟨HS9.out.1,HS9.out.2.1,HS9.out.2.2.2⟩ (fun hS=> ?_)
  clear hK K
  try simp only [NM]
  clear HC HZ2 hW2
  refine loneN (i:=7) rfl rfl (by kernel_rfl) (by rfl) (fun K hK=> ?_)
  go_simp
  refine hK.out _ _ ⟨below_setRow HS9.out.1 (g:=w.heap.size+1) (by omega) _,HS9.out.2.1.of_block (setRow_other w9 (w.heap.size+1) w.heap.size _ (by omega)),(by have:=HS9.out.2.2.2;simpa using this)⟩ (fun hS=> ?_)
  clear hK K
  try simp only [NM]
  refine tkH 8 hS ?_
  refine wpAnyH_done (by kernel_rfl) ?_ _
  try simp only [NM]
  clear ST
  go_wp2_with fail
  refine bodyPost_ret (results_short (HS9.out.2.2.1.row hd0 (.slice none 0 0) (.slice A9 n9 c9)) rfl rfl) rfl ?_
  exact ⟨_,rfl,(ownR_row HO9.out (g:=w.heap.size+1) (by omega) _).lower (b2:=base) (by omega),below_setRow HS9.out.1 (g:=w.heap.size+1) (by omega) _⟩
set_option maxRecDepth 100000 in
set_option maxHeartbeats 2000000 in
theorem small10_any (hd0:M.Hdr) (rs:List R2) (rv:Value) (base:Nat) (k:ByteArray) (n:Int) (wide:Int) (B:Nat) (w:World) (ho:Px.OwnR w base rv rs) (hbw:base≤w.heap.size) (hl:rs.length≤100000)
  (h0: -9223372036854775808≤n) (h1:n≤9223372036854775807) (hB:B≤w.heap.size) (ht:Sp.EV B w):
  Calls Tryz.prog 50 #[.agg (tcells hd0 (.slice none 0 0) rv), .string k, .int .i64 n, .int .i64 wide] w (ShIs base hd0 (rs++(if M.fits n wide=true then [] else [(k,⟨(Lib.itoa n).toArray⟩)])) (.int .i64 (if M.fits n wide=true then n else 0)) w):=by
 obtain ⟨rt,hrt⟩: ∃ rt,rs++(if M.fits n wide=true then [] else [(k,⟨(Lib.itoa n).toArray⟩)])=rt:=⟨_,rfl⟩
 obtain ⟨nt,hnt⟩: ∃ nt,(if M.fits n wide=true then n else 0)=nt:=⟨_,rfl⟩
 rw [hrt,hnt]
 have HQ:=hid hrt
 have HN:=hid hnt
 clear hrt hnt
 obtain ⟨A,c,rfl,hr,_,_⟩:=ho.rd
 have EN:=hid (ent_new w hd0 (.slice A rs.length c))
 have HR:=hid hr
 have HO:=hid ho
 have HT:=hid (fun (V:World) (hV:Below w.heap.size w V)=>ht.on (hV.mono hB))
 have HP:=hid (fun V=>Nm.putOctalRef_any n wide V)
 clear hr ho ht
 go_enter Tryz.func50,Tryz.ntmps50
 go_upto_region 1 with fail
 generalize World.alloc (World.alloc w _) _=W at*
 go_wp2_with fail
 (with_reducible refine (HP.out _).mono ?_)
 rintro e w1 ⟨A1,N1,rfl,_,b1⟩
 have hW2:w.heap.size+2≤w1.heap.size:=by have:=EN.out.size;have:=b1.size;omega
 have T1:=hid (EN.out.arg.below b1 EN.out.arg.lt)
 have T2:=hid (EN.out.res.below b1 EN.out.res.lt)
 have HB1:=hid (EN.out.below.trans (b1.mono EN.out.below.size))
 clear b1 EN HP
 have hfe:Nm.M.octFits n wide=M.fits n wide:=rfl
 rw [hfe]
 clear hfe
 cases hw:M.fits n wide with
 |true=>
  rw [hw,if_pos rfl] at HN
  rw [hw,if_pos rfl,List.append_nil] at HQ
  obtain rfl:=HQ.out
  obtain rfl:=HN.out
  clear hw
  go_wp2_with (first
   |(refine wpList_load_row rfl 65 (.tmp 4) rfl w.heap.size (by rfl) 65 (tcells hd0 (.slice none 0 0) (.slice A rs.length c)) (0,0) _ T1.out Tryz.underlying65 rfl t_size ?_)
   |(refine wpList_store_row rfl 65 (.tmp 8) (.tmp 19) rfl (w.heap.size+1) (tcells hd0 (.slice none 0 0) (.slice A rs.length c)) (by rfl) (by rfl) 65 _ T2.out t_size rfl (tcells_one _ rfl rfl) ?_))
  refine bodyPost_ret (results_small (T2.out.row hd0 (.slice none 0 0) (.slice A rs.length c)) rfl rfl) rfl ?_
  have hb:=below_setRow HB1.out (g:=w.heap.size+1) (by omega) (tcells hd0 (.slice none 0 0) (.slice A rs.length c))
  exact ⟨_,rfl,HO.out.below hb,hb⟩
 |false=>
  rw [hw,if_neg (by decide)] at HN
  rw [hw,if_neg (by decide)] at HQ
  obtain rfl:=HQ.out
  obtain rfl:=HN.out
  clear hw
  obtain ⟨x,hx⟩: ∃ x:ByteArray,x=⟨(Lib.itoa n).toArray⟩:=⟨_,rfl⟩
  have HX:=hid hx
  have HC:=hid (fun (V:World) (hV:Below w.heap.size w V)=>told10_any hd0 rs A c k x V ((HR.out.below hV).more hV.size) hl)
  have HI:=hid (fun (V:World) (hV:Below w.heap.size w V)=>Sp.itoa_any n h0 h1 B V (HT.out V hV))
  rw [←hx] at HI
  clear hx HT
  go_wp2_with fail
  refine wp_region_held_drew (S:=fun V=>Below w.heap.size w V∧TK V w.heap.size hd0 (.slice none 0 0) (.slice A rs.length c)∧w.heap.size+2≤V.heap.size) (by kernel_rfl) ⟨below_drew' HB1.out,T1.out,hW2⟩ (fun hS=> ?_)
  refine tkH 0 hS ?_ (v:= .agg (tcells hd0 (.slice none 0 0) (.slice A rs.length c))) (hy:=fun W hW=>by exact run_row 65 (.tmp 4) rfl w.heap.size (by rfl) 65 _ (0,0) _ hW.2.1 Tryz.underlying65 rfl t_size)
  refine tkH 1 hS ?_
  refine tkH 2 hS ?_
  have HZ2:=hid (show TK w1.drew (w.heap.size+1) {} (.slice none 0 0) (.slice none 0 0) from T2.out)
  have hV2:w.heap.size+1<w1.drew.heap.size:=hW2
  clear T1 T2 HB1 hW2
  generalize w1.drew=V at*
  refine loneH (i:=3) 24 rfl rfl (by kernel_rfl) (by rfl) (fun K hK=> ?_)
  go_simp
  go_at_call 54
  have hz:=hid hS
  clear hS
  (with_reducible refine (HI.out _ hz.out.1).mono ?_)
  rintro e w8 ⟨rfl,b8⟩
  have HS8:=hid (show Below w.heap.size w w8∧TK w8 w.heap.size hd0 (.slice none 0 0) (.slice A rs.length c)∧TK w8 (w.heap.size+1) {} (.slice none 0 0) (.slice none 0 0)∧w.heap.size+2≤w8.heap.size from ⟨hz.out.1.trans (b8.mono hz.out.1.size),hz.out.2.1.below b8 hz.out.2.1.lt,HZ2.out.below b8 hV2,Nat.le_trans hz.out.2.2 b8.size⟩)
  clear b8 hz
  refine hK.out _ _ ⟨HS8.out.1,HS8.out.2.1,HS8.out.2.2.2⟩ (fun hS=> ?_)
  clear hK K
  try simp only [NM]
  clear HI HZ2 hV2
  refine loneH (i:=4) 25 rfl rfl (by kernel_rfl) (by rfl) (fun K hK=> ?_)
  go_simp
  go_at_call 48
  have hz:=hid hS
  clear hS
  refine (HC.out _ hz.out.1).mono ?_
  rintro e w9 ⟨v9,rfl,o9,b9⟩
  have HS9:=hid (show Below w.heap.size w w9∧TK w9 w.heap.size hd0 (.slice none 0 0) (.slice A rs.length c)∧TK w9 (w.heap.size+1) {} (.slice none 0 0) (.slice none 0 0)∧w.heap.size+2≤w9.heap.size from ⟨hz.out.1.trans (b9.mono hz.out.1.size),hz.out.2.1.below b9 hz.out.2.1.lt,HS8.out.2.2.1.below b9 (by have:=HS8.out.2.2.2;omega),Nat.le_trans hz.out.2.2 b9.size⟩)
  have HO9:=hid (o9.lower hz.out.2.2)
  obtain ⟨A9,c9,hv9,_⟩:=o9.rd
  obtain ⟨n9,hn9⟩: ∃ n,(rs++ [(k,x)]).length=n:=⟨_,rfl⟩
  rw [hn9] at hv9
  subst hv9
  have ST:=HS9.out.2.2.1.store hd0 none A9 0 0 n9 c9
  clear o9 b9 hz hn9
  refine hK.out _ _ ⟨HS9.out.1,HS9.out.2.1,HS9.out.2.2.2⟩ (fun hS=> ?_)
  clear hK K
  try simp only [NM]
  clear HC HS8
  refine loneN (i:=5) rfl rfl (by kernel_rfl) (by rfl) (fun K hK=> ?_)
  go_simp
  refine hK.out _ _ ⟨below_setRow HS9.out.1 (g:=w.heap.size+1) (by omega) _,HS9.out.2.1.of_block (setRow_other w9 (w.heap.size+1) w.heap.size _ (by omega)),(by have:=HS9.out.2.2.2;simpa using this)⟩ (fun hS=> ?_)
  clear hK K
  try simp only [NM]
  refine tkH 6 hS ?_
  refine wpAnyH_done (by kernel_rfl) ?_ _
  try simp only [NM]
  clear ST
  go_wp2_with fail
  refine bodyPost_ret (results_small (HS9.out.2.2.1.row hd0 (.slice none 0 0) (.slice A9 n9 c9)) rfl rfl) rfl ?_
  have hO:=HO9.out
  rw [HX.out] at hO
  exact ⟨_,rfl,(ownR_row hO (g:=w.heap.size+1) (by omega) _).lower (b2:=base) (by omega),below_setRow HS9.out.1 (g:=w.heap.size+1) (by omega) _⟩
end Go.Proofs.YtgbgngdakkiclaaGreatDoor

namespace Go.Proofs.YtgbgngdakkiclaaGreatDoor
open Go.RowKit Go.Lib Go.Shelf
open Px (R2 tl ltB ltB_ord rcs rc RdR OwnR cutR)
attribute [local go_sem ↓] add_plain
theorem elemRo:Tryz.prog.elem 33=47:=by kernel_rfl
theorem cellsRo:(Tryz.prog.info? 47).map (·.size)=some 2:=by kernel_rfl
theorem slice_frontO (w:World) (a:Option Addr) (len cap h:Nat) (h2:h≤cap):
  (Instr.slice 33 (.slice a len cap) none (some (.int .i64 h)) none).run Tryz.prog w= .ok (.slice a h cap) w:=by
 have ht:Tryz.prog.underlying 33=some (.slice (Tryz.prog.elem 33)):=by rw [elemRo];exact Tryz.underlying33
 rw [run_slice_h w 33 a len cap ht .i64 h (by omega) (by omega),elemRo]
 have hs:(sizeOf 47).run Tryz.prog w= .ok 2 w:=by
  obtain ⟨i,hi,hz⟩:=Option.map_eq_some_iff.1 cellsRo
  simp [sizeOf,typeInfo,hi,hz]
 rw [hs]
 have hadd: ∀ x:Addr,x.add 0=x:=fun x=>by simp [Addr.add]
 have hm:a.map (·.add 0)=a:=by cases a<;>simp [hadd]
 simp [Result.andThen,sliced,hm]
theorem slice_restO (w:World) (a:Option Addr) (len cap l:Nat) (h1:l≤len):
  (Instr.slice 33 (.slice a len cap) (some (.int .i64 l)) none none).run Tryz.prog w= .ok (.slice (cutR a cap l) (len - l) (cap - l)) w:=by
 have ht:Tryz.prog.underlying 33=some (.slice (Tryz.prog.elem 33)):=by rw [elemRo];exact Tryz.underlying33
 rw [run_slice_l w 33 a len cap ht .i64 l (by omega) (by omega),elemRo]
 have hs:(sizeOf 47).run Tryz.prog w= .ok 2 w:=by
  obtain ⟨i,hi,hz⟩:=Option.map_eq_some_iff.1 cellsRo
  simp [sizeOf,typeInfo,hi,hz]
 rw [hs]
 simp [Result.andThen,sliced,cutR]
theorem rc_at {l:List R2} {j:Nat} (h:j<l.length):(rcs l)[j]?=some (rc l[j]):=by simp [rcs,h]
def SortedIs (l:List R2) (w:World) (e:Ending) (w':World):Prop:=
 ∃ v L,e= .returned v∧Hid (rcs L=Px.M.puts ltB [] (rcs l))∧OwnR w' w.heap.size v L∧L.length=l.length∧Below w.heap.size w w'
set_option maxRecDepth 100000 in
set_option maxHeartbeats 4000000 in
theorem sorted10_any (A:Option Addr) (c:Nat) (l:List R2) (hl:l.length≤1048576) (hd:M.Apart (rcs l)) (w:World) (h:RdR w w.heap.size A l):
  Calls Tryz.prog 24 #[.slice A l.length c] w (SortedIs l w):=by
 have HR:=hid h
 have HD:=hid hd
 clear h hd
 go_enter Tryz.func24,Tryz.ntmps24
 go_wp2
 go_loopw [3,4] (fun v3 iv wr=> ∃ (i:Nat) (L:List R2),iv= .int .i64 i∧i≤l.length∧Hid (OwnR wr w.heap.size v3 L)∧Hid (rcs L=Px.M.puts ltB [] ((rcs l).take i))∧L.length=i∧Hid (Below w.heap.size w wr)) (fun _ iv _=>l.length - (intOf iv).toNat)
 case atStart=>exact ⟨0, [],rfl,Nat.zero_le _,hid (OwnR.nil _ _),hid rfl,rfl,hid (Below.refl _ _)⟩
 case round=>
  obtain ⟨i,L,rfl,hi,HO,HE,hLi,HB⟩:=hrel
  by_cases hlt:i<l.length
  ·obtain ⟨A3,c3,rfl,hr3,hc3,hm3⟩:=HO.out.rd
   obtain ⟨bl,offl,rfl,hbl,hc1,hc2⟩:=HR.out.at_ hlt
   have hkl:i<(rcs l).length:=by rw [Px.rcs_len];exact hlt
   have hris:Px.M.Rising ltB (rcs L):=by rw [HE.out];exact Px.M.puts_rising ltB_ord _ _ trivial
   have hne:=M.apart_next HD.out hkl
   rw [←HE.out] at hne
   have hsn:Px.M.puts ltB [] ((rcs l).take (i+1))=Px.M.put ltB (rcs L) ((rcs l)[i]):=by
    rw [List.take_succ_eq_append_getElem hkl,M.puts_snoc,←HE.out]
   have hri:(rcs l)[i]=rc l[i]:=by simp [rcs]
   rw [hri] at hne hsn
   obtain ⟨r,hr⟩: ∃ r,l[i]=r:=⟨_,rfl⟩
   rw [hr] at hc1 hc2 hne hsn
   have HRIS:=hid hris
   have HNE:=hid hne
   have HSN:=hid hsn
   have HR3:=hid hr3
   have HC1:=hid (fun (V:World) (hV:Below w.heap.size w V)=>(hV.cell (p:=⟨bl,offl+i*2,none⟩) hbl).trans hc1)
   have HC2:=hid (fun (V:World) (hV:Below w.heap.size w V)=>(hV.cell (p:=⟨bl,offl+i*2+1,none⟩) hbl).trans hc2)
   have hLl:L.length≤1048576:=by omega
   have HLi:=hid hLi
   clear hkl hris hne hsn hri hr hc1 hc2 hr3 HR HE hLi
   obtain ⟨W1,hW1⟩: ∃ W,W=wr:=⟨_,rfl⟩
   subst hW1
   go_wp2_with fail
   go_loopw [5] (fun kv w2=> ∃ k:Nat,kv= .int .i64 k∧k≤L.length∧Hid (∀ j x,k≤j→(rcs L)[j]?=some x→ltB (tl r.1) x.1=true)∧Hid (Below W1.heap.size W1 w2)) (fun kv _=>(intOf kv).toNat)
   case atStart=>exact ⟨L.length,(by first|rfl|(rw [HLi.out])),Nat.le_refl _,hid (fun j x hj hx=>by rw [List.getElem?_eq_none (by rw [Px.rcs_len];exact hj)] at hx;cases hx),hid (Below.refl _ _)⟩
   case round=>
    obtain ⟨k,rfl,hk,HG,HW⟩:=hrel
    have HBW:=hid (HB.out.trans (HW.out.mono HB.out.size))
    have x1:=HC1.out _ HBW.out
    have x2:=HC2.out _ HBW.out
    have key: ∀ (hb0: ∀ h0:0<k,(ltB (tl r.1) (rc (L[k - 1]'(by omega))).1)=false),Hid (rcs (L.take k++r::L.drop k)=Px.M.puts ltB [] ((rcs l).take (i+1))):=fun hb0=>hid (by
     rw [HSN.out,M.put_at (k:=k) HRIS.out HNE.out (by rw [Px.rcs_len];exact hk) HG.out (fun x h0 hx=>by
      rw [rc_at (by omega)] at hx
      injection hx with hx
      subst hx
      exact hb0 h0)]
     simp [rcs,List.map_take,List.map_drop])
    by_cases hk0:k=0
    case' pos=>
     subst hk0
     have HK:=key (fun h=>absurd h (by omega))
     have HTK:=hid (show (L.take 0).length=0 from rfl)
     have HDR:=hid (show (L.drop 0).length=L.length - 0 by rw [List.length_drop])
     have hsl:=fun W'=>slice_frontO W' A3 L.length c3 0 (by omega)
     have hs2:=fun W'=>slice_restO W' A3 L.length c3 0 (by omega)
     simp only [Int.natCast_zero] at hsl hs2
     have hfr:=(HR3.out.below (HW.out)).front (k:=0)
     have hct:=(HR3.out.below (HW.out)).cut (k:=0) hc3
     clear key
    case' neg=>
     obtain ⟨j,rfl⟩: ∃ j,k=j+1:=⟨k - 1,by omega⟩
     have hjl:j<L.length:=by omega
     obtain ⟨b,off,rfl,hbb,hd1,hd2⟩:=HR3.out.at_ hjl
     have hw1:IntKind.i64.wrap (((j+1:Nat):Int) - 1)=(j:Int):=by rw [IntKind.wrap_i64];omega
     have hj1:(0:Int)<((j+1:Nat):Int):=by omega
     have hj2:0<j+1:=Nat.succ_pos j
     have y1:=(HW.out.cell (p:=⟨b,off+j*2,none⟩) hbb).trans hd1
     have key2:(ltB (tl r.1) (tl (L[j]).1)=false)→_:=fun h=>key (fun _=>h)
     cases hL:ltB (tl r.1) (tl (L[j]).1)
     case' true=>
      have hbl2:Op.bytesLess (L[j]).1.toList r.1.toList=false:=by
       rw [bytesLess_eq,Px.tl_eq,Px.tl_eq]
       show ltB (tl (L[j]).1) (tl r.1)=false
       cases hq:ltB (tl (L[j]).1) (tl r.1) with
       |false=>rfl
       |true=>have:=ltB_ord.tr _ _ _ hL hq;rw [ltB_ord.irr] at this;cases this
      have hq2:((L[j]).1.toList==r.1.toList)=false:=by
       rw [beq_eq_false_iff_ne,Px.tl_eq,Px.tl_eq]
       intro e
       rw [e,ltB_ord.irr] at hL
       cases hL
      have HG2:=hid (show ∀ q x,j≤q→(rcs L)[q]?=some x→ltB (tl r.1) x.1=true from fun q x hq hx=>by
       by_cases e:q=j
       ·subst e
        rw [rc_at hjl] at hx
        injection hx with hx
        subst hx
        exact hL
       ·exact HG.out q x (by omega) hx)
      obtain ⟨y,hy⟩: ∃ y,L[j]=y:=⟨_,rfl⟩
      rw [hy] at y1 hbl2 hq2
      clear key key2 hL hy hd1 hd2 HG
      go_wp2_with fail
      go_quiet (fail)
      go_wp2_with fail
      go_roundw
      case rel=>exact ⟨j,by first|rfl|go_num,by omega,HG2,hid (Px.below_drewN' HW.out _)⟩
      case measure=>simp [intOf]
     case' false=>
      have hbl2:Op.bytesLess (L[j]).1.toList r.1.toList=true:=by
       rw [bytesLess_eq,Px.tl_eq,Px.tl_eq]
       show ltB (tl (L[j]).1) (tl r.1)=true
       cases hq:ltB (tl (L[j]).1) (tl r.1) with
       |true=>rfl
       |false=>exact absurd (ltB_ord.tot _ _ hq hL) (HNE.out (rc L[j]) (by have:=rc_at hjl;exact List.mem_of_getElem? this))
      have HK:=key2 hL
      have HTK:=hid (show (L.take (j+1)).length=j+1 by rw [List.length_take];omega)
      have HDR:=hid (show (L.drop (j+1)).length=L.length - (j+1) by rw [List.length_drop])
      have hsl:=fun W'=>slice_frontO W' (some ⟨b,off,none⟩) L.length c3 (j+1) (by omega)
      have hs2:=fun W'=>slice_restO W' (some ⟨b,off,none⟩) L.length c3 (j+1) (by omega)
      simp only [Int.natCast_add,Int.natCast_one] at hsl hs2
      have hfr:=(HR3.out.below (HW.out)).front (k:=j+1)
      have hct:=(HR3.out.below (HW.out)).cut (k:=j+1) hc3
      obtain ⟨y,hy⟩: ∃ y,L[j]=y:=⟨_,rfl⟩
      rw [hy] at y1 hbl2
      clear key key2 hL hy hd1 hd2
    all_goals
     have hbs:=HBW.out.size
     have hbw:=HW.out.size
     go_wp2_with fail
     go_quiet (fail)
     go_wp2_with (first|(at_builtin;refine Px.wpList_appRs rfl (.tmp 33) (.tmp 36) rfl W1.heap.size (.slice none 0 0) [] (L.take _) rfl (OwnR.nil _ _) (by first|exact hbw|(show _≤_;exact hbw)) (some ⟨b,off,none⟩) c3 (by rw [HTK.out];rfl) W1.heap.size (hfr.drewN _) (by rw [HTK.out,List.length_nil];omega) ?_)|(at_builtin;refine Px.wpList_appRs rfl (.tmp 33) (.tmp 36) rfl W1.heap.size (.slice none 0 0) [] (L.take _) rfl (OwnR.nil _ _) (by first|exact hbw|(show _≤_;exact hbw)) A3 c3 (by rw [HTK.out];rfl) W1.heap.size (hfr.drewN _) (by rw [HTK.out,List.length_nil];omega) ?_))
     intro v5 w5 a5 hE5 hn5 o5 hb5 _
     have hl5:a5.length≤1048576:=by rw [hE5.out];first|(simp;done)|(simp;omega)
     have HW5:=hid ((Px.below_drewN' HW.out _).trans hb5)
     have HB5:=hid (HB.out.trans (HW5.out.mono HB.out.size))
     have z1:=HC1.out _ HB5.out
     have z2:=HC2.out _ HB5.out
     have hs5:W1.heap.size≤w5.heap.size:=HW5.out.size
     clear hn5
     go_wp2_with (at_builtin;refine Px.wpList_appR rfl (.tmp 38) (.tmp 43) rfl W1.heap.size v5 a5 r rfl rfl rfl o5 hs5 rfl (by omega) ?_)
     intro v6 w6 a6 hE6 hn6 o6 hb6 _
     have HW6:=hid (HW5.out.trans hb6)
     have hs6:W1.heap.size≤w6.heap.size:=HW6.out.size
     have hl6:a6.length≤1048577:=by omega
     have hct6:=RdR.below (w:=wr.drewN _) (hct.drewN _) (hb5.trans hb6)
     clear hn6 hb5 hb6
     go_wp2_with (first|(at_builtin;refine Px.wpList_appRs rfl (.tmp 45) (.tmp 48) rfl W1.heap.size v6 a6 (L.drop _) rfl o6 hs6 (cutR (some ⟨b,off,none⟩) c3 _) _ (by rw [HDR.out];rfl) W1.heap.size hct6 (by rw [HDR.out];omega) ?_)|(at_builtin;refine Px.wpList_appRs rfl (.tmp 45) (.tmp 48) rfl W1.heap.size v6 a6 (L.drop _) rfl o6 hs6 (cutR A3 c3 _) _ (by rw [HDR.out];rfl) W1.heap.size hct6 (by rw [HDR.out];omega) ?_))
     intro v7 w7 a7 hE7 hn7 o7 hb7 _
     have HW7:=hid (HW6.out.trans hb7)
     have HB7:=hid (HB.out.trans (HW7.out.mono HB.out.size))
     have HO7:=hid (o7.lower (b2:=w.heap.size) HB.out.size)
     have HE7:=hid (show rcs a7=Px.M.puts ltB [] ((rcs l).take (i+1)) by rw [←HK.out,hE7.out,hE6.out,hE5.out];simp)
     have HL7:=hid (show a7.length=i+1 by have h:=congrArg List.length HE7.out;rw [←HK.out] at h;simp [rcs] at h;rw [HLi.out] at h;omega)
     clear hn7 hb7 o7
     go_wp2_with fail
     go_roundw
     case rel=>exact ⟨i+1,a7,by go_num,by omega,HO7,HE7,HL7.out,HB7⟩
     case measure=>simp [intOf];omega
  ·obtain rfl:i=l.length:=by omega
   go_wp2_with fail
   go_ret
   refine ⟨_,L,rfl,hid ?_,HO.out,hLi,HB.out⟩
   rw [HE.out,List.take_of_length_le (by rw [Px.rcs_len];exact Nat.le_refl _)]
end Go.Proofs.YtgbgngdakkiclaaGreatDoor

namespace Go.Proofs.YtgbgngdakkiclaaGreatDoor.Px
open Go.RowKit Go.Shelf
theorem lineLen_le {r:R2} (h:r.1.size+r.2.size≤10000000):M.lineLen (rc r)≤10000100:=by
 unfold M.lineLen
 have:=M.wid_pos (M.body (rc r)).length
 have e:(M.body (rc r)).length=r.1.size+r.2.size+3:=by rw [M.body_length];rfl
 omega
theorem line_len {r:R2} (h:r.1.size+r.2.size≤10000000):(M.line (rc r)).length=M.lineLen (rc r):=
 M.line_length (by rw [M.body_length];show r.1.size+r.2.size+3+8<_;omega)
set_option maxRecDepth 100000 in
set_option maxHeartbeats 4000000 in
theorem refPrint_any (A:Option Addr) (c:Nat) (l:List R2) (hl:l.length≤1048576) (hsh:Short l) (B:Nat) (w:World) (hB:B≤w.heap.size) (ht:TB B w) (h:RdR w w.heap.size A l):
  Calls Tryz.prog 25 #[.slice A l.length c] w (PrintIs .i64 l w):=by
 have ht':TB w.heap.size w:=fun w' hb=>ht w' (hb.mono hB)
 have HT:=Lib.hid ht'
 have HSH:=Lib.hid hsh
 have HR:=Lib.hid h
 clear ht ht' hsh h
 go_enter Tryz.func25,Tryz.ntmps25
 go_wp2
 go_loopw [4,5] (fun n i wr=> ∃ k N:Nat,n= .int .i64 N∧i= .int .i64 k∧k≤l.length∧N=(M.lines (rcs (l.take k))).length∧N≤k*10000100∧allRight (l.take k)=true∧Below w.heap.size w wr) (fun _ i _=>l.length - (intOf i).toNat)
 case atStart=>exact ⟨0,0,rfl,rfl,Nat.zero_le _,by simp [rcs,M.lines],Nat.zero_le _,rfl,Below.refl _ _⟩
 case round=>
  obtain ⟨k,N,rfl,rfl,hk,hN,hNk,hall,hb⟩:=hrel
  have hbs:=hb.size
  by_cases hlt:k<l.length
  ·obtain ⟨b,off,rfl,hbb,hc1,hc2⟩:=HR.out.at_ hlt
   have hrs:=HSH.out _ (List.getElem_mem hlt)
   have hnx:=lines_take_succ hlt
   have hs:=allRight_succ hlt hall
   have hn:=allRight_no hlt
   obtain ⟨r,hr⟩: ∃ r,l[k]=r:=⟨_,rfl⟩
   rw [hr] at hc1 hc2 hrs hnx hs hn
   have hlx:(M.lines (rcs (l.take (k+1)))).length=N+M.lineLen (rc r):=by rw [hnx,List.length_append,line_len hrs,hN]
   have hle:=lineLen_le hrs
   obtain ⟨LL,hLL⟩: ∃ LL,M.lineLen (rc r)=LL:=⟨_,rfl⟩
   rw [hLL] at hlx hle
   have C1:=fun W=>refRight_any' r.1 r.2 hrs W
   have C2:=fun W h1 h2=>refLine_any r hrs w.heap.size W h1 h2
   have hc1':=fun W (hW:Below w.heap.size w W)=>(hW.cell (p:=⟨b,off+k*2,none⟩) hbb).trans hc1
   have hc2':=fun W (hW:Below w.heap.size w W)=>(hW.cell (p:=⟨b,off+k*2+1,none⟩) hbb).trans hc2
   have HC1:=Lib.hid hc1'
   have HC2:=Lib.hid hc2'
   have HLX:=Lib.hid hlx
   have HLL:=Lib.hid hLL
   clear hr hN hnx hall hc1 hc2 hc1' hc2' hlx hLL
   cases hq:M.right (rc r) with
   |false=>
    have HE:=Lib.hid (M.printE_34 (l:=rcs l) (hn hq))
    have C1': ∀ W,Calls Tryz.prog 43 #[.agg #[.string r.1, .string r.2]] W fun e w'=>e= .returned (.bool false)∧Below W.heap.size W w':=by rw [←hq];exact C1
    have HR1:=Lib.hid C1'
    have hd1:=HC1.out _ hb
    have hd2:=HC2.out _ hb
    clear hs hn hq C1 C1' C2
    by_cases h0:k=0
    case' pos=>
     subst h0
     simp only [Nat.zero_mul,Nat.add_zero] at hd1 hd2
     have g1:(0:Int)<(l.length:Int):=by omega
    case' neg=>
     have g1:0<k:=by omega
     clear h0
    all_goals
     go_wp2_with (go_at_call 43;refine (HR1.out _).mono ?_;rintro e w2 ⟨rfl,hb3⟩)
     go_ret2
     exact PrintIs.no HE.out (by decide) (hb.trans (hb3.mono hbs))
   |true=>
    have HS:=Lib.hid (hs hq)
    have C1': ∀ W,Calls Tryz.prog 43 #[.agg #[.string r.1, .string r.2]] W fun e w'=>e= .returned (.bool true)∧Below W.heap.size W w':=by rw [←hq];exact C1
    have HR1:=Lib.hid C1'
    have HR2:=Lib.hid C2
    have hd1:=HC1.out _ hb
    have hd2:=HC2.out _ hb
    clear hs hn hq C1 C1' C2
    by_cases h0:k=0
    case' pos=>
     subst h0
     simp only [Nat.zero_mul,Nat.add_zero] at hd1 hd2 HC1 HC2
     have g1:(0:Int)<(l.length:Int):=by omega
    case' neg=>
     have g1:0<k:=by omega
     clear h0
    all_goals
     go_wp2_with (go_at_call 43;refine (HR1.out _).mono ?_;rintro e w2 ⟨rfl,hb3⟩;refine Hid.out ?_)
     refine Lib.hid ?_
     have hb4:=hb.trans (hb3.mono hbs)
     have hx1:=HC1.out _ hb4
     have hx2:=HC2.out _ hb4
     clear hd1 hd2
     go_wp2_with (go_at_call 55;refine (HR2.out _ hb4.size (HT.out.on hb4)).mono ?_;rintro e w3 ⟨x,rfl,hx,hxs,hb5⟩;(have hxl1:x.size≤LL:=by rw [hxs,HLL.out];exact Nat.le_refl _);(have HXS:=Lib.hid hxs);clear hx hxs)
     go_roundw
     case rel=>
      refine ⟨_,N+x.size,by go_num,(show Value.int .i64 _=Value.int .i64 ((_+1:Nat):Int) by go_num),by omega, ?_,by omega,HS.out,hb4.trans (hb5.mono hb4.size)⟩
      rw [HLX.out,HXS.out,HLL.out]
     case measure=>simp [intOf];omega
  ·obtain rfl:k=l.length:=by omega
   rw [List.take_length] at hN hall
   have HA:=Lib.hid hall
   have HN:=Lib.hid hN
   clear hall hN hlt
   by_cases hm:1000<l.length
   ·have HE:=Lib.hid (M.printE_3 (l:=rcs l) HA.out (.inl (by rw [rcs_len];exact hm)))
    go_wp2
    go_ret2
    exact PrintIs.no HE.out (by decide) hb
   ·by_cases hbig:1048576<N
    ·have HE:=Lib.hid (M.printE_3 (l:=rcs l) HA.out (.inr (by rw [←HN.out];exact hbig)))
     have hm':l.length≤1000:=by omega
     clear hm
     go_wp2
     go_ret2
     exact PrintIs.no HE.out (by decide) hb
    ·have HE:=Lib.hid (M.printE_0 (l:=rcs l) HA.out (by rw [rcs_len,←HN.out];omega))
     have hm':l.length≤1000:=by omega
     have hbig':N≤1048576:=by omega
     clear hm hbig
     go_wp2
     go_loopw [6,7,8] (fun v i _ wr=> ∃ k:Nat,i= .int .i64 k∧k≤l.length∧OwnB wr w.heap.size v (M.lines (rcs (l.take k)))∧Below w.heap.size w wr) (fun _ i _ _=>l.length - (intOf i).toNat)
     case atStart=>exact ⟨0,rfl,Nat.zero_le _,OwnB.nil _ _,hb⟩
     case round=>
      obtain ⟨k,rfl,hk,hown,hb⟩:=hrel
      have hbs:=hb.size
      by_cases hlt:k<l.length
      ·obtain ⟨b,off,rfl,hbb,hc1,hc2⟩:=(HR.out.below hb).at_ hlt
       have hrs:=HSH.out _ (List.getElem_mem hlt)
       have hnx:=lines_take_succ hlt
       have hle:=lines_take_le (l:=l) (k:=k)
       rw [←HN.out] at hle
       obtain ⟨r,hr⟩: ∃ r,l[k]=r:=⟨_,rfl⟩
       rw [hr] at hc1 hc2 hrs hnx
       obtain ⟨P,hP⟩: ∃ P,M.lines (rcs (l.take k))=P:=⟨_,rfl⟩
       rw [hP] at hown hnx hle
       have hLb:=lineLen_le hrs
       have HC:=Lib.hid (refLine_any r hrs w.heap.size wr hbs (HT.out.on hb))
       have HX:=Lib.hid hnx
       have HO:=Lib.hid hown
       clear hr hP hnx hown
       by_cases h0:k=0
       case' pos=>
        subst h0
        simp only [Nat.zero_mul,Nat.add_zero] at hc1 hc2
        have g1:(0:Int)<(l.length:Int):=by omega
       case' neg=>
        have g1:0<k:=by omega
        clear h0
       all_goals
        go_wp2_with (go_at_call 55;refine HC.out.mono ?_;rintro e w3 ⟨x,rfl,hx,hxs,hb5⟩;refine Hid.out ?_)
        refine Lib.hid ?_
        have hxs1:x.size≤10000100:=by rw [hxs];exact hLb
        have hb6:=hb.trans (hb5.mono hbs)
        have o3:=HO.out.below hb5
        have HXX:=Lib.hid hx
        clear hx hxs hc1 hc2
        go_wp2_with (at_builtin;refine wpList_appS rfl (.tmp 47) (.tmp 48) rfl w.heap.size _ P x rfl o3 hb6.size rfl (by omega) (by omega) ?_)
        intro v4 w4 P4 HP4 hn4 o4 hb7 hx4
        clear o3 hx4
        have hb8:=hb6.trans hb7
        clear hb7
        go_wp2
        go_roundw
        case rel=>exact ⟨_,(show Value.int .i64 _=Value.int .i64 ((_+1:Nat):Int) by go_num),by omega,by rw [HX.out,←HXX.out,←HP4.out];exact o4,hb8⟩
        case measure=>simp [intOf];omega
      ·obtain rfl:k=l.length:=by omega
       rw [List.take_length] at hown
       have HO:=Lib.hid hown
       clear hown hlt
       go_wp2
       go_ret2
       refine ⟨_,by rw [HE.out];rfl, ?_,hb⟩
       rw [M.printB_0 HE.out];exact HO.out
end Go.Proofs.YtgbgngdakkiclaaGreatDoor.Px
