/-
  Texts of one chapter, merged.
-/
import Derived.Test.YtgbgngdakkiclaaGreatDoorKhF2
import Derived.Test.YtgbgngdakkiclaaGreatDoorKhF1
import Derived.Test.YtgbgngdakkiclaaGreatDoorKhF0
import Derived.Test.YtgbgngdakkiclaaGreatDoorKhA1
import Derived.Deep.CutRange
set_option linter.unusedVariables false
set_option linter.unusedSimpArgs false
/-! KhHdTextsX -/
namespace Go.Proofs.YtgbgngdakkiclaaGreatDoor.Hd
open Go.RowKit Go.Lib
def LaidX (g:Nat) (o:Option (List Int)) (w:World) (e:Ending) (w':World):Prop:=
 (match o with
  |none=>e= .returned (.tuple #[.slice none 0 0, .bool false])
  |some zs=>e= .returned (.tuple #[.slice (some ⟨g,0,none⟩) 512 512, .bool true])∧BX w' g zs)∧But g w w'
theorem texts_rowsX (w:World) (g:Nat) (hg:g<w.heap.size) (h:M.Hdr) (o:Obj) (ht:h.name.size≤100000∧h.link.size≤100000∧h.user.size≤100000∧h.group.size≤100000∧h.pre.size≤100000):
  ∀ k,k<5→ ∃ (s:ByteArray) (a m:Nat),(M.tq h)[k]?=some (s,a,m)∧s.size≤100000∧a+m≤512∧m≤200∧Hid (∀ V,But g ((((w.alloc o).alloc (.cells #[.string h.name, .string h.link, .string h.user, .string h.group, .string h.pre] 9)).alloc
    (.cells #[.int .i64 0, .int .i64 157, .int .i64 265, .int .i64 297, .int .i64 345] 3)).alloc (.cells #[.int .i64 100, .int .i64 100, .int .i64 32, .int .i64 32, .int .i64 155] 3)) V→
    V.cell? ⟨w.heap.size+1,k,none⟩=some (.string s)∧V.cell? ⟨w.heap.size+1+1,k,none⟩=some (.int .i64 a)∧V.cell? ⟨w.heap.size+1+1+1,k,none⟩=some (.int .i64 m)):=by
 intro k hk
 obtain ⟨_,r2,r3,r4,_,hs⟩:=four_new w o (.cells #[.string h.name, .string h.link, .string h.user, .string h.group, .string h.pre] 9) (.cells #[.int .i64 0, .int .i64 157, .int .i64 265, .int .i64 297, .int .i64 345] 3)
  (.cells #[.int .i64 100, .int .i64 100, .int .i64 32, .int .i64 32, .int .i64 155] 3)
 have h5:k=0∨k=1∨k=2∨k=3∨k=4:=by omega
 obtain ⟨t0,t1,t2,t3,t4⟩:=ht
 rcases h5 with rfl|rfl|rfl|rfl|rfl
 ·exact ⟨_,0,100,rfl,t0,by decide,by decide,hid fun V hV=>⟨cell_of ((hV.block _ (by omega) (by omega)).trans r2) rfl,cell_of ((hV.block _ (by omega) (by omega)).trans r3) rfl,cell_of ((hV.block _ (by omega) (by omega)).trans r4) rfl⟩⟩
 ·exact ⟨_,157,100,rfl,t1,by decide,by decide,hid fun V hV=>⟨cell_of ((hV.block _ (by omega) (by omega)).trans r2) rfl,cell_of ((hV.block _ (by omega) (by omega)).trans r3) rfl,cell_of ((hV.block _ (by omega) (by omega)).trans r4) rfl⟩⟩
 ·exact ⟨_,265,32,rfl,t2,by decide,by decide,hid fun V hV=>⟨cell_of ((hV.block _ (by omega) (by omega)).trans r2) rfl,cell_of ((hV.block _ (by omega) (by omega)).trans r3) rfl,cell_of ((hV.block _ (by omega) (by omega)).trans r4) rfl⟩⟩
 ·exact ⟨_,297,32,rfl,t3,by decide,by decide,hid fun V hV=>⟨cell_of ((hV.block _ (by omega) (by omega)).trans r2) rfl,cell_of ((hV.block _ (by omega) (by omega)).trans r3) rfl,cell_of ((hV.block _ (by omega) (by omega)).trans r4) rfl⟩⟩
 ·exact ⟨_,345,155,rfl,t4,by decide,by decide,hid fun V hV=>⟨cell_of ((hV.block _ (by omega) (by omega)).trans r2) rfl,cell_of ((hV.block _ (by omega) (by omega)).trans r3) rfl,cell_of ((hV.block _ (by omega) (by omega)).trans r4) rfl⟩⟩
set_option maxRecDepth 100000 in
set_option maxHeartbeats 2000000 in
theorem refTextsX_any (g:Nat) (zs0:List Int) (h:M.Hdr) (A:Option Addr) (n c:Nat) (w:World) (hb:BX w g zs0) (ht:h.name.size≤100000∧h.link.size≤100000∧h.user.size≤100000∧h.group.size≤100000∧h.pre.size≤100000):
  Calls Tryz.prog 59 #[.slice (some ⟨g,0,none⟩) 512 512, .agg (hcells h (.slice A n c))] w (LaidX g (M.dt zs0 (M.tq h)) w):=by
 have HG:=hid hb.lt
 have B1:=hid (HB.new w h (.slice A n c))
 have k0:=HB.cell B1.out (i:=0) (v:= .string h.name) rfl
 have k7:=HB.cell B1.out (i:=7) (v:= .string h.link) rfl
 have k9:=HB.cell B1.out (i:=9) (v:= .string h.user) rfl
 have k10:=HB.cell B1.out (i:=10) (v:= .string h.group) rfl
 have k13:=HB.cell B1.out (i:=13) (v:= .string h.pre) rfl
 have HL:=hid (texts_rowsX w g hb.lt h (.cells (hcells h (.slice A n c)) 39) ht)
 have HW:=hid (four_new w (.cells (hcells h (.slice A n c)) 39) (.cells #[.string h.name, .string h.link, .string h.user, .string h.group, .string h.pre] 9) (.cells #[.int .i64 0, .int .i64 157, .int .i64 265, .int .i64 297, .int .i64 345] 3)
  (.cells #[.int .i64 100, .int .i64 100, .int .i64 32, .int .i64 32, .int .i64 155] 3)).2.2.2.2.1
 have HX:=hid (hb.below HW.out hb.lt)
 clear hb ht
 go_enter Tryz.func59,Tryz.ntmps59
 go_wp2_with fail
 clear k0 k7 k9 k10 k13 B1
 generalize World.alloc (World.alloc (World.alloc (World.alloc w _) _) _) _=W at*
 go_loopw [0,9] (fun b i wr=> ∃ k:Nat,b= .slice (some ⟨g,0,none⟩) 512 512∧i= .int .i64 k∧k≤5∧(∃ zk,Hid (BX wr g zk)∧Hid (M.dt zs0 (M.tq h)=M.dt zk ((M.tq h).drop k)))∧Hid (But g W wr)) (fun _ i _=>5 - (RowKit.intOf i).toNat)
 case atStart=>exact ⟨0,rfl,rfl,Nat.zero_le _,⟨zs0,HX,hid rfl⟩,hid (But.refl _ _)⟩
 case round=>
  clear HX
  obtain ⟨k,rfl,rfl,hk,⟨zk,HX,HD⟩,HU⟩:=hrel
  by_cases hlt:k<5
  ·obtain ⟨s,a,m,htq,hs,ham,hm,HC⟩:=HL.out k hlt
   have HDk:=hid (show M.dt zs0 (M.tq h)=M.dt zk ((s,a,m)::(M.tq h).drop (k+1)) by
    obtain ⟨hq1,hq2⟩:=List.getElem?_eq_some_iff.1 htq
    rw [HD.out,List.drop_eq_getElem_cons hq1,hq2])
   clear htq HD
   have E5:=hid (show decide ((k:Int)<5)=true by rw [decide_eq_true_eq];omega)
   have HLT:=hid hlt
   go_wp2_with fail
   simp only [E5.out]
   clear E5 hlt
   have HXd:=hid HX.out.drew
   have HUd:=hid HU.out.drew
   clear HX HU
   have HC1:=hid (fun V (hV:But g W V∧BX V g zk)=>(HC.out V hV.1).1)
   have HC2:=hid (fun V (hV:But g W V∧BX V g zk)=>(HC.out V hV.1).2.2)
   refine wp_region_held_drew (S:=fun V=>But g W V∧BX V g zk) (by kernel_rfl) ⟨HUd.out,HXd.out⟩ (fun hS=> ?_)
   refine takeH (i:=0) (v:= ?_) 30 rfl rfl (by kernel_rfl) (by kernel_rfl) (by kernel_rfl) (fun _ _ _ h=>h) (by rfl) ?hy0 hS ?rest0
   case hy0=>(intro W hW;clear hW;go_simp;first|done|with_reducible rfl)
   try simp only [Act.put,List.setIfInBounds_toArray,List.set_cons_zero,List.set_cons_succ]
   refine takeH (i:=1) (v:= ?_) 31 rfl rfl (by kernel_rfl) (by kernel_rfl) (by kernel_rfl) (fun _ _ _ h=>h) (by rfl) ?hy1 hS ?rest1
   case hy1=>(intro W hW;clear hW;go_simp;first|done|with_reducible rfl)
   try simp only [Act.put,List.setIfInBounds_toArray,List.set_cons_zero,List.set_cons_succ]
   refine takeH (i:=2) (v:= ?_) 32 rfl rfl (by kernel_rfl) (by kernel_rfl) (by kernel_rfl) (fun _ _ _ h=>h) (by rfl) ?hy2 hS ?rest2
   case hy2=>(intro W hW;clear hW;go_simp;first|done|with_reducible rfl)
   try simp only [Act.put,List.setIfInBounds_toArray,List.set_cons_zero,List.set_cons_succ]
   refine takeH (i:=3) (v:= ?_) 33 rfl rfl (by kernel_rfl) (by kernel_rfl) (by kernel_rfl) (fun _ _ _ h=>h) (by rfl) ?hy3 hS ?rest3
   case hy3=>(intro W hW;have f0:=HC1.out W hW;clear hW;go_simp;first|done|with_reducible rfl)
   try simp only [Act.put,List.setIfInBounds_toArray,List.set_cons_zero,List.set_cons_succ]
   refine takeH (i:=4) (v:= ?_) 34 rfl rfl (by kernel_rfl) (by kernel_rfl) (by kernel_rfl) (fun _ _ _ h=>h) (by rfl) ?hy4 hS ?rest4
   case hy4=>(intro W hW;clear hW;go_simp;first|done|with_reducible rfl)
   try simp only [Act.put,List.setIfInBounds_toArray,List.set_cons_zero,List.set_cons_succ]
   refine takeH (i:=5) (v:= ?_) 35 rfl rfl (by kernel_rfl) (by kernel_rfl) (by kernel_rfl) (fun _ _ _ h=>h) (by rfl) ?hy5 hS ?rest5
   case hy5=>(intro W hW;clear hW;go_simp;first|done|with_reducible rfl)
   try simp only [Act.put,List.setIfInBounds_toArray,List.set_cons_zero,List.set_cons_succ]
   refine takeH (i:=6) (v:= ?_) 36 rfl rfl (by kernel_rfl) (by kernel_rfl) (by kernel_rfl) (fun _ _ _ h=>h) (by rfl) ?hy6 hS ?rest6
   case hy6=>(intro W hW;clear hW;go_simp;first|done|with_reducible rfl)
   try simp only [Act.put,List.setIfInBounds_toArray,List.set_cons_zero,List.set_cons_succ]
   refine takeH (i:=7) (v:= ?_) 37 rfl rfl (by kernel_rfl) (by kernel_rfl) (by kernel_rfl) (fun _ _ _ h=>h) (by rfl) ?hy7 hS ?rest7
   case hy7=>(intro W hW;have f0:=HC2.out W hW;clear hW;go_simp;first|done|with_reducible rfl)
   try simp only [Act.put,List.setIfInBounds_toArray,List.set_cons_zero,List.set_cons_succ]
   refine loneH (i:=8) 38 rfl rfl (by kernel_rfl) (by rfl) (fun K hK=> ?_)
   go_simp
   generalize hSV:World.drew wr=V at*
   (with_reducible refine (S.refPut_own s hs m (by omega) (by omega) _).mono ?_)
   rintro e w1 ⟨A1,n1,d1,rfl,_,_,hrd,b1,hown⟩
   have HNE:=hid (fun b off (e:A1=some ⟨b,off,none⟩)=>(Nat.ne_of_gt (Nat.lt_of_lt_of_le hS.2.lt (hown b off e)):b≠g))
   clear hown
   have HX1:=hid (BX.below hS.2 b1 hS.2.lt)
   have HU1:=hid (hS.1.trans (But.of_below b1))
   clear hS
   refine hK.out _ _ ⟨HU1.out,HX1.out⟩ (fun hS=> ?_)
   clear hK K
   try simp only [Act.put,List.setIfInBounds_toArray,List.set_cons_zero,List.set_cons_succ]
   refine takeH (i:=9) (v:= ?_) 29 rfl rfl (by kernel_rfl) (by kernel_rfl) (by kernel_rfl) (fun _ _ _ h=>h) (by rfl) ?hy9 hS ?rest9
   case hy9=>(intro W hW;clear hW;go_simp;first|done|with_reducible rfl)
   try simp only [Act.put,List.setIfInBounds_toArray,List.set_cons_zero,List.set_cons_succ]
   refine takeH (i:=10) (v:= ?_) 39 rfl rfl (by kernel_rfl) (by kernel_rfl) (by kernel_rfl) (fun _ _ _ h=>h) (by rfl) ?hy10 hS ?rest10
   case hy10=>(intro W hW;clear hW;go_simp;first|done|with_reducible rfl)
   try simp only [Act.put,List.setIfInBounds_toArray,List.set_cons_zero,List.set_cons_succ]
   refine takeH (i:=11) (v:= ?_) 40 rfl rfl (by kernel_rfl) (by kernel_rfl) (by kernel_rfl) (fun _ _ _ h=>h) (by rfl) ?hy11 hS ?rest11
   case hy11=>(intro W hW;clear hW;go_simp;first|done|with_reducible rfl)
   try simp only [Act.put,List.setIfInBounds_toArray,List.set_cons_zero,List.set_cons_succ]
   refine takeH (i:=12) (v:= ?_) 10 rfl rfl (by kernel_rfl) (by kernel_rfl) (by kernel_rfl) (fun _ _ _ h=>h) (by rfl) ?hy12 hS ?rest12
   case hy12=>(intro W hW;clear hW;go_simp;first|done|with_reducible rfl)
   try simp only [Act.put,List.setIfInBounds_toArray,List.set_cons_zero,List.set_cons_succ]
   refine takeH (i:=13) (v:= ?_) 11 rfl rfl (by kernel_rfl) (by kernel_rfl) (by kernel_rfl) (fun _ _ _ h=>h) (by rfl) ?hy13 hS ?rest13
   case hy13=>(intro W hW;clear hW;go_simp;first|done|with_reducible rfl)
   try simp only [Act.put,List.setIfInBounds_toArray,List.set_cons_zero,List.set_cons_succ]
   refine wpAnyH_done (by kernel_rfl) ?_ _
   try simp only [Act.put,List.setIfInBounds_toArray,List.set_cons_zero,List.set_cons_succ]
   cases hp:S.M.put s.data.toList m with
   |none=>
    clear hrd
    rw [show (none:Option (List UInt8)).isSome=false from rfl]
    go_wp2
    go_ret2
    have ht:M.tOk m s=false:=by unfold M.tOk;rw [hp];rfl
    refine ⟨?_,(But.of_below HW.out).trans HU1.out⟩
    rw [HDk.out]
    show (match (if M.tOk m s=true then _ else none:Option (List Int)) with|none=>_|some zs=>_)
    rw [ht,if_neg (by decide)]
    exact rfl
   |some l=>
    rw [hp] at hrd
    have hT:M.tOk m s=true:=by unfold M.tOk;rw [hp];rfl
    have HT:=hid (show M.dt zs0 (M.tq h)=M.dt (if M.blank s=true then zk else splice zk a (S.ints l)) ((M.tq h).drop (k+1)) by
     rw [HDk.out,M.put_eq hp]
     show (if M.tOk m s=true then _ else none)=_
     rw [if_pos hT])
    clear hT
    have hn1:n1=m:=by have:=hrd.len;rw [show (some l:Option (List UInt8)).getD []=l from rfl,S.ints_length,put_len hp] at this;exact this.symm
    subst hn1
    have HR:=hid (show Rd w1 w1.heap.size A1 n1 (S.ints l) from hrd)
    clear hrd hp HDk
    obtain ⟨c1,c2,c3⟩:=HC.out w1 HU1.out
    clear c3
    rw [show (some l:Option (List UInt8)).isSome=true from rfl]
    by_cases hs0:s=⟨#[]⟩
    ·subst hs0
     go_wp2_with fail
     go_roundw
     case rel=>exact ⟨k+1,rfl,(by go_num),HLT.out,⟨zk,HX1,hid (by rw [HT.out,if_pos (by decide+kernel)])⟩,HU1⟩
     case measure=>have:=HLT.out;simp [RowKit.intOf];omega
    ·have e1:(s.toList== [])=false:=by
      rw [beq_eq_false_iff_ne]
      exact fun e=>hs0 (toList_inj (e.trans (by decide+kernel)))
     go_wp2_with fail
     have HCL:=hid (layX_any g a A1 n1 d1 zk (S.ints l) w1 HX1.out HR.out HNE.out (by omega))
     have HT1:=hid (show M.dt zs0 (M.tq h)=M.dt (splice zk a (S.ints l)) ((M.tq h).drop (k+1)) by rw [HT.out,if_neg (by unfold M.blank;rw [e1];decide)])
     clear HT
     (with_reducible refine HCL.out.mono ?_)
     rintro e w2 ⟨rfl,hx2,hu2⟩
     have HX2:=hid hx2
     have HU2:=hid (HU1.out.trans hu2)
     clear hx2 hu2 c1 c2 HX1 HU1 HCL HR
     go_wp2_with fail
     go_roundw
     case rel=>exact ⟨k+1,rfl,(by go_num),HLT.out,⟨_,HX2,HT1⟩,HU2⟩
     case measure=>have:=HLT.out;simp [RowKit.intOf];omega
  ·obtain rfl:k=5:=by omega
   go_wp2
   go_ret2
   refine ⟨?_,(But.of_below HW.out).trans HU.out⟩
   rw [HD.out,show (M.tq h).drop 5= [] from rfl]
   exact ⟨rfl,HX.out⟩
end Go.Proofs.YtgbgngdakkiclaaGreatDoor.Hd

/-! KhHdNumsX -/
namespace Go.Proofs.YtgbgngdakkiclaaGreatDoor.Hd
open Go.RowKit Go.Lib
theorem nqR_succ {h:M.Hdr} {k:Nat} {p q:Int} (hp:h.parts[k]?=some (p,q)):M.nqR h (k+1)=M.nqR h k++ [(p,386+24*k,12),(q,398+24*k,12)]:=by
 have hl:(h.parts.take k).length=k:=by
  have:=(List.getElem?_eq_some_iff.1 hp).1
  rw [List.length_take];omega
 unfold M.nqR
 rw [List.take_add_one,hp,Option.toList_some,M.pq_snoc,hl,Nat.zero_add,←List.cons_append,List.append_assoc]
set_option maxRecDepth 100000 in
set_option maxHeartbeats 4000000 in
theorem refNumbersX_any (g:Nat) (zs0:List Int) (h:M.Hdr) (A:Option Addr) (c:Nat) (w:World) (hb:BX w g zs0) (hi:HIn w h (.slice A h.parts.length c)) (h4:h.parts.length≤4):
  Calls Tryz.prog 61 #[.slice (some ⟨g,0,none⟩) 512 512, .agg (hcells h (.slice A h.parts.length c))] w (LaidX g (M.dn zs0 (M.nq h)) w):=by
 have HX:=hid hb
 have HI:=hid hi
 have H4:=hid h4
 clear hb hi h4
 have HQ7:=hid (show M.nq7 h=M.nq5 h++(if decide (0<h.way)=true then [(h.major,329,8),(h.minor,337,8)] else []) from rfl)
 have HQ:=hid (show M.nq h=if (h.kind==83)=true then M.nqR h h.parts.length else M.nq7 h from rfl)
 generalize hn:h.parts.length=n at*
 have HN:=hid hn
 clear hn
 have B1:=hid (HB.new w h (.slice A n c))
 have k1:=HB.cell B1.out (i:=1) (v:= .int .i64 h.mode) rfl
 have k2:=HB.cell B1.out (i:=2) (v:= .int .i64 h.uid) rfl
 have k3:=HB.cell B1.out (i:=3) (v:= .int .i64 h.gid) rfl
 have k4:=HB.cell B1.out (i:=4) (v:= .int .i64 h.size) rfl
 have k5:=HB.cell B1.out (i:=5) (v:= .int .i64 h.mtime) rfl
 have HF:=hid (four_new w (.cells (hcells h (.slice A n c)) 39) (.cells #[.int .i64 h.mode, .int .i64 h.uid, .int .i64 h.gid, .int .i64 h.size, .int .i64 h.mtime] 3)
  (.cells #[.int .i64 100, .int .i64 108, .int .i64 116, .int .i64 124, .int .i64 136] 3) (.cells #[.int .i64 8, .int .i64 8, .int .i64 8, .int .i64 12, .int .i64 12] 3))
 clear B1
 go_enter Tryz.func61,Tryz.ntmps61
 go_upto_region 4 with fail
 clear k1 k2 k3 k4 k5
 generalize World.alloc (World.alloc (World.alloc (World.alloc w _) _) _) _=W at*
 have S0:Hid (NS w W h (.slice A n c) (.slice (some ⟨w.heap.size+1,0,none⟩) 5 5) (.slice (some ⟨w.heap.size+1+1,0,none⟩) 5 5) (.slice (some ⟨w.heap.size+1+1+1,0,none⟩) 5 5) 5 (M.nq5 h)):=hid (by
  obtain ⟨r1,r2,r3,r4,rb,_⟩:=HF.out
  obtain ⟨i1,i2,i3,i4,i5,_⟩:=HI.out.ints
  refine ⟨OwnI.lit _ _ _ rfl r2 (Nat.le_refl _) (show (5:Nat)≤1048576 by decide),OwnI.lit _ _ _ rfl r3 (by omega) (show (5:Nat)≤1048576 by decide),OwnI.lit _ _ _ rfl r4 (by omega) (show (5:Nat)≤1048576 by decide), .inr ?_, .inr ?_, .inr ?_, ?_,Nat.le_refl _,Nat.succ_pos _,r1,rb⟩
  ·intro e;have:=Option.some.inj e;dsimp only at this;omega
  ·intro e;have:=Option.some.inj e;dsimp only at this;omega
  ·intro e;have:=Option.some.inj e;dsimp only at this;omega
  ·intro x hx
   unfold M.nq5 at hx
   simp only [List.mem_cons,List.not_mem_nil,or_false] at hx
   rcases hx with rfl|rfl|rfl|rfl|rfl
   ·exact ⟨i1,Nat.le_of_ble_eq_true rfl,Nat.le_of_ble_eq_true rfl⟩
   ·exact ⟨i2,Nat.le_of_ble_eq_true rfl,Nat.le_of_ble_eq_true rfl⟩
   ·exact ⟨i3,Nat.le_of_ble_eq_true rfl,Nat.le_of_ble_eq_true rfl⟩
   ·exact ⟨i4,Nat.le_of_ble_eq_true rfl,Nat.le_of_ble_eq_true rfl⟩
   ·exact ⟨i5,Nat.le_of_ble_eq_true rfl,Nat.le_of_ble_eq_true rfl⟩)
 clear HF
 have k8:=HB.cell S0.out.box (i:=8) (v:= .int .i64 h.way) rfl
 have k11:=HB.cell S0.out.box (i:=11) (v:= .int .i64 h.major) rfl
 have k12:=HB.cell S0.out.box (i:=12) (v:= .int .i64 h.minor) rfl
 go_upto_if 28 with fail
 generalize decide (0<h.way)=bw at HQ7⊢
 go_cut [6,7,8] from 29 to 41 (fun x y z wx=>NS w wx h (.slice A n c) x y z 7 (M.nq7 h))
 case first=>
  cases bw
  ·go_wp2_with fail
   go_meet
   case rel=>
    rw [HQ7.out,if_neg Bool.false_ne_true,List.append_nil]
    exact S0.out.mono (by decide)
  ·go_wp2_with (first
    |(refine wpList_appI rfl (.tmp 29) (.tmp 34) rfl (w.heap.size+1) _ _ [h.major,h.minor] _ rfl 2 rfl (by simp [Act.eval]) S0.out.l S0.out.base (by simp [Act.eval]) (S0.out.len (m:=2) _ (by decide)) ?_;intro v1 w1 o1 g1 c1)
    |(refine wpList_appI rfl (.tmp 36) (.tmp 37) rfl (w.heap.size+1) _ _ [329,337] _ rfl 2 rfl (by simp [Act.eval]) (S0.out.a1 g1.out) (S0.out.b1 g1.out) (by simp [Act.eval]) (S0.out.len (m:=2) _ (by decide)) ?_;intro v2 w2 o2 g2 c2)
    |(refine wpList_appI rfl (.tmp 39) (.tmp 40) rfl (w.heap.size+1) _ _ [8,8] _ rfl 2 rfl (by simp [Act.eval]) (S0.out.d2 g1.out g2.out) (S0.out.b2 g1.out g2.out) (by simp [Act.eval]) (S0.out.len (m:=2) _ (by decide)) ?_;intro v3 w3 o3 g3 c3))
   go_meet
   case rel=>
    rw [HQ7.out,if_pos (by trivial)]
    exact S0.out.more [(h.major,329,8),(h.minor,337,8)] rfl rfl rfl o1.out g1.out c1.out o2.out g2.out c2.out o3.out g3.out c3.out (by
    obtain ⟨_,_,_,_,_,i6,i7,_⟩:=HI.out.ints
    intro x hx
    simp only [List.mem_cons,List.not_mem_nil,or_false] at hx
    rcases hx with rfl|rfl
    ·exact ⟨i6,Nat.le_of_ble_eq_true rfl,Nat.le_of_ble_eq_true rfl⟩
    ·exact ⟨i7,Nat.le_of_ble_eq_true rfl,Nat.le_of_ble_eq_true rfl⟩)
 case rest=>
  clear k8 k11 k12 S0
  have S1:=hid hcut
  clear hcut
  have k6:=HB.cell S1.out.box (i:=6) (v:= .int .u8 h.kind) rfl
  have k16:=HB.cell S1.out.box (i:=16) (v:= .int .i64 h.real) rfl
  go_upto_if 44 with fail
  generalize (h.kind==83)=bk at HQ⊢
  go_cut [6,7,8,9] from 45 to 89 (fun x y z _ wx=>NS w wx h (.slice A n c) x y z 16 (M.nq h))
  case first=>
   cases bk
   ·go_wp2_with fail
    go_meet
    case rel=>
     rw [HQ.out,if_neg Bool.false_ne_true]
     exact S1.out.mono (by decide)
   ·go_upto_region 12 with (first
     |(refine wpList_appI rfl (.tmp 45) (.tmp 48) rfl (w.heap.size+1) _ _ [h.real] _ rfl 1 rfl (by simp [Act.eval]) S1.out.l S1.out.base (by simp [Act.eval]) (S1.out.len (m:=1) _ (by decide)) ?_;intro v1 w1 o1 g1 c1)
     |(refine wpList_appI rfl (.tmp 50) (.tmp 51) rfl (w.heap.size+1) _ _ [483] _ rfl 1 rfl (by simp [Act.eval]) (S1.out.a1 g1.out) (S1.out.b1 g1.out) (by simp [Act.eval]) (S1.out.len (m:=1) _ (by decide)) ?_;intro v2 w2 o2 g2 c2)
     |(refine wpList_appI rfl (.tmp 53) (.tmp 54) rfl (w.heap.size+1) _ _ [12] _ rfl 1 rfl (by simp [Act.eval]) (S1.out.d2 g1.out g2.out) (S1.out.b2 g1.out g2.out) (by simp [Act.eval]) (S1.out.len (m:=1) _ (by decide)) ?_;intro v3 w3 o3 g3 c3))
    have S2:=hid (S1.out.more [(h.real,483,12)] rfl rfl rfl o1.out g1.out c1.out o2.out g2.out c2.out o3.out g3.out c3.out (by
     obtain ⟨_,_,_,_,_,_,_,i8⟩:=HI.out.ints
     intro x hx
     simp only [List.mem_cons,List.not_mem_nil,or_false] at hx
     subst hx
     exact ⟨i8,Nat.le_of_ble_eq_true rfl,Nat.le_of_ble_eq_true rfl⟩))
    clear o1 g1 c1 o2 g2 c2 o3 g3 c3 S1 k6 k16
    go_wp2_with fail
    go_loopw [6,7,8,9] (fun x y z i wr=> ∃ k:Nat,i= .int .i64 k∧k≤n∧NS w wr h (.slice A n c) x y z (8+2*k) (M.nqR h k)) (fun _ _ _ i _=>n - (RowKit.intOf i).toNat)
    case atStart=>exact ⟨0,rfl,Nat.zero_le _,S2.out⟩
    case round=>
     clear S2
     obtain ⟨k,rfl,hk,s⟩:=hrel
     have S3:=hid s
     clear s
     have k14:=HB.cell S3.out.box (i:=14) (v:= .slice A n c) rfl
     have hk4:k≤4:=Nat.le_trans hk H4.out
     by_cases hkn:k<n
     ·obtain ⟨A',c',he,_,hcells⟩:=PartsB.below HI.out.parts S3.out.below
      injection he with he1 he2 he3
      clear he2
      subst he1 he3
      obtain ⟨ba,oa,rfl,_,hca⟩:=hcells (by rw [HN.out];omega)
      obtain ⟨⟨p,p2⟩,hpk⟩: ∃ p,h.parts[k]?=some p:=⟨_,List.getElem?_eq_getElem (by rw [HN.out];exact hkn)⟩
      have HPN:=hid (HI.out.nums _ (List.mem_of_getElem? hpk))
      have HRS:=hid (nqR_succ hpk)
      clear hcells hca
      go_wp2_with fail
      have S4:=hid S3.out.drew
      clear S3 k14
      obtain ⟨A',c',he,_,hcells⟩:=PartsB.below HI.out.parts S4.out.below
      injection he with he1 he2 he3
      clear he2
      subst he1 he3
      obtain ⟨ba',oa',he,hba,hca⟩:=hcells (by rw [HN.out];omega)
      injection he with he
      injection he with he1 he2
      subst he1 he2
      obtain ⟨a0,a1⟩:=hca k _ hpk
      dsimp only at a0 a1
      rw [show 2*k=k*2 by omega] at a0 a1
      have C14:=hid (fun V (hV:Below (w.heap.size+1) wr.drew V)=>(hV.cell (p:=⟨w.heap.size,14,none⟩) (Nat.lt_succ_self _)).trans (HB.cell S4.out.box (i:=14) (v:= .slice (some ⟨ba,oa,none⟩) n c) rfl))
      have CA0:=hid (fun V (hV:Below (w.heap.size+1) wr.drew V)=>(hV.cell (p:=⟨ba,oa+k*2,none⟩) (Nat.lt_succ_of_lt hba)).trans a0)
      have CA1:=hid (fun V (hV:Below (w.heap.size+1) wr.drew V)=>(hV.cell (p:=⟨ba,oa+k*2+1,none⟩) (Nat.lt_succ_of_lt hba)).trans a1)
      have hS0:Below (w.heap.size+1) wr.drew wr.drew:=Below.refl _ _
      clear hcells hca hpk a0 a1 hba
      refine wp_region_held_drew (S:=fun U=>Below (w.heap.size+1) wr.drew U) (by kernel_rfl) hS0 (fun hS=> ?_)
      clear hS0
      generalize hSV:wr.drew=V at*
      clear hSV
      refine takeH (i:=0) (v:= ?_) 63 rfl rfl (by kernel_rfl) (by kernel_rfl) (by kernel_rfl) (fun _ _ _ h=>h) (by rfl) ?hy0 hS ?rest0
      case hy0=>(intro W hW;clear hW;go_simp;first|done|with_reducible rfl)
      try simp only [Act.put,List.setIfInBounds_toArray,List.set_cons_zero,List.set_cons_succ]
      refine takeH (i:=1) (v:= ?_) 64 rfl rfl (by kernel_rfl) (by kernel_rfl) (by kernel_rfl) (fun _ _ _ h=>h) (by rfl) ?hy1 hS ?rest1
      case hy1=>(intro W hW;clear hW;go_simp;first|done|with_reducible rfl)
      try simp only [Act.put,List.setIfInBounds_toArray,List.set_cons_zero,List.set_cons_succ]
      refine takeH (i:=2) (v:= ?_) 65 rfl rfl (by kernel_rfl) (by kernel_rfl) (by kernel_rfl) (fun _ _ _ h=>h) (by rfl) ?hy2 hS ?rest2
      case hy2=>(intro W hW;have f0:=C14.out W hW;clear hW;go_simp;first|done|with_reducible rfl)
      try simp only [Act.put,List.setIfInBounds_toArray,List.set_cons_zero,List.set_cons_succ]
      refine takeH (i:=3) (v:= ?_) 66 rfl rfl (by kernel_rfl) (by kernel_rfl) (by kernel_rfl) (fun _ _ _ h=>h) (by rfl) ?hy3 hS ?rest3
      case hy3=>(intro W hW;clear hW;go_simp;first|done|with_reducible rfl)
      try simp only [Act.put,List.setIfInBounds_toArray,List.set_cons_zero,List.set_cons_succ]
      refine takeH (i:=4) (v:= ?_) 67 rfl rfl (by kernel_rfl) (by kernel_rfl) (by kernel_rfl) (fun _ _ _ h=>h) (by rfl) ?hy4 hS ?rest4
      case hy4=>(intro W hW;clear hW;go_simp;first|done|with_reducible rfl)
      try simp only [Act.put,List.setIfInBounds_toArray,List.set_cons_zero,List.set_cons_succ]
      refine takeH (i:=5) (v:= ?_) 68 rfl rfl (by kernel_rfl) (by kernel_rfl) (by kernel_rfl) (fun _ _ _ h=>h) (by rfl) ?hy5 hS ?rest5
      case hy5=>(intro W hW;clear hW;go_simp;first|done|with_reducible rfl)
      try simp only [Act.put,List.setIfInBounds_toArray,List.set_cons_zero,List.set_cons_succ]
      refine takeH (i:=6) (v:= ?_) 69 rfl rfl (by kernel_rfl) (by kernel_rfl) (by kernel_rfl) (fun _ _ _ h=>h) (by rfl) ?hy6 hS ?rest6
      case hy6=>(intro W hW;have f0:=CA0.out W hW;clear hW;go_simp;first|done|with_reducible rfl)
      try simp only [Act.put,List.setIfInBounds_toArray,List.set_cons_zero,List.set_cons_succ]
      refine takeH (i:=7) (v:= ?_) 70 rfl rfl (by kernel_rfl) (by kernel_rfl) (by kernel_rfl) (fun _ _ _ h=>h) (by rfl) ?hy7 hS ?rest7
      case hy7=>(intro W hW;clear hW;go_simp;first|done|with_reducible rfl)
      try simp only [Act.put,List.setIfInBounds_toArray,List.set_cons_zero,List.set_cons_succ]
      refine takeH (i:=8) (v:= ?_) 71 rfl rfl (by kernel_rfl) (by kernel_rfl) (by kernel_rfl) (fun _ _ _ h=>h) (by rfl) ?hy8 hS ?rest8
      case hy8=>(intro W hW;have f0:=C14.out W hW;clear hW;go_simp;first|done|with_reducible rfl)
      try simp only [Act.put,List.setIfInBounds_toArray,List.set_cons_zero,List.set_cons_succ]
      refine takeH (i:=9) (v:= ?_) 72 rfl rfl (by kernel_rfl) (by kernel_rfl) (by kernel_rfl) (fun _ _ _ h=>h) (by rfl) ?hy9 hS ?rest9
      case hy9=>(intro W hW;clear hW;go_simp;first|done|with_reducible rfl)
      try simp only [Act.put,List.setIfInBounds_toArray,List.set_cons_zero,List.set_cons_succ]
      refine takeH (i:=10) (v:= ?_) 73 rfl rfl (by kernel_rfl) (by kernel_rfl) (by kernel_rfl) (fun _ _ _ h=>h) (by rfl) ?hy10 hS ?rest10
      case hy10=>(intro W hW;clear hW;go_simp;first|done|with_reducible rfl)
      try simp only [Act.put,List.setIfInBounds_toArray,List.set_cons_zero,List.set_cons_succ]
      refine takeH (i:=11) (v:= ?_) 74 rfl rfl (by kernel_rfl) (by kernel_rfl) (by kernel_rfl) (fun _ _ _ h=>h) (by rfl) ?hy11 hS ?rest11
      case hy11=>(intro W hW;clear hW;go_simp;first|done|with_reducible rfl)
      try simp only [Act.put,List.setIfInBounds_toArray,List.set_cons_zero,List.set_cons_succ]
      refine takeH (i:=12) (v:= ?_) 75 rfl rfl (by kernel_rfl) (by kernel_rfl) (by kernel_rfl) (fun _ _ _ h=>h) (by rfl) ?hy12 hS ?rest12
      case hy12=>(intro W hW;have f0:=CA1.out W hW;clear hW;go_simp;first|done|with_reducible rfl)
      try simp only [Act.put,List.setIfInBounds_toArray,List.set_cons_zero,List.set_cons_succ]
      refine loneH (i:=13) 76 rfl rfl (by kernel_rfl) (by rfl) (fun K hK=> ?_)
      go_simp
      refine hK.out _ _ (hS.alloc S4.out.base _) (fun hS=> ?_)
      clear hK K
      try simp only [Act.put,List.setIfInBounds_toArray,List.set_cons_zero,List.set_cons_succ]
      refine loneH (i:=14) 77 rfl rfl (by kernel_rfl) (by rfl) (fun K hK=> ?_)
      refine wp_appI (.tmp 63) (.tmp 76) rfl (w.heap.size+1) _ _ [p,p2] _ rfl 2 rfl (by simp [Act.eval]) S4.out.l S4.out.base (by simp [Act.eval]) (S4.out.len (m:=2) _ (by omega)) ?_
      intro v1 w1 o1 g1 c1
      refine hK.out _ _ (hS.trans (grown_low g1.out (S4.out.l.alloc _) (Nat.le_refl _) (by simp;exact Nat.le_of_succ_le S4.out.base))) (fun hS=> ?_)
      clear hK K
      try simp only [Act.put,List.setIfInBounds_toArray,List.set_cons_zero,List.set_cons_succ]
      refine takeH (i:=15) (v:= ?_) 6 rfl rfl (by kernel_rfl) (by kernel_rfl) (by kernel_rfl) (fun _ _ _ h=>h) (by rfl) ?hy15 hS ?rest15
      case hy15=>(intro W hW;clear hW;go_simp;first|done|with_reducible rfl)
      try simp only [Act.put,List.setIfInBounds_toArray,List.set_cons_zero,List.set_cons_succ]
      refine wpAnyH_done (by kernel_rfl) ?_ _
      try simp only [Act.put,List.setIfInBounds_toArray,List.set_cons_zero,List.set_cons_succ]
      go_wp2_with (first
       |(refine wpList_appI rfl (.tmp 78) (.tmp 85) rfl (w.heap.size+1) _ _ [386+24*(k:Int),398+24*(k:Int)] _ rfl 2 rfl (by simp [Act.eval]) (S4.out.a1 g1.out) (S4.out.b1 g1.out) (by simp [Act.eval]) (S4.out.len (m:=2) _ (by omega)) ?_;intro v2 w2 o2 g2 c2)
       |(refine wpList_appI rfl (.tmp 87) (.tmp 88) rfl (w.heap.size+1) _ _ [12,12] _ rfl 2 rfl (by simp [Act.eval]) (S4.out.d2 g1.out g2.out) (S4.out.b2 g1.out g2.out) (by simp [Act.eval]) (S4.out.len (m:=2) _ (by omega)) ?_;intro v3 w3 o3 g3 c3))
      go_roundw
      case rel=>
       refine ⟨k+1,(by go_num),hkn, ?_⟩
       rw [HRS.out]
       exact (S4.out.more [(p,386+24*k,12),(p2,398+24*k,12)] rfl (by simp [fT]) rfl o1.out g1.out c1.out o2.out g2.out c2.out o3.out g3.out c3.out (by
        intro x hx
        simp only [List.mem_cons,List.not_mem_nil,or_false] at hx
        have hk3:k≤3:=by have:=H4.out;omega
        rcases hx with rfl|rfl
        ·exact ⟨HPN.out.1,show 386+24*k+12≤512 by omega,Nat.le_refl _⟩
        ·exact ⟨HPN.out.2,show 398+24*k+12≤512 by omega,Nat.le_refl _⟩)).mono (show 8+2*k+2≤8+2*(k+1) by omega)
      case measure=>simp [RowKit.intOf];omega
     ·go_wp2_with fail
      go_meet
      case rel=>
       rw [HQ.out,if_pos (by trivial)]
       obtain rfl:k=n:=by omega
       exact S3.out.mono (by have:=H4.out;omega)
  case rest=>
   clear k6 k16 S1
   have s2:=hcut
   clear hcut
   have HNq:=hid (rfl:M.nq h=M.nq h)
   generalize hq2:M.nq h=q2 at s2
   have HQ2:=hid hq2
   clear hq2
   obtain ⟨gl,cl,ga,ca,gd,cd,rfl,rfl,rfl,HC⟩:=s2.forms g HX.out.lt
   have S2:=hid s2
   have HXD:=hid (BX.below HX.out s2.below HX.out.lt)
   have HFit:=hid s2.fit
   have h16:=s2.few
   have HUD:=hid s2.below
   clear s2 S2
   generalize hnq:q2.length=nq at*
   have HNQ:=hid hnq
   clear hnq
   go_wp2_with fail
   go_loopw [0,10] (fun b i wr=> ∃ k:Nat,b= .slice (some ⟨g,0,none⟩) 512 512∧i= .int .i64 k∧k≤nq∧(∃ zk,Hid (BX wr g zk)∧Hid (M.dn zs0 (M.nq h)=M.dn zk ((M.nq h).drop k)))∧Hid (But g wc wr)) (fun _ i _=>nq - (RowKit.intOf i).toNat)
   case atStart=>exact ⟨0,rfl,rfl,Nat.zero_le _,⟨zs0,HXD,hid rfl⟩,hid (But.refl _ _)⟩
   case round=>
    clear HXD
    obtain ⟨k,rfl,rfl,hk,⟨zk,HXr,HD⟩,HU⟩:=hrel
    by_cases hlt:k<nq
    ·obtain ⟨⟨z,a,m⟩,hq⟩: ∃ x,q2[k]?=some x:=⟨_,List.getElem?_eq_getElem (by rw [HNQ.out];exact hlt)⟩
     obtain ⟨hz,ham,hm⟩:=HFit.out _ (List.mem_of_getElem? hq)
     dsimp only at hz ham hm
     have E5:=hid (show decide (k<nq)=true by rw [decide_eq_true_eq];omega)
     have HLT:=hid hlt
     go_wp2_with fail
     try simp only [E5.out]
     clear E5 hlt
     have HXd:=hid HXr.out.drew
     have HUd:=hid HU.out.drew
     clear HXr HU
     have HC1:=hid (fun V (hV:But g wc V∧BX V g zk)=>(HC.out V hV.1 k _ hq).1)
     have HC2:=hid (fun V (hV:But g wc V∧BX V g zk)=>(HC.out V hV.1 k _ hq).2.2)
     have HC3:=hid (fun V (hV:But g wc V)=>HC.out V hV k _ hq)
     have HDk:=hid (show M.dn zs0 (M.nq h)=M.dn zk ((z,a,m)::(M.nq h).drop (k+1)) by
      rw [←HQ2.out] at hq
      obtain ⟨hq1,hq2⟩:=List.getElem?_eq_some_iff.1 hq
      rw [HD.out,List.drop_eq_getElem_cons hq1,hq2])
     dsimp only at HC1 HC2 HC3
     have HZ:=hid hz
     clear hq
     refine wp_region_held_drew (S:=fun V=>But g wc V∧BX V g zk) (by kernel_rfl) ⟨HUd.out,HXd.out⟩ (fun hS=> ?_)
     refine takeH (i:=0) (v:= ?_) 97 rfl rfl (by kernel_rfl) (by kernel_rfl) (by kernel_rfl) (fun _ _ _ h=>h) (by rfl) ?hy0d hS ?rest0d
     case hy0d=>(intro W hW;clear hW;go_simp;first|done|with_reducible rfl)
     try simp only [Act.put,List.setIfInBounds_toArray,List.set_cons_zero,List.set_cons_succ]
     refine takeH (i:=1) (v:= ?_) 98 rfl rfl (by kernel_rfl) (by kernel_rfl) (by kernel_rfl) (fun _ _ _ h=>h) (by rfl) ?hy1d hS ?rest1d
     case hy1d=>(intro W hW;clear hW;go_simp;first|done|with_reducible rfl)
     try simp only [Act.put,List.setIfInBounds_toArray,List.set_cons_zero,List.set_cons_succ]
     refine takeH (i:=2) (v:= ?_) 99 rfl rfl (by kernel_rfl) (by kernel_rfl) (by kernel_rfl) (fun _ _ _ h=>h) (by rfl) ?hy2d hS ?rest2d
     case hy2d=>(intro W hW;have f0:=HLT.out;clear hW;go_simp;first|done|with_reducible rfl)
     try simp only [Act.put,List.setIfInBounds_toArray,List.set_cons_zero,List.set_cons_succ]
     refine takeH (i:=3) (v:= ?_) 100 rfl rfl (by kernel_rfl) (by kernel_rfl) (by kernel_rfl) (fun _ _ _ h=>h) (by rfl) ?hy3d hS ?rest3d
     case hy3d=>(intro W hW;have f0:=HC1.out W hW;clear hW;go_simp;first|done|with_reducible rfl)
     try simp only [Act.put,List.setIfInBounds_toArray,List.set_cons_zero,List.set_cons_succ]
     refine takeH (i:=4) (v:= ?_) 101 rfl rfl (by kernel_rfl) (by kernel_rfl) (by kernel_rfl) (fun _ _ _ h=>h) (by rfl) ?hy4d hS ?rest4d
     case hy4d=>(intro W hW;clear hW;go_simp;first|done|with_reducible rfl)
     try simp only [Act.put,List.setIfInBounds_toArray,List.set_cons_zero,List.set_cons_succ]
     refine takeH (i:=5) (v:= ?_) 102 rfl rfl (by kernel_rfl) (by kernel_rfl) (by kernel_rfl) (fun _ _ _ h=>h) (by rfl) ?hy5d hS ?rest5d
     case hy5d=>(intro W hW;clear hW;go_simp;first|done|with_reducible rfl)
     try simp only [Act.put,List.setIfInBounds_toArray,List.set_cons_zero,List.set_cons_succ]
     refine takeH (i:=6) (v:= ?_) 103 rfl rfl (by kernel_rfl) (by kernel_rfl) (by kernel_rfl) (fun _ _ _ h=>h) (by rfl) ?hy6d hS ?rest6d
     case hy6d=>(intro W hW;have f0:=HLT.out;clear hW;go_simp;first|done|with_reducible rfl)
     try simp only [Act.put,List.setIfInBounds_toArray,List.set_cons_zero,List.set_cons_succ]
     refine takeH (i:=7) (v:= ?_) 104 rfl rfl (by kernel_rfl) (by kernel_rfl) (by kernel_rfl) (fun _ _ _ h=>h) (by rfl) ?hy7d hS ?rest7d
     case hy7d=>(intro W hW;have f0:=HC2.out W hW;clear hW;go_simp;first|done|with_reducible rfl)
     try simp only [Act.put,List.setIfInBounds_toArray,List.set_cons_zero,List.set_cons_succ]
     refine loneH (i:=8) 105 rfl rfl (by kernel_rfl) (by rfl) (fun K hK=> ?_)
     go_simp
     generalize hSV:World.drew wr=V at*
     (with_reducible refine (putRef_own z m _ HZ.out).mono ?_)
     rintro e w1 ⟨A1,n1,rfl,hrd,b1,hown⟩
     have HNE:=hid (fun b off (e:A1=some ⟨b,off,none⟩)=>(Nat.ne_of_gt (Nat.lt_of_lt_of_le hS.2.lt (hown b off e)):b≠g))
     clear hown
     have HX1:=hid (BX.below hS.2 b1 hS.2.lt)
     have HU1:=hid (hS.1.trans (But.of_below b1))
     clear hS
     refine hK.out _ _ ⟨HU1.out,HX1.out⟩ (fun hS=> ?_)
     clear hK K
     try simp only [Act.put,List.setIfInBounds_toArray,List.set_cons_zero,List.set_cons_succ]
     refine takeH (i:=9) (v:= ?_) 96 rfl rfl (by kernel_rfl) (by kernel_rfl) (by kernel_rfl) (fun _ _ _ h=>h) (by rfl) ?hy9d hS ?rest9d
     case hy9d=>(intro W hW;clear hW;go_simp;first|done|with_reducible rfl)
     try simp only [Act.put,List.setIfInBounds_toArray,List.set_cons_zero,List.set_cons_succ]
     refine takeH (i:=10) (v:= ?_) 106 rfl rfl (by kernel_rfl) (by kernel_rfl) (by kernel_rfl) (fun _ _ _ h=>h) (by rfl) ?hy10d hS ?rest10d
     case hy10d=>(intro W hW;clear hW;go_simp;first|done|with_reducible rfl)
     try simp only [Act.put,List.setIfInBounds_toArray,List.set_cons_zero,List.set_cons_succ]
     refine takeH (i:=11) (v:= ?_) 107 rfl rfl (by kernel_rfl) (by kernel_rfl) (by kernel_rfl) (fun _ _ _ h=>h) (by rfl) ?hy11d hS ?rest11d
     case hy11d=>(intro W hW;clear hW;go_simp;first|done|with_reducible rfl)
     try simp only [Act.put,List.setIfInBounds_toArray,List.set_cons_zero,List.set_cons_succ]
     refine takeH (i:=12) (v:= ?_) 11 rfl rfl (by kernel_rfl) (by kernel_rfl) (by kernel_rfl) (fun _ _ _ h=>h) (by rfl) ?hy12d hS ?rest12d
     case hy12d=>(intro W hW;clear hW;go_simp;first|done|with_reducible rfl)
     try simp only [Act.put,List.setIfInBounds_toArray,List.set_cons_zero,List.set_cons_succ]
     refine takeH (i:=13) (v:= ?_) 12 rfl rfl (by kernel_rfl) (by kernel_rfl) (by kernel_rfl) (fun _ _ _ h=>h) (by rfl) ?hy13d hS ?rest13d
     case hy13d=>(intro W hW;clear hW;go_simp;first|done|with_reducible rfl)
     try simp only [Act.put,List.setIfInBounds_toArray,List.set_cons_zero,List.set_cons_succ]
     refine wpAnyH_done (by kernel_rfl) ?_ _
     try simp only [Act.put,List.setIfInBounds_toArray,List.set_cons_zero,List.set_cons_succ]
     obtain ⟨c1,c2,c3⟩:=HC3.out w1 HU1.out
     have HNo:=hid (fun (hd:M.dOk (z,a,m)=false)=>(by
      refine ⟨?_,(But.of_below HUD.out).trans HU1.out⟩
      rw [HDk.out]
      show (match (if M.dOk (z,a,m)=true then _ else none:Option (List Int)) with|none=>_|some zs=>_)
      rw [hd,if_neg (by decide)]:LaidX g (M.dn zs0 (M.nq h)) w (.returned (.tuple #[.slice none 0 0, .bool false])) w1))
     cases hp:M.putFits z m with
     |false=>
      have HN1:=hid (HNo.out (by unfold M.dOk;rw [hp];rfl))
      clear hrd HNo
      go_wp2
      go_ret2
      exact HN1.out
     |true=>
      have hn1:n1=m:=by have:=hrd.len;rw [putR_len hp] at this;exact this.symm
      subst hn1
      have HR:=hid hrd
      have HP:=hid hp
      clear hrd hp hz
      have HCL:=hid (layX_any g a A1 n1 n1 zk (M.putR z n1) w1 HX1.out HR.out HNE.out ham)
      rcases (by omega:(¬ z<0)∨(z<0∧a=136)∨(z<0∧a≠136)) with hz0|⟨hz0,ha⟩|⟨hz0,ha⟩
      case inr.inr=>
       have HN1:=hid (HNo.out (by unfold M.dOk;rw [HP.out,decide_eq_false (by omega),Bool.false_or,Bool.true_and,beq_eq_false_iff_ne];exact ha))
       have ha1:((a:Int)==136)=false:=by rw [beq_eq_false_iff_ne];omega
       have ha2:((a:Int) !=136)=true:=by rw [bne_iff_ne];omega
       clear ha HNo
       go_wp2
       go_ret2
       exact HN1.out
      all_goals
       have HT:=hid (show M.dn zs0 (M.nq h)=M.dn (splice zk a (M.putR z n1)) ((M.nq h).drop (k+1)) by
        rw [HDk.out]
        show (if M.dOk (z,a,n1)=true then _ else none)=_
        rw [if_pos (by unfold M.dOk;rw [HP.out];simp;omega)])
      case' inl=>skip
      case' inr.inl=>
       have ha1:((a:Int)==136)=true:=by rw [beq_iff_eq];omega
       have ha2:((a:Int) !=136)=false:=by rw [bne_eq_false_iff_eq];omega
       clear ha
      all_goals
       clear HNo
       go_wp2_with fail
       (with_reducible refine HCL.out.mono ?_)
       rintro e w2 ⟨rfl,hx2,hu2⟩
       have HX2:=hid hx2
       have HU2:=hid (HU1.out.trans hu2)
       clear hx2 hu2 c1 c2 c3 HX1 HU1 HCL HR
       go_wp2_with fail
       go_roundw
       case rel=>exact ⟨k+1,rfl,(by go_num),HLT.out,⟨_,HX2,HT⟩,HU2⟩
       case measure=>have:=HLT.out;simp [RowKit.intOf];omega
    ·obtain rfl:k=nq:=by omega
     go_wp2
     go_ret2
     refine ⟨?_,(But.of_below HUD.out).trans HU.out⟩
     rw [HD.out,List.drop_of_length_le (by rw [HQ2.out,HNQ.out];exact Nat.le_refl _)]
     exact ⟨rfl,HXr.out⟩
end Go.Proofs.YtgbgngdakkiclaaGreatDoor.Hd

/-! KhHdRef -/
namespace Go.Proofs.YtgbgngdakkiclaaGreatDoor.Hd
open Go.RowKit Go.Lib
theorem below_drwR {B:Nat} {a w:World} (h:Below B a w):Below B a w.drew:=⟨h.os,h.tape,h.output,h.size,h.block⟩
set_option maxHeartbeats 1000000 in
theorem refKnown_any (c:Int) (w:World):Calls Tryz.prog 58 #[.int .u8 c] w fun e w'=>e= .returned (.bool (M.known c))∧w=w':=by
 go_enter Tryz.func58,Tryz.ntmps58
 go_wp2
 all_goals
  go_ret
  refine ⟨ret_bool (Bool.eq_iff_iff.2 ?_),rfl⟩
  unfold M.known
  simp at*
  try omega
set_option maxHeartbeats 1000000 in
theorem magic_any (k:Nat) (hk:k<3) (w:World):Calls Tryz.prog 63 #[.int .i64 k] w fun e w'=>e= .returned (.string (mgs k))∧Below w.heap.size w w':=by
 have h3:k=0∨k=1∨k=2:=by omega
 rcases h3 with rfl|rfl|rfl
 all_goals
  clear hk
  go_enter Tryz.func63,Tryz.ntmps63
  go_wp2
  go_ret
  exact ⟨rfl,(Below.refl _ _).alloc (Nat.le_refl _) _⟩
end Go.Proofs.YtgbgngdakkiclaaGreatDoor.Hd

/-! KhHdPrintR -/
namespace Go.Proofs.YtgbgngdakkiclaaGreatDoor.Hd
open Go.RowKit Go.Lib
attribute [local go_sem ↓] run_make512
theorem HIn.box {w:World} {h:M.Hdr} {pv:Value} (hi:HIn w h pv) {W:World} (hb:Below w.heap.size w W):HIn W h pv:=
 ⟨PartsB.mono (PartsB.below hi.parts hb) hb.size,hi.nums,hi.kind,hi.ints,hi.texts⟩
theorem HB.all {w:World} {g:Nat} {h:M.Hdr} {pv:Value} (hb:HB w g h pv):w.cell? ⟨g,0,none⟩=some (.string h.name)∧w.cell? ⟨g,1,none⟩=some (.int .i64 h.mode)∧w.cell? ⟨g,2,none⟩=some (.int .i64 h.uid)∧w.cell? ⟨g,3,none⟩=some (.int .i64 h.gid)∧w.cell? ⟨g,4,none⟩=some (.int .i64 h.size)∧w.cell? ⟨g,5,none⟩=some (.int .i64 h.mtime)∧w.cell? ⟨g,6,none⟩=some (.int .u8 h.kind)∧w.cell? ⟨g,7,none⟩=some (.string h.link)∧w.cell? ⟨g,8,none⟩=some (.int .i64 h.way)∧w.cell? ⟨g,9,none⟩=some (.string h.user)∧w.cell? ⟨g,10,none⟩=some (.string h.group)∧w.cell? ⟨g,11,none⟩=some (.int .i64 h.major)∧w.cell? ⟨g,12,none⟩=some (.int .i64 h.minor)∧w.cell? ⟨g,13,none⟩=some (.string h.pre)∧w.cell? ⟨g,14,none⟩=some (pv)∧w.cell? ⟨g,15,none⟩=some (.bool h.more)∧w.cell? ⟨g,16,none⟩=some (.int .i64 h.real):=
 ⟨hb.cell rfl,hb.cell rfl,hb.cell rfl,hb.cell rfl,hb.cell rfl,hb.cell rfl,hb.cell rfl,hb.cell rfl,hb.cell rfl,hb.cell rfl,hb.cell rfl,hb.cell rfl,hb.cell rfl,hb.cell rfl,hb.cell rfl,hb.cell rfl,hb.cell rfl⟩
theorem mgs_size {k:Nat} (h:k<3):(mgs k).size=8:=by
 have h3:k=0∨k=1∨k=2:=by omega
 rcases h3 with rfl|rfl|rfl<;>rfl
theorem LaidTo.one {g:Nat} {w w':World} {e:Ending} (h:LaidTo g w e w'): ∃ v b,e= .returned (.tuple #[v, .bool b])∧(b=true→v= .slice (some ⟨g,0,none⟩) 512 512)∧B512 w' g∧But g w w':=by
 obtain ⟨rfl|rfl,hx,hu⟩:=h
 ·exact ⟨.slice none 0 0,false,rfl,(fun h=>nomatch h),hx,hu⟩
 ·exact ⟨_,true,rfl,(fun _=>rfl),hx,hu⟩
structure PT (w W:World) (g:Nat) (h:M.Hdr) (pv:Value):Prop where
 b:B512 W g
 low:w.heap.size<g
 box:HB W w.heap.size h pv
 hin:HIn W h pv
 below:Below w.heap.size w W
theorem PT.later {w W W':World} {g:Nat} {h:M.Hdr} {pv:Value} (p:PT w W g h pv) (hi:HIn w h pv) (hb:Below W.heap.size W W'):PT w W' g h pv:=
 ⟨p.b.below hb p.b.lt,p.low,HB.below p.box hb (HB.lt p.box),p.hin.box hb,p.below.trans (hb.mono p.below.size)⟩
theorem PT.but {w W W':World} {g:Nat} {h:M.Hdr} {pv:Value} (p:PT w W g h pv) (hi:HIn w h pv) (hx:B512 W' g) (hu:But g W W'):PT w W' g h pv:=
 have hb:Below w.heap.size w W':=p.below.trans (hu.below p.below.size (Nat.le_of_lt p.low))
 ⟨hx,p.low,HB.of_block p.box (hu.block _ (HB.lt p.box) (Nat.ne_of_lt p.low)),hi.box hb,hb⟩
end Go.Proofs.YtgbgngdakkiclaaGreatDoor.Hd

/-! KhHdPrintX -/
namespace Go.Proofs.YtgbgngdakkiclaaGreatDoor.Hd
open Go.RowKit Go.Lib
attribute [local go_sem ↓] run_make512
def PrintX (h:M.Hdr) (w:World) (e:Ending) (w':World):Prop:=
 (match M.dprint h with
  |none=> ∃ n:Int,n≠0∧e= .returned (.tuple #[.slice none 0 0, .int .i64 n])
  |some zs=> ∃ g,e= .returned (.tuple #[.slice (some ⟨g,0,none⟩) 512 512, .int .i64 0])∧w.heap.size≤g∧BX w' g zs)∧Below w.heap.size w w'
theorem PrintX.no {h:M.Hdr} {w w':World} {n:Int} (e:M.dprint h=none) (hn:n≠0) (hb:Below w.heap.size w w'):PrintX h w (.returned (.tuple #[.slice none 0 0, .int .i64 n])) w':=by
 unfold PrintX
 rw [e]
 exact ⟨⟨n,hn,rfl⟩,hb⟩
theorem PrintX.yes {h:M.Hdr} {w w':World} {g:Nat} {zs:List Int} (e:M.dprint h=some zs) (hg:w.heap.size≤g) (hx:BX w' g zs) (hb:Below w.heap.size w w'):PrintX h w (.returned (.tuple #[.slice (some ⟨g,0,none⟩) 512 512, .int .i64 0])) w':=by
 unfold PrintX
 rw [e]
 exact ⟨⟨g,rfl,hg,hx⟩,hb⟩
theorem PrintX.one {h:M.Hdr} {w w':World} {e:Ending} (hp:PrintX h w e w'): ∃ v n,e= .returned (.tuple #[v, .int .i64 n])∧(n=0→ ∃ g zs,v= .slice (some ⟨g,0,none⟩) 512 512∧w.heap.size≤g∧BX w' g zs∧M.hprint h=(0,zs))∧(n≠0→(M.hprint h).1≠0)∧Below w.heap.size w w':=by
 obtain ⟨h1,hb⟩:=hp
 cases hd:M.dprint h with
 |none=>
  rw [hd] at h1
  obtain ⟨n,hn,rfl⟩:=h1
  exact ⟨_,n,rfl,fun e=>absurd e hn,fun _=>M.dprint_none hd,hb⟩
 |some zs=>
  rw [hd] at h1
  obtain ⟨g,rfl,hg,hx⟩:=h1
  exact ⟨_,0,rfl,fun _=>⟨g,zs,rfl,hg,hx,M.of_dprint hd⟩,fun e=>absurd rfl e,hb⟩
theorem LaidX.one {g:Nat} {o:Option (List Int)} {w w':World} {e:Ending} (h:LaidX g o w e w'): ∃ v b,e= .returned (.tuple #[v, .bool b])∧(b=true→v= .slice (some ⟨g,0,none⟩) 512 512∧ ∃ zs,o=some zs∧BX w' g zs)∧(b=false→o=none)∧But g w w':=by
 obtain ⟨h1,hu⟩:=h
 cases o with
 |none=>exact ⟨_,false,h1,(fun h=>nomatch h),(fun _=>rfl),hu⟩
 |some zs=>exact ⟨_,true,h1.1,(fun _=>⟨rfl,zs,rfl,h1.2⟩),(fun h=>nomatch h),hu⟩
structure PB (w W:World) (g:Nat) (h:M.Hdr) (pv:Value):Prop where
 low:w.heap.size<g
 box:HB W w.heap.size h pv
 hin:HIn W h pv
 below:Below w.heap.size w W
structure PX (w W:World) (g:Nat) (h:M.Hdr) (pv:Value) (zs:List Int):Prop where
 b:BX W g zs
 low:w.heap.size<g
 box:HB W w.heap.size h pv
 hin:HIn W h pv
 below:Below w.heap.size w W
theorem PB.with_ {w W:World} {g:Nat} {h:M.Hdr} {pv:Value} {zs:List Int} (p:PB w W g h pv) (hb:BX W g zs):PX w W g h pv zs:=⟨hb,p.low,p.box,p.hin,p.below⟩
theorem PX.later {w W W':World} {g:Nat} {h:M.Hdr} {pv:Value} {zs:List Int} (p:PX w W g h pv zs) (hi:HIn w h pv) (hb:Below W.heap.size W W'):PX w W' g h pv zs:=
 ⟨p.b.below hb p.b.lt,p.low,HB.below p.box hb (HB.lt p.box),p.hin.box hb,p.below.trans (hb.mono p.below.size)⟩
theorem PX.bare {w W W':World} {g:Nat} {h:M.Hdr} {pv:Value} {zs:List Int} (p:PX w W g h pv zs) (hi:HIn w h pv) (hu:But g W W'):PB w W' g h pv:=
 have hb:Below w.heap.size w W':=p.below.trans (hu.below p.below.size (Nat.le_of_lt p.low))
 ⟨p.low,HB.of_block p.box (hu.block _ (HB.lt p.box) (Nat.ne_of_lt p.low)),hi.box hb,hb⟩
theorem PX.but {w W W':World} {g:Nat} {h:M.Hdr} {pv:Value} {zs zs':List Int} (p:PX w W g h pv zs) (hi:HIn w h pv) (hx:BX W' g zs') (hu:But g W W'):PX w W' g h pv zs':=(p.bare hi hu).with_ hx
theorem conv_bytesX (w:World) (s:ByteArray): ∃ c w',Sem.run Tryz.prog (convert 9 22 (.string s)) w= .ok (.slice (some ⟨w.heap.size,0,none⟩) s.size c) w'∧Below w.heap.size w w'∧Rd w' w'.heap.size (some ⟨w.heap.size,0,none⟩) s.size (S.ints s.data.toList):=by
 refine ⟨_,_,run_bytes_of_string w _ _ 5 s Tryz.underlying9 Tryz.underlying22 Tryz.underlying5,(below_drwR (Below.refl _ _)).alloc (Nat.le_refl _) _,by rw [S.ints_length];rfl,S.ints_bd _,fun _=>⟨w.heap.size,0,rfl,by rw [World.size_alloc];exact Nat.lt_succ_self _,fun j z hj=> ?_⟩⟩
 have hb:=fun fr=>heap_alloc_new w.drew (.cells (bytesRow s (grownCap w s.size 0 5)) 5 fr)
 obtain ⟨hl',hz⟩:=List.getElem?_eq_some_iff.1 hj
 have hl:j<s.data.size:=by rw [S.ints_length] at hl';exact hl'
 rw [show (w.heap.size:Nat)=w.drew.heap.size from rfl,cell_of_row _ _ _ _ _ _ (hb _),Nat.zero_add]
 unfold bytesRow
 rw [Array.getElem?_append_left (by simpa using hl),Array.getElem?_map,Array.getElem?_eq_getElem hl]
 have hj':(s.data.toList.map fun b=>(b.toNat:Int))[j]?=some z:=hj
 have hl2:j<s.data.toList.length:=hl
 rw [List.getElem?_map,List.getElem?_eq_getElem hl2] at hj'
 have hz2:=Option.some.inj hj'
 rw [←hz2]
 rfl
theorem mgs_ints {k:Nat} (h:k<3):S.ints (mgs k).data.toList=M.magic k:=by
 have h3:k=0∨k=1∨k=2:=by omega
 rcases h3 with rfl|rfl|rfl<;>rfl
theorem seal_bx {w:World} {g:Nat} {zs:List Int} (hb:BX w g zs):Calls Tryz.prog 64 #[.slice (some ⟨g,0,none⟩) 512 512] w fun e w'=> ∃ g',e= .returned (.slice (some ⟨g',0,none⟩) 512 512)∧w.heap.size≤g'∧BX w' g' (M.sld zs)∧Below w.heap.size w w':=by
 have hr:=hb.rd (B:=w.heap.size) hb.lt
 refine (refSeal_any _ 512 512 zs w _ hr (Nat.le_refl _) (by decide)).mono ?_
 rintro e w' ⟨g',rfl,hg,ha',hb'⟩
 exact ⟨g',rfl,hg,⟨M.sld_len _,M.sld_bd hb.bd,ha'⟩,hb'⟩
set_option maxRecDepth 100000 in
set_option maxHeartbeats 4000000 in
theorem refPrintX_any (h:M.Hdr) (A:Option Addr) (c:Nat) (w:World) (hi:HIn w h (.slice A h.parts.length c)) (hfew:h.parts.length≤1000) (hway:0≤h.way∧h.way≤2):
  Calls Tryz.prog 27 #[.agg (hcells h (.slice A h.parts.length c))] w (PrintX h w):=by
 have bA:Below w.heap.size w (w.alloc (.cells (hcells h (.slice A h.parts.length c)) 39)):=(Below.refl _ _).alloc (Nat.le_refl _) _
 have BA:=hid bA
 have HI:=hid hi
 have HFew:=hid hfew
 have HWay:=hid hway
 have HBx:=hid (HB.new w h (.slice A h.parts.length c))
 clear hi hfew hway bA
 have HDP:=hid (rfl:M.dprint h=M.dprint h)
 generalize hn:h.parts.length=n at*
 have HN:=hid hn
 clear hn
 have k6:=HB.cell HBx.out (i:=6) (v:= .int .u8 h.kind) rfl
 have k8:=HB.cell HBx.out (i:=8) (v:= .int .i64 h.way) rfl
 go_enter Tryz.func27,Tryz.ntmps27
 go_upto_region 1 with fail
 have HLd:=hid (fun V (hV:Below (w.heap.size+1) (w.alloc (.cells (hcells h (.slice A n c)) 39)) V)=>HB.all (HB.below HBx.out hV (Nat.lt_succ_self _)))
 generalize World.alloc w _=W at*
 have HSz:=hid (HB.lt HBx.out)
 go_cut [21] from 8 to 20 (fun v wx=>v= .bool (!(M.known h.kind&&M.may h.kind h.way))∧W=wx)
 case first=>
  go_wp2_with fail
  (with_reducible refine (refKnown_any h.kind W).mono ?_)
  rintro e w1 ⟨rfl,rfl⟩
  cases hkn:M.known h.kind
  all_goals
   go_wp2_with fail
   all_goals
    go_meet
    case rel=>
     refine ⟨congrArg Value.bool ?_,rfl⟩
     unfold M.may
     try rw [hkn]
     try simp [*]
     try rfl
 case rest=>
  clear k6 k8
  obtain ⟨rfl,rfl⟩:=hcut
  cases hk1:(M.known h.kind&&M.may h.kind h.way) with
  |false=>
   have HE:=hid (show M.dprint h=none by unfold M.dprint;rw [hk1,if_neg Bool.false_ne_true])
   clear hk1
   rw [show (!false)=true from rfl]
   go_wp2
   go_ret2
   exact PrintX.no HE.out (by decide) BA.out
  |true=>
   have HK1:=hid hk1
   clear hk1
   rw [show (!true)=false from rfl]
   go_wp2_with fail
   refine wp_region_held_drew (S:=fun V=>Below (w.heap.size+1) W V) (by kernel_rfl) (below_drwR (Below.refl _ _)) (fun hS=> ?_)
   refine takeH (i:=1) (v:= ?_) 24 rfl rfl (by kernel_rfl) (by kernel_rfl) (by kernel_rfl) (fun _ _ _ h=>h) (by rfl) ?hy1 hS ?rest1
   case hy1=>(intro W hW;have f0:=HLd.out W hW;clear hW;go_simp;first|done|with_reducible rfl)
   try simp only [Act.put,List.setIfInBounds_toArray,List.set_cons_zero,List.set_cons_succ]
   refine loneH (i:=0) 23 rfl rfl (by kernel_rfl) (by rfl) (fun K hK=> ?_)
   go_simp
   refine hK.out _ _ (hS.alloc (Nat.le_trans HSz.out hS.size) _) (fun hS=> ?_)
   clear hK K
   try simp only [Act.put,List.setIfInBounds_toArray,List.set_cons_zero,List.set_cons_succ]
   generalize hSV:(World.alloc W (.cells (bcells (nils 512)).toArray 5)).drew=V at*
   have P0:Hid (PX w V W.heap.size h (.slice A n c) (nils 512)):=hid (by
    subst hSV
    exact ⟨(BX.new W).drew,HSz.out,HB.below HBx.out hS (Nat.lt_succ_self _),HI.out.box (BA.out.trans (hS.mono (Nat.le_succ _))),BA.out.trans (hS.mono (Nat.le_succ _))⟩)
   clear hSV
   refine loneH (i:=2) 25 rfl rfl (by kernel_rfl) (by rfl) (fun K hK=> ?_)
   go_simp
   refine (show Calls Tryz.prog 59 _ V (LaidX W.heap.size (M.dt (nils 512) (M.tq h)) V) from refTextsX_any W.heap.size (nils 512) h A n c V P0.out.b HI.out.texts).mono ?_
   intro e w1 ht
   obtain ⟨v,b,rfl,hv,hno,hu1⟩:=ht.one
   have P1:=hid (P0.out.bare HI.out hu1)
   have HNO:=hid hno
   have HU1:=hid hu1
   have HV1:=hid hv
   clear ht hv hno hu1
   refine hK.out _ _ (hS.trans (HU1.out.below (Nat.le_trans HSz.out hS.size) HSz.out)) (fun hS=> ?_)
   clear hK K
   try simp only [Act.put,List.setIfInBounds_toArray,List.set_cons_zero,List.set_cons_succ]
   refine takeH (i:=3) (v:= ?_) 22 rfl rfl (by kernel_rfl) (by kernel_rfl) (by kernel_rfl) (fun _ _ _ h=>h) (by rfl) ?hy3 hS ?rest3
   case hy3=>(intro W hW;clear hW;go_simp;first|done|with_reducible rfl)
   try simp only [Act.put,List.setIfInBounds_toArray,List.set_cons_zero,List.set_cons_succ]
   refine takeH (i:=4) (v:= ?_) 26 rfl rfl (by kernel_rfl) (by kernel_rfl) (by kernel_rfl) (fun _ _ _ h=>h) (by rfl) ?hy4 hS ?rest4
   case hy4=>(intro W hW;clear hW;go_simp;first|done|with_reducible rfl)
   try simp only [Act.put,List.setIfInBounds_toArray,List.set_cons_zero,List.set_cons_succ]
   refine takeH (i:=5) (v:= ?_) 27 rfl rfl (by kernel_rfl) (by kernel_rfl) (by kernel_rfl) (fun _ _ _ h=>h) (by rfl) ?hy5 hS ?rest5
   case hy5=>(intro W hW;clear hW;go_simp;first|done|with_reducible rfl)
   try simp only [Act.put,List.setIfInBounds_toArray,List.set_cons_zero,List.set_cons_succ]
   refine takeH (i:=6) (v:= ?_) 4 rfl rfl (by kernel_rfl) (by kernel_rfl) (by kernel_rfl) (fun _ _ _ h=>h) (by rfl) ?hy6 hS ?rest6
   case hy6=>(intro W hW;clear hW;go_simp;first|done|with_reducible rfl)
   try simp only [Act.put,List.setIfInBounds_toArray,List.set_cons_zero,List.set_cons_succ]
   refine takeH (i:=7) (v:= ?_) 5 rfl rfl (by kernel_rfl) (by kernel_rfl) (by kernel_rfl) (fun _ _ _ h=>h) (by rfl) ?hy7 hS ?rest7
   case hy7=>(intro W hW;clear hW;go_simp;first|done|with_reducible rfl)
   try simp only [Act.put,List.setIfInBounds_toArray,List.set_cons_zero,List.set_cons_succ]
   refine wpAnyH_done (by kernel_rfl) ?_ _
   try simp only [Act.put,List.setIfInBounds_toArray,List.set_cons_zero,List.set_cons_succ]
   clear hS P0 HU1 HLd
   cases b with
   |false=>
    have HE:=hid (show M.dprint h=none by unfold M.dprint;rw [HK1.out,if_pos rfl,HNO.out rfl];rfl)
    go_wp2
    go_ret2
    exact PrintX.no HE.out (by decide) P1.out.below
   |true=>
    obtain ⟨rfl,zt,hzt,hbt⟩:=HV1.out rfl
    clear HV1 HNO
    have HZT:=hid hzt
    have P1:=hid (P1.out.with_ hbt)
    clear hzt hbt
    generalize W.heap.size=g at*
    have HB1:=hid P1.out.box
    go_wp2_with (refine wpList_load_row rfl 39 (.tmp 1) rfl w.heap.size (by rfl) 39 (hcells h (.slice A n c)) (0,0) _ HB1.out Tryz.underlying39 rfl hdr_size ?_)
    have HFt:=hid (refFitsX_any h A c w1 (by rw [HN.out];exact P1.out.hin) (by rw [HN.out];exact HFew.out))
    rw [HN.out] at HFt
    refine HFt.out.mono ?_
    rintro e w2 ⟨rfl,bl2⟩
    have P2:=hid (P1.out.later HI.out bl2)
    clear P1 HB1 HFt bl2
    cases hft:M.fits h with
    |false=>
     have HE:=hid (show M.dprint h=none by unfold M.dprint;rw [HK1.out,if_pos rfl,HZT.out,Option.bind_some,hft,if_neg Bool.false_ne_true])
     clear hft
     go_wp2_with fail
     go_ret2
     exact PrintX.no HE.out (by decide) P2.out.below
    |true=>
     have HFT:=hid hft
     have H4:=hid (show n≤4 by have:=(M.f1_iff.1 (M.fits_iff.1 hft).1).2.2.2.2;rw [HN.out] at this;exact this)
     clear hft
     have HB2:=hid P2.out.box
     go_wp2_with (refine wpList_load_row rfl 39 (.tmp 1) rfl w.heap.size (by rfl) 39 (hcells h (.slice A n c)) (0,0) _ HB2.out Tryz.underlying39 rfl hdr_size ?_)
     have HNb:=hid (refNumbersX_any g zt h A c w2 P2.out.b (by rw [HN.out];exact P2.out.hin) (by rw [HN.out];exact H4.out))
     rw [HN.out] at HNb
     refine HNb.out.mono ?_
     intro e w3 ht
     obtain ⟨v3,b3,rfl,hv3,hno3,hu3⟩:=ht.one
     have P3:=hid (P2.out.bare HI.out hu3)
     clear ht hu3 P2 HB2 HNb
     cases b3 with
     |false=>
      have HE:=hid (show M.dprint h=none by unfold M.dprint;rw [HK1.out,if_pos rfl,HZT.out,Option.bind_some,HFT.out,if_pos rfl,hno3 rfl];rfl)
      clear hno3
      go_wp2_with fail
      go_ret2
      exact PrintX.no HE.out (by decide) P3.out.below
     |true=>
      obtain ⟨rfl,zn,hzn,hbn⟩:=hv3 rfl
      have HE:=hid (show M.dprint h=some (M.sld (if h.more=true then (splice (zn.set 156 h.kind) 257 (M.magic h.way.toNat)).set 482 1 else splice (zn.set 156 h.kind) 257 (M.magic h.way.toNat))) by
       unfold M.dprint
       rw [HK1.out,if_pos rfl,HZT.out,Option.bind_some,HFT.out,if_pos rfl,hzn]
       rfl)
      have P3:=hid (P3.out.with_ hbn)
      clear hv3 hzn hbn hno3
      have k6:=HB.cell P3.out.box (i:=6) (v:= .int .u8 h.kind) rfl
      obtain ⟨z,c156,f156⟩:=P3.out.b.at_ (i:=156) (by decide)
      go_upto_region 12 with fail
      have P4:=hid (P3.out.but HI.out (P3.out.b.set 156 HI.out.kind) (But.set g w3 156 (.int .u8 h.kind)))
      generalize w3.setCell _ _=w4 at*
      clear k6 c156 f156 P3
      obtain ⟨wn,hwn⟩: ∃ wn:Nat,(wn:Int)=h.way:=⟨h.way.toNat,by have:=HWay.out.1;omega⟩
      have HW3:=hid (show wn<3 by have:=HWay.out.2;omega)
      have HWN:=hid (show h.way.toNat=wn by omega)
      have k8:w4.cell? ⟨w.heap.size,8,none⟩=some (.int .i64 (wn:Int)):=by rw [hwn];exact HB.cell P4.out.box (i:=8) rfl
      clear hwn
      go_wp2_with fail
      (with_reducible refine (magic_any wn HW3.out w4).mono ?_)
      rintro e w5 ⟨rfl,b5⟩
      have P5:=hid (P4.out.later HI.out b5)
      clear P4 k8 b5
      have hsz:=mgs_size HW3.out
      have HMG:=hid (mgs_ints HW3.out)
      generalize mgs wn=mt at*
      obtain ⟨cc,w6,hcv,b6,hr6⟩:=conv_bytesX w5 mt
      rw [hsz] at hcv hr6
      have HR6:=hid hr6
      have P6:=hid (P5.out.later HI.out b6)
      have HL7:=hid (show Calls Tryz.prog 62 #[.slice (some ⟨g,0,none⟩) 512 512, .int .i64 257, .slice (some ⟨w5.heap.size,0,none⟩) 8 cc] w6 (fun e w'=>e= .returned (.slice (some ⟨g,0,none⟩) 512 512)∧BX w' g (splice (zn.set 156 h.kind) 257 (M.magic wn))∧But g w6 w') from HMG.out▸layX_any g 257 _ 8 cc _ _ w6 P6.out.b HR6.out (fun b off e=>by injection e with e;injection e with e;exact e▸Nat.ne_of_gt P5.out.b.lt) (by decide))
      clear hsz hr6 b6
      go_wp2_with fail
      clear hcv
      (with_reducible refine HL7.out.mono ?_)
      rintro e w7 ⟨rfl,hx7,hu7⟩
      have P7:=hid (P6.out.but HI.out hx7 hu7)
      clear hx7 hu7 P6 P5 HR6
      have k15:=HB.cell P7.out.box (i:=15) (v:= .bool h.more) rfl
      generalize h.more=bm at k15 HE
      rw [HWN.out] at HE
      obtain ⟨z,c482,f482⟩:=P7.out.b.at_ (i:=482) (by decide)
      have P8:=hid (P7.out.but HI.out (P7.out.b.set 482 (v:=1) (by decide)) (But.set g w7 482 (.int .u8 1)))
      cases bm with
      |false=>
       clear P8
       have HSl:=hid (seal_bx P7.out.b)
       go_wp2_with fail
       (with_reducible refine HSl.out.mono ?_)
       rintro e w9 ⟨g9,rfl,hg9,hb9,b9⟩
       clear c482 f482 k15
       go_wp2_with fail
       go_ret2
       exact PrintX.yes (by rw [HE.out,if_neg Bool.false_ne_true]) (Nat.le_trans P7.out.below.size hg9) hb9 (P7.out.below.trans (b9.mono P7.out.below.size))
      |true=>
       go_upto_region 15 with fail
       generalize w7.setCell _ _=w8 at*
       have HSl:=hid (seal_bx P8.out.b)
       go_wp2_with fail
       (with_reducible refine HSl.out.mono ?_)
       rintro e w9 ⟨g9,rfl,hg9,hb9,b9⟩
       clear c482 f482 k15
       go_wp2_with fail
       go_ret2
       exact PrintX.yes (by rw [HE.out,if_pos (by trivial)]) (Nat.le_trans P8.out.below.size hg9) hb9 (P8.out.below.trans (b9.mono P8.out.below.size))
end Go.Proofs.YtgbgngdakkiclaaGreatDoor.Hd
