/-
  Texts of one chapter, merged.
-/
import Derived.Test.YtgbgngdakkiclaaGreatDoorKhA0
import Derived.Test.YtgbgngdakkiclaaGreatDoorProg
import Derived.Deep.RegionHeld3
import Derived.WalkKit
set_option linter.unusedVariables false
set_option linter.unusedSimpArgs false
/-! KhHSumRefS -/
namespace Go.Proofs.YtgbgngdakkiclaaGreatDoor.Hd
open Go.RowKit Go.Lib
attribute [local go_sem ↓] run_make512
theorem splice_take {zs fs:List Int} {k:Nat} {z:Int} (hz:zs.length=512) (hk:fs[k]?=some z) (hl:fs.length≤8):(splice zs 148 (fs.take k)).set (148+k) z=splice zs 148 (fs.take (k+1)):=by
 have h1:k<fs.length:=(List.getElem?_eq_some_iff.1 hk).1
 have h2:(fs.take k).length=k:=by rw [List.length_take];omega
 have h:=M.splice_step (zs:=zs) (a:=fs.take k) (o:=148) (v:=z) (by rw [h2,hz];omega)
 rw [h2] at h
 rw [h,M.take_snoc' hk]
def Half (w:World) (t:TypeId) (zs:List Int) (wr:World):Prop:=Arr wr w.heap.size t zs∧Below w.heap.size w wr
set_option maxRecDepth 100000 in
set_option maxHeartbeats 2000000 in
theorem refSeal_any (A:Option Addr) (n c:Nat) (zs:List Int) (w:World) (B:Nat) (hr:Rd w B A n zs) (hB:B≤w.heap.size) (hn:n≤maxLen):
  Calls Tryz.prog 64 #[.slice A n c] w (SealPost 5 (M.sld zs) w):=by
 have HL:=hid hr.len
 have HZ:=hid hr.bd
 have HP:=hid (M.pad_bd hr.bd)
 have HPL:=hid (M.pad_len zs)
 have HUB:=M.uns_pad_bd hr.bd
 have HFIT:=hid (M.fits7 HUB.1 (by omega))
 obtain ⟨hu0,hu1⟩:=HUB
 have HAT:=hid (fun (k:Nat) (hk:k<n)=>hr.at_ hk)
 unfold maxLen at hn
 clear hr
 go_enter Tryz.func64,Tryz.ntmps64
 go_wp2_with fail
 go_loopw [4] (fun i wr=> ∃ k:Nat,k≤n∧k≤512∧i= .int .i64 k∧Half w 5 (M.pad (zs.take k)) wr) (fun i _=>n - (intOf i).toNat)
 case atStart=>exact ⟨0,Nat.zero_le _,Nat.zero_le _,rfl,by rw [List.take_zero,M.pad_nil];exact Arr.new w _ _,(Below.refl _ _).alloc (Nat.le_refl _) _⟩
 case round=>
  obtain ⟨k,hk,hk5,rfl,hA,hbel⟩:=hrel
  by_cases hlt:k<n∧k<512
  ·obtain ⟨h1,h2⟩:=hlt
   obtain ⟨b,off,z,hAd,hb,hz0,hz1,hzk,hc⟩:=HAT.out k h1
   have hbB:b<w.heap.size:=Nat.lt_of_lt_of_le hb hB
   have hc':wr.cell? ⟨b,off+k,none⟩=some (.int .u8 z):=(hbel.cell (p:=⟨b,off+k,none⟩) hbB).trans hc
   obtain ⟨y,hy⟩: ∃ y,(M.pad (zs.take k))[k]?=some y:=⟨_,List.getElem?_eq_getElem (by rw [M.pad_len];exact h2)⟩
   have hcs:=hA.cell hy
   have hfs:=hA.frozen k
   have HST:=hid (M.pad_step h2 hzk)
   have HA:=hid hA
   have e1:decide ((k:Int)<n)=true:=by rw [decide_eq_true_eq];omega
   have e1':decide (k<n)=true:=by rw [decide_eq_true_eq];omega
   have e2:=lt_yes (k:=k) (m:=512) (by omega)
   clear hA hy hzk hc
   rw [hAd]
   go_wp2
   go_roundw
   case rel=>exact ⟨k+1,by omega,by omega,by go_num,by rw [←HST.out];exact HA.out.set _ _,hbel.setCell (Nat.le_refl _) _⟩
   case measure=>simp [intOf];omega
  ·have hpt:M.pad (zs.take k)=M.pad zs:=M.pad_most (by rw [HL.out];omega) (by rw [HL.out];omega)
   rw [hpt] at hA
   have HA:=hid hA
   have hlg:=hA.lt
   clear hA hpt
   by_cases h1:k<n
   case' pos=>
    have e1':decide (k<n)=true:=by rw [decide_eq_true_eq];omega
    have e2:=lt_no (k:=k) (m:=512) (by omega)
    go_wp2_with fail
   case' neg=>
    have e1':decide (k<n)=false:=by rw [decide_eq_false_iff_not];omega
    go_wp2_with fail
   all_goals
    have hrd:Rd wr wr.heap.size (some ⟨w.heap.size,0,none⟩) 512 (M.pad zs):=by
     have h:=HA.out.rd HP.out hlg
     rw [HPL.out] at h
     exact h
    have HR:=hid (refUnsigned_any (some ⟨w.heap.size,0,none⟩) 512 512 (M.pad zs) wr wr.heap.size hrd (by decide))
    clear hrd
    (with_reducible refine HR.out.mono ?_)
    rintro e w' ⟨rfl,rfl⟩
    have HQ:Hid (Calls Tryz.prog 51 #[.int .i64 (M.uns (M.pad zs)), .int .i64 7] wr (PutNew wr 7 (M.oct (M.uns (M.pad zs)) 7))):=hid (putOctalRef_new (M.uns (M.pad zs)) 7 wr (by decide) (by decide) hu0 (by omega) HFIT.out.2.1)
    clear HR
    go_wp2_with fail
    (with_reducible refine HQ.out.mono ?_)
    rintro e w4 ⟨rfl,hf,b4⟩
    have HA4:=hid (HA.out.below b4 hlg)
    have hb4:=hbel.trans (b4.mono (Nat.le_of_lt hlg))
    have HF:Hid (∀ j z,(M.oct (M.uns (M.pad zs)) 7)[j]?=some z→w4.cell? ⟨wr.heap.size,j,none⟩=some (.int .u8 z)):=hid (by
     obtain ⟨b,off,he,_,hc⟩:=hf.2.2 (by decide)
     injection he with he
     injection he with he1 he2
     subst he1
     subst he2
     intro j z hj
     have:=hc j z hj
     rwa [Nat.zero_add] at this)
    have HO:=hid (M.oct7_len (M.uns (M.pad zs)))
    have HOB:=hid (M.oct_bd (M.uns (M.pad zs)) 7)
    have HSL:Hid (splice (M.pad zs) 148 (M.oct (M.uns (M.pad zs)) 7++ [32])=M.sld zs):=hid rfl
    generalize wr.heap.size=F at*
    generalize M.oct (M.uns (M.pad zs)) 7=fs at*
    clear HQ HA hf b4 hbel HAT HFIT
    go_wp2_with fail
    go_loopw [7] (fun i wr=> ∃ k:Nat,k≤7∧i= .int .i64 k∧Half w 5 (splice (M.pad zs) 148 (fs.take k)) wr∧Hid (∀ j z,fs[j]?=some z→wr.cell? ⟨F,j,none⟩=some (.int .u8 z))) (fun i _=>7 - (intOf i).toNat)
    case atStart=>exact ⟨0,Nat.zero_le _,rfl,⟨by rw [List.take_zero,M.splice_nil];exact HA4.out,hb4⟩,HF⟩
    case round=>
     rename_i wr2
     obtain ⟨k2,hk2,rfl,⟨hA2,hbel2⟩,HF2⟩:=hrel
     by_cases hlt2:k2<7
     ·obtain ⟨z,hz⟩: ∃ z,fs[k2]?=some z:=⟨_,List.getElem?_eq_getElem (by rw [HO.out];exact hlt2)⟩
      have hzb:=HOB.out z (List.mem_of_getElem? hz)
      obtain ⟨hz0,hz1⟩:=hzb
      have hcf:=HF2.out k2 z hz
      have hl8:(splice (M.pad zs) 148 (fs.take k2)).length=512:=by rw [M.splice_len (by rw [HPL.out,List.length_take,HO.out];omega)];exact HPL.out
      obtain ⟨y,hy⟩: ∃ y,(splice (M.pad zs) 148 (fs.take k2))[148+k2]?=some y:=⟨_,List.getElem?_eq_getElem (by rw [hl8];omega)⟩
      have hcs:=hA2.cell hy
      have hfs:=hA2.frozen (148+k2)
      have HST:=hid (splice_take HPL.out hz (by rw [HO.out];decide))
      have HA2:=hid hA2
      clear hA2 hy hz hl8
      go_wp2
      go_roundw
      case rel=>
       refine ⟨k2+1,by omega,by go_num,⟨by rw [←HST.out];exact HA2.out.set _ _,hbel2.setCell (Nat.le_refl _) _⟩,hid (fun j q hq=> ?_)⟩
       rw [World.cell?_setCell_other _ _ _ _ (by intro e;injection e with e1 e2;omega)]
       exact HF2.out j q hq
      case measure=>simp [intOf];omega
     ·obtain rfl:k2=7:=by omega
      rw [List.take_of_length_le (by rw [HO.out];exact Nat.le_refl _)] at hA2
      have hl8:(splice (M.pad zs) 148 fs).length=512:=by rw [M.splice_len (by rw [HPL.out,HO.out];decide)];exact HPL.out
      obtain ⟨y,hy⟩: ∃ y,(splice (M.pad zs) 148 fs)[155]?=some y:=⟨_,List.getElem?_eq_getElem (by rw [hl8];decide)⟩
      have hcs:=hA2.cell hy
      have hfs:=hA2.frozen 155
      have HST:Hid ((splice (M.pad zs) 148 fs).set 155 32=M.sld zs):=hid (by
       have h:=M.splice_step (zs:=M.pad zs) (a:=fs) (o:=148) (v:=32) (by rw [HO.out,HPL.out];decide)
       rw [HO.out] at h
       rw [←HSL.out,←h])
      have HA2:=hid hA2
      clear hA2 hy hl8 HF2
      go_wp2
      go_ret
      exact ⟨_,rfl,Nat.le_refl _,by rw [←HST.out];exact HA2.out.set _ _,hbel2.setCell (Nat.le_refl _) _⟩
end Go.Proofs.YtgbgngdakkiclaaGreatDoor.Hd

/-! KhNumMathB -/
namespace Go.Proofs.YtgbgngdakkiclaaGreatDoor.Hd
namespace M
def parN (zs:List Int):Int:=if marked zs then binN zs else octN zs
def parOk (zs:List Int):Bool:=if marked zs then binOk zs else octOk zs
def low (x:Int) (m k:Nat):List Int:=(List.range k).map (fun j=>(x/256^(m - 1 - j))%256)
theorem binR_yes {x w:Int} (h:binFits x w=true):binR x w=bin x w.toNat:=by unfold binR;rw [h];rfl
end M
end Go.Proofs.YtgbgngdakkiclaaGreatDoor.Hd

/-! KhSumStep -/
namespace Go.Proofs.YtgbgngdakkiclaaGreatDoor.Hd
open Go.RowKit
section
variable {P:Program} {md:Region.Mode} {ops:Array Oper} {Q:Exit→Act→World→Prop} {S S':World→Prop}
theorem takeH {i:Nat} (d:Nat) {oi:Oper} {v:Value} {fuel:Nat} {listed:Array Bool} {a:Act} {w:World} (hi:ops[i]?=some oi) (hd:oi.dst=some d)
  (hs:Region.noSelect ops=true) (hf:Region.free md ops listed i=true) (hr:(Region.ready md ops listed).contains i=true)
  (hQ: ∀ c a w,Q (.panic c) (a.put oi.dst v) w→Q (.panic c) a w) (hw:Region.wanted oi (yielded ops a.tmps)=true)
  (hy: ∀ w,S w→(execOp a.eval oi).run P w= .ok (.value v) w) (hS:S w)
  (h:wpAnyH P md ops Q S fuel (listed.setIfInBounds i true) (a.put (some d) v) w):wpAnyH P md ops Q S (fuel+1) listed a w:=
 wpAnyH_take hi hs hf hr hQ (.inl ⟨hw,hy⟩) hS (by rw [hd];exact h)
theorem loneH {i:Nat} (d:Nat) {o:Oper} {fuel:Nat} {listed:Array Bool} {a:Act} {w:World} (ho:ops[i]?=some o) (hd:o.dst=some d) (hr:Region.ready md ops listed= [i]) (hw:Region.wanted o (yielded ops a.tmps)=true)
  (h: ∀ K':Act→World→Prop,Shut (∀ v w',S w'→(S w'→wpAnyH P md ops Q S fuel (listed.setIfInBounds i true) (a.put (some d) v) w')→K' (a.put o.dst v) w')→Oper.wp P o a w K' Q):wpAnyH P md ops Q S (fuel+1) listed a w:=
 wpAnyH_ready hr (by simp) (AllReadyH.cons ho (fun K' hK=>by
  rw [if_pos hw]
  exact h K' (fun v w' hS hW=>hK _ _ hS (by rw [hd];exact hW))) AllReadyH.nil)
end
end Go.Proofs.YtgbgngdakkiclaaGreatDoor.Hd

/-! KhHdStep -/
namespace Go.Proofs.YtgbgngdakkiclaaGreatDoor.Hd
open Go.RowKit
section
variable {P:Program} {md:Region.Mode} {ops:Array Oper} {Q:Exit→Act→World→Prop} {S:World→Prop}
theorem skipH {i:Nat} (d:Nat) {oi:Oper} {fuel:Nat} {listed:Array Bool} {a:Act} {w:World} (hi:ops[i]?=some oi) (hd:oi.dst=some d)
  (hs:Region.noSelect ops=true) (hf:Region.free md ops listed i=true) (hr:(Region.ready md ops listed).contains i=true)
  (hQ: ∀ c a w,Q (.panic c) (a.put oi.dst undef) w→Q (.panic c) a w) (hw:Region.wanted oi (yielded ops a.tmps)=false) (hS:S w)
  (h:wpAnyH P md ops Q S fuel (listed.setIfInBounds i true) (a.put (some d) undef) w):wpAnyH P md ops Q S (fuel+1) listed a w:=
 wpAnyH_take hi hs hf hr hQ (.inr ⟨hw,rfl⟩) hS (by rw [hd];exact h)
end
end Go.Proofs.YtgbgngdakkiclaaGreatDoor.Hd

/-! KhNumPutB -/
namespace Go.Proofs.YtgbgngdakkiclaaGreatDoor.Hd
open Go.RowKit Go.Lib
attribute [local go_sem ↓] slice_from
set_option maxHeartbeats 400000 in
theorem putOctalRef_any (n wide:Int) (w:World):
  Calls Tryz.prog 51 #[.int .i64 n, .int .i64 wide] w (PutPost w (M.octFits n wide) (M.octR n wide)):=by
 by_cases h:2≤wide∧wide≤32∧0≤n∧n≤4611686018427387904
 ·obtain ⟨h1,h2,h3,h4⟩:=h
  obtain ⟨N,rfl⟩:=Int.eq_ofNat_of_zero_le (by omega:0≤wide)
  exact putOctalRef_go n N w (by omega) (by omega) h3 h4
 ·rw [octR_no (octFits_no h),octFits_no h]
  by_cases h1:wide<2
  ·have e1:decide (wide<2)=true:=by simpa using h1
   clear h h1
   go_enter Tryz.func51,Tryz.ntmps51
   go_wp2
   go_ret2
   exact PutPost.none_ (Below.refl _ _)
  ·have e1:decide (wide<2)=false:=by simpa using h1
   by_cases h2:32<wide
   ·have e2:decide (32<wide)=true:=by simpa using h2
    clear h h1 h2
    go_enter Tryz.func51,Tryz.ntmps51
    go_wp2
    go_ret2
    exact PutPost.none_ (Below.refl _ _)
   ·have e2:decide (32<wide)=false:=by simpa using h2
    by_cases h3:n<0
    ·have e3:decide (n<0)=true:=by simpa using h3
     clear h h1 h2 h3
     go_enter Tryz.func51,Tryz.ntmps51
     go_wp2
     go_ret2
     exact PutPost.none_ (Below.refl _ _)
    ·have e3:decide (n<0)=false:=by simpa using h3
     have e4:decide (4611686018427387904<n)=true:=by rw [decide_eq_true_eq];omega
     clear h h1 h2 h3
     go_enter Tryz.func51,Tryz.ntmps51
     go_wp2
     go_ret2
     exact PutPost.none_ (Below.refl _ _)
theorem or128 (x:Int) (h0:0≤x) (h1:x≤255):bits .or .u8 x 128=x%128+128:=by
 obtain ⟨n,rfl⟩:=Int.eq_ofNat_of_zero_le h0
 have h2:n<256:=by omega
 clear h0 h1
 have: ∀ m:Fin 256,bits .or .u8 (m.val:Int) 128=(m.val:Int)%128+128:=by decide+kernel
 exact this ⟨n,h2⟩
theorem binFits_eq (n:Int) (N:Nat) (h1:2≤N) (h2:N≤32):M.binFits n N=(M.binOk (M.bin n N)&&(M.binN (M.bin n N)==n)):=by
 unfold M.binFits
 rw [show decide ((2:Int)≤N)=true by simp;omega,show decide ((N:Int)≤32)=true by simp;omega,Int.toNat_natCast]
 rfl
set_option maxHeartbeats 400000 in
theorem putBinary_go (n:Int) (N:Nat) (w:World) (h1:2≤N) (h2:N≤32) (hn: -9223372036854775808≤n∧n≤9223372036854775807):
  Calls Tryz.prog 167 #[.int .i64 n, .int .i64 N] w (PutPost w (M.binFits n N) (M.binR n N)):=by
 have HW:=hid (width_yes N w (by omega) (by omega))
 have hmk:=run_make_row' (P:=Tryz.prog) 22 5 (.int .u8 0) 1 Tryz.underlying22 u8_info rfl .i64 .i64 N (by omega) (by omega)
 go_enter Tryz.func167,Tryz.ntmps167
 go_wp2_with fail
 (with_reducible refine HW.out.mono ?_)
 rintro e w' ⟨rfl,rfl⟩
 go_wp2
 clear hmk
 go_loopw [7,18] (fun v i wr=> ∃ k:Nat,k≤N∧i= .int .i64 k∧v= .int .i64 (n/256^k)∧RowB wr w.heap.size N (M.binC n N k)∧Below w.heap.size w wr) (fun _ i _=>N - (intOf i).toNat)
 case atStart=>exact ⟨0,Nat.zero_le _,rfl,by simp,(RowB.made w N).to fun i _=>(M.binC_zero n N i).symm,(Below.refl _ _).alloc (Nat.le_refl _) _⟩
 case round=>
  obtain ⟨k,hk,rfl,rfl,hrow,hbel⟩:=hrel
  obtain ⟨hv0,hv1⟩:=M.shr256_bd hn k
  by_cases hlt:k<N
  ·have hc:=hrow.cell (i:=N - 1 - k) (by omega)
   have hf:=hrow.frozen (N - 1 - k)
   have HS:=hid (M.shr256_succ n k)
   generalize hval:n/256^k=v at*
   have HV:=hid hval
   clear hval
   go_wp2
   go_roundw
   case rel=>
    refine ⟨k+1,by omega,by go_num,by rw [HS.out],(hrow.set _ _).to fun j _=> ?_,hbel.setCell (Nat.le_refl _) _⟩
    rw [←HV.out]
    exact M.binC_succ n N k j hlt
   case measure=>simp [intOf];omega
  ·obtain rfl:k=N:=by omega
   clear hlt hk
   have hc:=hrow.cell (i:=0) (by omega)
   have hf:=hrow.frozen 0
   rw [M.binC_first n k (by omega)] at hc
   have hx0:0≤n/256^(k - 1)%256:=by omega
   have hx1:n/256^(k - 1)%256≤255:=by omega
   have HO:=hid (or128 _ hx0 hx1)
   have HE:=hid (M.binC_end n k)
   have HFE:=hid (binFits_eq n k h1 h2)
   have HRE:Hid (M.binR n k=if M.binFits n k then M.bin n k else []):=hid (by unfold M.binR;rw [Int.toNat_natCast])
   generalize n/256^(k - 1)%256=x at*
   generalize n/256^k=v at*
   have hk0:(0:Int)<k:=by omega
   go_wp2_with fail
   rw [HO.out]
   have hrow2:RowB (wr.setCell ⟨w.heap.size,0,none⟩ (.int .u8 (x%128+128))) w.heap.size k (M.binG n k):=(hrow.set 0 _).to fun j hj=>HE.out j hj
   have hbel2:Below w.heap.size w (wr.setCell ⟨w.heap.size,0,none⟩ (.int .u8 (x%128+128))):=hbel.setCell (Nat.le_refl _) _
   generalize wr.setCell ⟨w.heap.size,0,none⟩ (.int .u8 (x%128+128))=w2 at*
   have HB:=binary_any _ k k _ w2 _ (hrow2.rd (M.binG_bd n k)) (Nat.le_refl _) (by unfold maxLen;omega)
   rw [show M.listOf (M.binG n k) k=M.bin n k from rfl] at HB
   refine HB.mono ?_
   rintro e w' ⟨rfl,rfl⟩
   clear HB hrow hbel hc hf HO HE hx0 hx1
   cases hok:M.binOk (M.bin n k) with
   |false=>
    have hf:M.binFits n k=false:=by rw [HFE.out,hok];rfl
    have hr:M.binR n k= []:=by rw [HRE.out,hf];rfl
    have HF:=hid hf
    have HR:=hid hr
    clear hok hf hr
    go_wp2
    go_ret2
    rw [HF.out,HR.out]
    exact PutPost.none_ hbel2
   |true=>
    by_cases heq:M.binN (M.bin n k)=n
    ·have hf:M.binFits n k=true:=by rw [HFE.out,hok,heq];simp
     have hr:M.binR n k=M.bin n k:=by rw [HRE.out,hf];rfl
     have HF:=hid hf
     have HR:=hid hr
     clear hok hf hr
     rw [heq]
     clear heq
     have hne:(n !=n)=false:=by simp
     go_wp2
     go_ret2
     rw [HF.out,HR.out]
     exact ⟨_,k,rfl,hrow2.rd (M.binG_bd n k),hbel2⟩
    ·have hf:M.binFits n k=false:=by rw [HFE.out,hok];simpa using heq
     have hr:M.binR n k= []:=by rw [HRE.out,hf];rfl
     have HF:=hid hf
     have HR:=hid hr
     clear hok hf hr
     have hne:(M.binN (M.bin n k) !=n)=true:=by simpa using heq
     generalize M.binN (M.bin n k)=y at*
     go_wp2
     go_ret2
     rw [HF.out,HR.out]
     exact PutPost.none_ hbel2
theorem putBinary_any (n wide:Int) (w:World) (hn: -9223372036854775808≤n∧n≤9223372036854775807):
  Calls Tryz.prog 167 #[.int .i64 n, .int .i64 wide] w (PutPost w (M.binFits n wide) (M.binR n wide)):=by
 by_cases h:2≤wide∧wide≤32
 ·obtain ⟨h1,h2⟩:=h
  obtain ⟨N,rfl⟩:=Int.eq_ofNat_of_zero_le (by omega:0≤wide)
  exact putBinary_go n N w (by omega) (by omega) hn
 ·rw [binR_no (binFits_no h),binFits_no h]
  have HW:=hid (width_no wide w (by omega))
  clear h
  go_enter Tryz.func167,Tryz.ntmps167
  go_wp2_with fail
  (with_reducible refine HW.out.mono ?_)
  rintro e w' ⟨rfl,rfl⟩
  go_wp2
  go_ret2
  exact PutPost.none_ (Below.refl _ _)
theorem tmod_neg (v:Int) (h:v.tmod 256<0):v.tmod 256+256=v%256:=by
 rw [Int.tmod_eq_emod] at h⊢
 split at h<;>rename_i h'<;>simp only [h',if_true,if_false] at h⊢ <;>omega
theorem tmod_pos (v:Int) (h: ¬ v.tmod 256<0):v.tmod 256=v%256:=by
 rw [Int.tmod_eq_emod] at h⊢
 split at h<;>rename_i h'<;>simp only [h',if_true,if_false] at h⊢ <;>omega
theorem tdiv_whole (v:Int):(v - v%256).tdiv 256=v/256:=by
 have e:v - v%256=256*(v/256):=by omega
 rw [e,Int.mul_tdiv_cancel_left _ (by decide)]
theorem PutPost.past {w w1 w2:World} {ok:Bool} {zs:List Int} {e:Ending} (h1:Below w.heap.size w w1) (h:PutPost w1 ok zs e w2):PutPost w ok zs e w2:=by
 obtain ⟨A,N,he,hr,hb⟩:=h
 exact ⟨A,N,he,hr,h1.trans (hb.mono h1.size)⟩
set_option maxHeartbeats 400000 in
theorem put_any (n wide:Int) (w:World) (hn: -9223372036854775808≤n∧n≤9223372036854775807):
  Calls Tryz.prog 143 #[.int .i64 n, .int .i64 wide] w (PutPost w (M.putFits n wide) (M.putR n wide)):=by
 have HO:=hid (putOctal_any n wide w)
 have HB:=hid (fun W=>putBinary_any n wide W hn)
 cases hf:M.octFits n wide with
 |true=>
  have hF:M.putFits n wide=true:=by unfold M.putFits;rw [hf];rfl
  have hR:M.putR n wide=M.octR n wide:=by simp [M.putR,M.octR,hf]
  rw [hF,hR]
  rw [hf] at HO
  clear hf hF hR
  go_enter Tryz.func143,Tryz.ntmps143
  go_wp2_with fail
  (with_reducible refine HO.out.mono ?_)
  rintro e w' ⟨A,N,rfl,hr,hb⟩
  go_wp2
  go_ret2
  exact ⟨A,N,rfl,hr,hb⟩
 |false=>
  have hF:M.putFits n wide=M.binFits n wide:=by unfold M.putFits;rw [hf];rfl
  have hR:M.putR n wide=M.binR n wide:=by unfold M.putR;rw [hf];rfl
  rw [hF,hR]
  rw [hf] at HO
  clear hf hF hR
  go_enter Tryz.func143,Tryz.ntmps143
  go_wp2_with fail
  (with_reducible refine HO.out.mono ?_)
  rintro e w' ⟨A,N,rfl,hr,hb⟩
  go_wp2_with fail
  (with_reducible refine (HB.out _).mono ?_)
  rintro e w2 ⟨A2,N2,rfl,hr2,hb2⟩
  go_wp2
  go_ret2
  exact PutPost.past hb ⟨A2,N2,rfl,hr2,hb2⟩
end Go.Proofs.YtgbgngdakkiclaaGreatDoor.Hd

/-! KhNumPutO -/
namespace Go.Proofs.YtgbgngdakkiclaaGreatDoor.Hd
open Go.RowKit Go.Lib
attribute [local go_sem ↓] slice_from
def PutOwn (w:World) (ok:Bool) (zs:List Int) (e:Ending) (w':World):Prop:=
 ∃ A N,e= .returned (.tuple #[.slice A N N, .bool ok])∧Rd w' w'.heap.size A N zs∧Below w.heap.size w w'∧(∀ b off,A=some ⟨b,off,none⟩→w.heap.size≤b)
theorem PutOwn.none_ {w w':World} (h:Below w.heap.size w w'):PutOwn w false [] (.returned (.tuple #[.slice none 0 0, .bool false])) w':=
 ⟨none,0,rfl,Rd.none_,h,fun _ _ h=>nomatch h⟩
theorem PutOwn.past {w w1 w2:World} {ok:Bool} {zs:List Int} {e:Ending} (h1:Below w.heap.size w w1) (h:PutOwn w1 ok zs e w2):PutOwn w ok zs e w2:=by
 obtain ⟨A,N,he,hr,hb,hf⟩:=h
 exact ⟨A,N,he,hr,h1.trans (hb.mono h1.size),fun b off e=>Nat.le_trans h1.size (hf b off e)⟩
set_option maxHeartbeats 800000 in
theorem putOctalRef_goO (n:Int) (N:Nat) (w:World) (h1:2≤N) (h2:N≤32) (h3:0≤n) (h4:n≤4611686018427387904):
  Calls Tryz.prog 51 #[.int .i64 n, .int .i64 N] w (PutOwn w (M.octFits n N) (M.octR n N)):=by
 have e1:decide (n<0)=false:=by simpa using h3
 have e2:decide (4611686018427387904<n)=false:=by simpa using h4
 have e3:decide ((N:Int)<2)=false:=by rw [decide_eq_false_iff_not];omega
 have e4:decide (32<(N:Int))=false:=by rw [decide_eq_false_iff_not];omega
 have hmk:=run_make_row' (P:=Tryz.prog) 22 5 (.int .u8 0) 1 Tryz.underlying22 u8_info rfl .i64 .i64 N (by omega) (by omega)
 go_enter Tryz.func51,Tryz.ntmps51
 go_wp2
 clear hmk e1 e2 e3 e4
 go_loopw [0,7] (fun v i wr=> ∃ k:Nat,k≤N - 1∧i= .int .i64 ((N:Int) - 2 - k)∧v= .int .i64 (n/8^k)∧RowB wr w.heap.size N (M.octC n N k)∧Below w.heap.size w wr) (fun _ i _=>(RowKit.intOf i+1).toNat)
 case atStart=>exact ⟨0,Nat.zero_le _,by go_num,by simp,(RowB.made w N).to fun i _=>(M.octC_zero n N i).symm,(Below.refl _ _).alloc (Nat.le_refl _) _⟩
 case round=>
  obtain ⟨k,hk,rfl,rfl,hrow,hbel⟩:=hrel
  have hv0:=M.shr8_nonneg h3 k
  have hv1:=M.shr8_le h3 k
  by_cases hlt:k<N - 1
  ·have hc:=hrow.cell (i:=N - 2 - k) (by omega)
   have hf:=hrow.frozen (N - 2 - k)
   have HS:=hid (M.shr8_succ n k)
   generalize hval:n/8^k=v at*
   have HV:=hid hval
   clear hval
   have hge:(0:Int)≤(N:Int) - 2 - k:=by omega
   have hto:((N:Int) - 2 - k).toNat=N - 2 - k:=by omega
   go_wp2
   have he:(48+v%8)%256=48+v%8:=by omega
   go_roundw
   case rel=>
    refine ⟨k+1,by omega,by go_num,by rw [HS.out],(hrow.set _ _).to fun j _=> ?_,hbel.setCell (Nat.le_refl _) _⟩
    rw [←HV.out]
    exact M.octC_succ n N k j hlt
   case measure=>simp [RowKit.intOf];omega
  ·obtain rfl:k=N - 1:=by omega
   have hrow':RowB wr w.heap.size N (M.octG n N):=hrow.to fun j _=>M.octC_end n N j
   clear hrow hlt hk
   have hfits:M.octFits n N=decide (n/8^(N - 1)=0):=by
    unfold M.octFits M.most
    rw [show decide ((2:Int)≤N)=true by simp;omega,show decide ((N:Int)≤32)=true by simp;omega,show decide (0≤n)=true by simpa using h3,
     show decide (n≤4611686018427387904)=true by simpa using h4,Int.toNat_natCast]
    rfl
   have hneg:(N:Int) - 2 - ((N - 1:Nat):Int)<0:=by omega
   by_cases hz:n/8^(N - 1)=0
   ·have hf:M.octFits n N=true:=by rw [hfits,hz];rfl
    have hR:M.octR n N=M.oct n N:=by unfold M.octR;rw [hf,Int.toNat_natCast];rfl
    have HF:=hid hf
    have HR:=hid hR
    clear hf hR hfits
    rw [hz]
    clear hz hv0 hv1
    go_wp2
    go_ret2
    rw [HF.out,HR.out]
    exact ⟨_,N,rfl,hrow'.rd (M.octG_bd n N),hbel,fun b off h=>by injection h with h;injection h with h;exact Nat.le_of_eq h⟩
   ·have hf:M.octFits n N=false:=by rw [hfits];simpa using hz
    have hR:M.octR n N= []:=by unfold M.octR;rw [hf];rfl
    have HF:=hid hf
    have HR:=hid hR
    clear hf hR hfits
    generalize n/8^(N - 1)=v at*
    have hz':0<v:=by omega
    go_wp2
    go_ret2
    rw [HF.out,HR.out]
    exact PutOwn.none_ hbel
set_option maxHeartbeats 400000 in
theorem putOctalRef_own (n wide:Int) (w:World):
  Calls Tryz.prog 51 #[.int .i64 n, .int .i64 wide] w (PutOwn w (M.octFits n wide) (M.octR n wide)):=by
 by_cases h:2≤wide∧wide≤32∧0≤n∧n≤4611686018427387904
 ·obtain ⟨h1,h2,h3,h4⟩:=h
  obtain ⟨N,rfl⟩:=Int.eq_ofNat_of_zero_le (by omega:0≤wide)
  exact putOctalRef_goO n N w (by omega) (by omega) h3 h4
 ·rw [octR_no (octFits_no h),octFits_no h]
  by_cases h1:wide<2
  ·have e1:decide (wide<2)=true:=by simpa using h1
   clear h h1
   go_enter Tryz.func51,Tryz.ntmps51
   go_wp2
   go_ret2
   exact PutOwn.none_ (Below.refl _ _)
  ·have e1:decide (wide<2)=false:=by simpa using h1
   by_cases h2:32<wide
   ·have e2:decide (32<wide)=true:=by simpa using h2
    clear h h1 h2
    go_enter Tryz.func51,Tryz.ntmps51
    go_wp2
    go_ret2
    exact PutOwn.none_ (Below.refl _ _)
   ·have e2:decide (32<wide)=false:=by simpa using h2
    by_cases h3:n<0
    ·have e3:decide (n<0)=true:=by simpa using h3
     clear h h1 h2 h3
     go_enter Tryz.func51,Tryz.ntmps51
     go_wp2
     go_ret2
     exact PutOwn.none_ (Below.refl _ _)
    ·have e3:decide (n<0)=false:=by simpa using h3
     have e4:decide (4611686018427387904<n)=true:=by rw [decide_eq_true_eq];omega
     clear h h1 h2 h3
     go_enter Tryz.func51,Tryz.ntmps51
     go_wp2
     go_ret2
     exact PutOwn.none_ (Below.refl _ _)
set_option maxHeartbeats 400000 in
theorem putBinaryRef_goO (n:Int) (N:Nat) (w:World) (h1:2≤N) (h2:N≤32) (hn: -9223372036854775808≤n∧n≤9223372036854775807):
  Calls Tryz.prog 113 #[.int .i64 n, .int .i64 N] w (PutOwn w (M.binFits n N) (M.binR n N)):=by
 have e3:decide ((N:Int)<2)=false:=by rw [decide_eq_false_iff_not];omega
 have e4:decide (32<(N:Int))=false:=by rw [decide_eq_false_iff_not];omega
 have hmk:=run_make_row' (P:=Tryz.prog) 22 5 (.int .u8 0) 1 Tryz.underlying22 u8_info rfl .i64 .i64 N (by omega) (by omega)
 go_enter Tryz.func113,Tryz.ntmps113
 go_wp2
 clear hmk e3 e4
 go_loopw [7,8] (fun v i wr=> ∃ k:Nat,k≤N∧i= .int .i64 ((N:Int) - 1 - k)∧v= .int .i64 (n/256^k)∧RowB wr w.heap.size N (M.binC n N k)∧Below w.heap.size w wr) (fun _ i _=>(RowKit.intOf i+1).toNat)
 case atStart=>exact ⟨0,Nat.zero_le _,by go_num,by simp,(RowB.made w N).to fun i _=>(M.binC_zero n N i).symm,(Below.refl _ _).alloc (Nat.le_refl _) _⟩
 case round=>
  obtain ⟨k,hk,rfl,rfl,hrow,hbel⟩:=hrel
  obtain ⟨hv0,hv1⟩:=M.shr256_bd hn k
  by_cases hlt:k<N
  ·have hc:=hrow.cell (i:=N - 1 - k) (by omega)
   have hf:=hrow.frozen (N - 1 - k)
   have HS:=hid (M.shr256_succ n k)
   generalize hval:n/256^k=v at*
   have HV:=hid hval
   clear hval
   have hge:(0:Int)≤(N:Int) - 1 - k:=by omega
   have hto:((N:Int) - 1 - k).toNat=N - 1 - k:=by omega
   have HT:=hid (tdiv_whole v)
   have hm0:0≤v%256:=by omega
   have hm1:v%256≤255:=by omega
   have hs0: -9223372036854775808≤v - v%256:=by omega
   have hs1:v - v%256≤9223372036854775807:=by omega
   have hw1:wrap64 (v%256)=v%256:=IntWalk.wrap64_in _ ⟨by omega,by omega⟩
   have hw2:wrap64 (v - v%256)=v - v%256:=IntWalk.wrap64_in _ ⟨by omega,by omega⟩
   have hw3:wrap64 (v/256)=v/256:=IntWalk.wrap64_in _ ⟨by omega,by omega⟩
   have HW1:=hid hw1
   have HW2:=hid hw2
   have HW3:=hid hw3
   clear hw1 hw2 hw3
   by_cases hneg:v.tmod 256<0
   case' pos=>
    have HM:=hid (tmod_neg v hneg)
    go_wp2
    rw [HM.out,HW1.out,HW2.out,HT.out,HW3.out]
   case' neg=>
    have HM:=hid (tmod_pos v hneg)
    go_wp2
    rw [HM.out,HW2.out,HT.out,HW3.out]
   all_goals
    have he:v%256%256=v%256:=by omega
    rw [he]
    go_roundw
    case rel=>
     refine ⟨k+1,by omega,by go_num,by rw [HS.out],(hrow.set _ _).to fun j _=> ?_,hbel.setCell (Nat.le_refl _) _⟩
     rw [←HV.out]
     exact M.binC_succ n N k j hlt
    case measure=>simp [RowKit.intOf];omega
  ·obtain rfl:k=N:=by omega
   clear hlt hk
   have hc:=hrow.cell (i:=0) (by omega)
   have hf:=hrow.frozen 0
   rw [M.binC_first n k (by omega)] at hc
   have hx0:0≤n/256^(k - 1)%256:=by omega
   have hx1:n/256^(k - 1)%256≤255:=by omega
   have HE:=hid (M.binC_end n k)
   have HFE:=hid (binFits_eq n k h1 h2)
   have HRE:Hid (M.binR n k=if M.binFits n k then M.bin n k else []):=hid (by unfold M.binR;rw [Int.toNat_natCast])
   generalize n/256^(k - 1)%256=x at*
   generalize n/256^k=v at*
   have hk0:(0:Int)<k:=by omega
   have hneg:(k:Int) - 1 - k<0:=by omega
   go_wp2_with fail
   have hx2:(x%128+128)%256=x%128+128:=by omega
   try rw [hx2]
   have hrow2:RowB (wr.setCell ⟨w.heap.size,0,none⟩ (.int .u8 (x%128+128))) w.heap.size k (M.binG n k):=(hrow.set 0 _).to fun j hj=>HE.out j hj
   have hbel2:Below w.heap.size w (wr.setCell ⟨w.heap.size,0,none⟩ (.int .u8 (x%128+128))):=hbel.setCell (Nat.le_refl _) _
   generalize wr.setCell ⟨w.heap.size,0,none⟩ (.int .u8 (x%128+128))=w2 at*
   have HB:=binaryRef_any _ k k _ w2 _ (hrow2.rd (M.binG_bd n k)) (Nat.le_refl _) (by unfold maxLen;omega)
   rw [show M.listOf (M.binG n k) k=M.bin n k from rfl] at HB
   refine HB.mono ?_
   rintro e w' ⟨rfl,rfl⟩
   clear HB hrow hbel hc hf HE hx0 hx1 hx2
   cases hok:M.binOk (M.bin n k) with
   |false=>
    have hf:M.binFits n k=false:=by rw [HFE.out,hok];rfl
    have hr:M.binR n k= []:=by rw [HRE.out,hf];rfl
    have HF:=hid hf
    have HR:=hid hr
    clear hok hf hr
    go_wp2
    go_ret2
    rw [HF.out,HR.out]
    exact PutOwn.none_ hbel2
   |true=>
    by_cases heq:M.binN (M.bin n k)=n
    ·have hf:M.binFits n k=true:=by rw [HFE.out,hok,heq];simp
     have hr:M.binR n k=M.bin n k:=by rw [HRE.out,hf];rfl
     have HF:=hid hf
     have HR:=hid hr
     clear hok hf hr
     rw [heq]
     clear heq
     have hne:(n !=n)=false:=by simp
     go_wp2
     go_ret2
     rw [HF.out,HR.out]
     exact ⟨_,k,rfl,hrow2.rd (M.binG_bd n k),hbel2,fun b off h=>by injection h with h;injection h with h;exact Nat.le_of_eq h⟩
    ·have hf:M.binFits n k=false:=by rw [HFE.out,hok];simpa using heq
     have hr:M.binR n k= []:=by rw [HRE.out,hf];rfl
     have HF:=hid hf
     have HR:=hid hr
     clear hok hf hr
     have hne:(M.binN (M.bin n k) !=n)=true:=by simpa using heq
     generalize M.binN (M.bin n k)=y at*
     go_wp2
     go_ret2
     rw [HF.out,HR.out]
     exact PutOwn.none_ hbel2
theorem putBinaryRef_own (n wide:Int) (w:World) (hn: -9223372036854775808≤n∧n≤9223372036854775807):
  Calls Tryz.prog 113 #[.int .i64 n, .int .i64 wide] w (PutOwn w (M.binFits n wide) (M.binR n wide)):=by
 by_cases h:2≤wide∧wide≤32
 ·obtain ⟨h1,h2⟩:=h
  obtain ⟨N,rfl⟩:=Int.eq_ofNat_of_zero_le (by omega:0≤wide)
  exact putBinaryRef_goO n N w (by omega) (by omega) hn
 ·rw [binR_no (binFits_no h),binFits_no h]
  by_cases h1:wide<2
  ·have e1:decide (wide<2)=true:=by simpa using h1
   clear h h1
   go_enter Tryz.func113,Tryz.ntmps113
   go_wp2
   go_ret2
   exact PutOwn.none_ (Below.refl _ _)
  ·have e1:decide (wide<2)=false:=by simpa using h1
   have e2:decide (32<wide)=true:=by rw [decide_eq_true_eq];omega
   clear h h1
   go_enter Tryz.func113,Tryz.ntmps113
   go_wp2
   go_ret2
   exact PutOwn.none_ (Below.refl _ _)
set_option maxHeartbeats 400000 in
theorem putRef_own (n wide:Int) (w:World) (hn: -9223372036854775808≤n∧n≤9223372036854775807):
  Calls Tryz.prog 79 #[.int .i64 n, .int .i64 wide] w (PutOwn w (M.putFits n wide) (M.putR n wide)):=by
 have HO:=hid (putOctalRef_own n wide w)
 have HB:=hid (fun W=>putBinaryRef_own n wide W hn)
 cases hf:M.octFits n wide with
 |true=>
  have hF:M.putFits n wide=true:=by unfold M.putFits;rw [hf];rfl
  have hR:M.putR n wide=M.octR n wide:=by simp [M.putR,M.octR,hf]
  rw [hF,hR]
  rw [hf] at HO
  clear hf hF hR
  go_enter Tryz.func79,Tryz.ntmps79
  go_wp2_with fail
  (with_reducible refine HO.out.mono ?_)
  rintro e w' ⟨A,N,rfl,hr,hb,hf⟩
  go_wp2
  go_ret2
  exact ⟨A,N,rfl,hr,hb,hf⟩
 |false=>
  have hF:M.putFits n wide=M.binFits n wide:=by unfold M.putFits;rw [hf];rfl
  have hR:M.putR n wide=M.binR n wide:=by unfold M.putR;rw [hf];rfl
  rw [hF,hR]
  rw [hf] at HO
  clear hf hF hR
  go_enter Tryz.func79,Tryz.ntmps79
  go_wp2_with fail
  (with_reducible refine HO.out.mono ?_)
  rintro e w' ⟨A,N,rfl,hr,hb,hf⟩
  go_wp2_with fail
  (with_reducible refine (HB.out _).mono ?_)
  rintro e w2 ⟨A2,N2,rfl,hr2,hb2,hf2⟩
  go_wp2
  go_ret2
  exact PutOwn.past hb ⟨A2,N2,rfl,hr2,hb2,hf2⟩
end Go.Proofs.YtgbgngdakkiclaaGreatDoor.Hd
