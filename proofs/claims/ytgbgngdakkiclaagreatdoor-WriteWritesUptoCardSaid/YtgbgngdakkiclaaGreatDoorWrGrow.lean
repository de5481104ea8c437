import Derived.Test.YtgbgngdakkiclaaGreatDoorWrYZ
import Derived.Lib.BufferMore
import Derived.Laws.StructEq
import Derived.Shelf.RegionOpen
set_option linter.unusedVariables false
set_option linter.unusedSimpArgs false
namespace Go.Proofs.YtgbgngdakkiclaaGreatDoor
open Go.RowKit Go.Lib
set_option maxRecDepth 100000 in
set_option maxHeartbeats 8000000 in
theorem growNil {w:World} {b n:Nat} {lr:Int} (hn:64<n) (hn2:n≤1000000) (h3:LibA.Three w b 0 60 (fun _=>none) (.slice none 0 0) (.int .i64 0) (.int .i8 lr)):
  Calls Tryz.prog 57 #[.pointer (some ⟨b,0,none⟩), .int .i64 n] w fun e w'=>e= .returned (.int .i64 0)∧ ∃ G cap2 cells,w.heap.size≤G∧LibA.Three w' b 0 60 (fun _=>none) (.slice (some ⟨G,0,none⟩) (n) cap2) (.int .i64 0) (.int .i8 lr)∧
   w'.heap[G]?=some (.cells cells 5 (0,0))∧cells.size=cap2∧(n≤cap2)∧cap2≤maxLen∧w.grownBy w' (some b):=by
 have mixed:Tryz.prog.follows .mixedOrders=true:=by kernel_rfl
 have c0:=h3.c0
 have c1:w.cell? ⟨b,1,none⟩=_:=h3.c1
 have hlt:=h3.lt
 have HT:=hid (fun W (hc:W.cell? ⟨b,0,none⟩=some (.slice none 0 0))=>Tryz.Buffer_tryGrow_none_at b 0 none 0 0 n W hc (by omega) (by unfold maxLen;omega) (by omega))
 have H3:=hid h3
 have HLen:=hid (show Calls Tryz.prog 72 #[.pointer (some ⟨b,0,none⟩)] w fun e w'=>e= .returned (.int .i64 0)∧ ∃ n,w'=w.drewN n from
  bufLen (B:=0) (zs:= []) ⟨Nat.zero_le _,_,_,h3,World.ownsRow_nil _ _ _ _,by simp [Value.ownBlock]⟩)
 have hn64: ¬ (n:Int)≤64:=by omega
 clear h3
 go_enter Tryz.func57,Tryz.ntmps57
 go_wp2_with fail
 refine HLen.out.mono ?_
 rintro e w1 ⟨rfl,n1,rfl⟩
 have H31:=hid (show LibA.Three (w.drewN n1) b 0 60 (fun _=>none) (.slice none 0 0) (.int .i64 0) (.int .i8 lr) from H3.out)
 have HG1:=hid (show w.grownBy (w.drewN n1) (some b) from Sp.grown_of_below (Px.below_drewN' (Below.refl _ _) n1) (some b))
 have hsz1:w.heap.size≤(w.drewN n1).heap.size:=Nat.le_refl _
 clear c0 c1 H3 HLen
 generalize w.drewN n1=w1 at*
 have hlt1:=H31.out.lt
 have c0:=H31.out.c0
 have c1:w1.cell? ⟨b,1,none⟩=_:=H31.out.c1
 have f0:=H31.out.f 0
 have f1:=H31.out.f 1
 have HGS:=hid (fun (W:World)=>Tryz.bytes_growSlice_nil n W (by omega) (by omega))
 have u22:=fun (W:World)=>run_eql_slice_nil_nil (P:=Tryz.prog) W 0 0 Tryz.underlying22
 skip
 skip
 go_wp2_with (refine (HT.out _ c0).mono ?_;rintro e wz ⟨rfl,rfl⟩)
 skip
 have hwn:IntKind.i64.wrap (n:Int)=n:=by rw [IntKind.wrap_i64];omega
 clear HT
 go_region_with_o (
   go_at_call 77
   refine (HGS.out _).mono ?_
   rintro e w2 ⟨cap2,C,rfl,hN,hcsz,g5,hcm2,hbel⟩
   have hbk2:LibA.Three w2 b 0 60 (fun _=>none) (.slice none 0 0) (.int .i64 0) (.int .i8 lr):=H31.out.of_heap (hbel.block b hlt1)
   have d0:=hbk2.c0
   have d1:w2.cell? ⟨b,1,none⟩=_:=hbk2.c1
   have e0:=hbk2.f 0
   have e1:=hbk2.f 1
   unfold maxLen at hcm2)
 all_goals (
  go_wp2
  go_ret
  have hne:wz.drew.heap.size≠b:=by show wz.heap.size≠b;omega
  refine ⟨rfl,wz.drew.heap.size,cap2,C,hsz1,((hbk2.set0 _).set1 _).set0 _, ?_,hcsz,g5,by unfold maxLen;omega, ?_⟩
  ·exact (Below.heap_setCell _ _ _ _ hne).trans ((Below.heap_setCell _ _ _ _ hne).trans ((Below.heap_setCell _ _ _ _ hne).trans hN))
  ·exact Lib.grownBy_setB (Lib.grownBy_setB (Lib.grownBy_setB (Lib.grownBy_below (w:=wz.drew) ⟨HG1.out.os,HG1.out.tape,HG1.out.output,HG1.out.size,HG1.out.block⟩ hbel) 0 _) 1 _) 0 _)
set_option maxRecDepth 100000 in
set_option maxHeartbeats 8000000 in
theorem growRow {w:World} {b n:Nat} {lr:Int} (hn:64<n) (hn2:n≤1000000) (g l cap:Nat) (cur:Array Value) (hg:w.heap[g]?=some (.cells cur 5 (0,0))) (hcs:cur.size=cap) (hlc:l≤cap) (hcap:cap≤100000000000) (hgb:g≠b) (h1: ∀ v∈cur.toList.take l,v.oneCell'=true) (hroom:cap - l<n) (h3:LibA.Three w b 0 60 (fun _=>none) (.slice (some ⟨g,0,none⟩) l cap) (.int .i64 0) (.int .i8 lr)):
  Calls Tryz.prog 57 #[.pointer (some ⟨b,0,none⟩), .int .i64 n] w fun e w'=>e= .returned (.int .i64 l)∧ ∃ G cap2 cells,w.heap.size≤G∧LibA.Three w' b 0 60 (fun _=>none) (.slice (some ⟨G,0,none⟩) (l+n) cap2) (.int .i64 0) (.int .i8 lr)∧
   w'.heap[G]?=some (.cells cells 5 (0,0))∧cells.size=cap2∧(cells.toList.take l=cur.toList.take l∧l+n≤cap2)∧cap2≤maxLen∧w.grownBy w' (some b):=by
 have mixed:Tryz.prog.follows .mixedOrders=true:=by kernel_rfl
 have c0:=h3.c0
 have c1:w.cell? ⟨b,1,none⟩=_:=h3.c1
 have hlt:=h3.lt
 have HT:=hid (fun W (hc:W.cell? ⟨b,0,none⟩=some (.slice (some ⟨g,0,none⟩) l cap))=>Tryz.Buffer_tryGrow_none_at b 0 (some ⟨g,0,none⟩) l cap n W hc (by omega) (by unfold maxLen;omega) (by omega))
 have H3:=hid h3
 have HLen:=hid (show Calls Tryz.prog 72 #[.pointer (some ⟨b,0,none⟩)] w fun e w'=>e= .returned (.int .i64 l)∧ ∃ n,w'=w.drewN n from by
  have hl:(cur.toList.take l).length=l:=by rw [List.length_take,Array.length_toList];omega
  have h:=Tryz.Buffer_Len_at _ _ 0 b 0 (cur.toList.take l) w ⟨Nat.zero_le _,_,_,h3,⟨by rw [hl,Nat.mul_one], .inr ⟨g,cap,cur,by rw [hl],Nat.zero_le _,hg,by omega,by unfold maxLen;omega,by simpa using hcs,by rw [hl];simp⟩⟩,by simpa [Value.ownBlock] using hgb⟩
  rw [hl] at h
  exact h)
 clear h3
 go_enter Tryz.func57,Tryz.ntmps57
 go_wp2_with fail
 refine HLen.out.mono ?_
 rintro e w1 ⟨rfl,n1,rfl⟩
 have H31:=hid (show LibA.Three (w.drewN n1) b 0 60 (fun _=>none) (.slice (some ⟨g,0,none⟩) l cap) (.int .i64 0) (.int .i8 lr) from H3.out)
 have HG1:=hid (show w.grownBy (w.drewN n1) (some b) from Sp.grown_of_below (Px.below_drewN' (Below.refl _ _) n1) (some b))
 have hsz1:w.heap.size≤(w.drewN n1).heap.size:=Nat.le_refl _
 clear c0 c1 H3 HLen
 generalize w.drewN n1=w1 at*
 have hlt1:=H31.out.lt
 have c0:=H31.out.c0
 have c1:w1.cell? ⟨b,1,none⟩=_:=H31.out.c1
 have f0:=H31.out.f 0
 have f1:=H31.out.f 1
 have HGS:=hid (fun (W:World) (hW:W.heap[g]?=some (.cells cur 5 (0,0)))=>Tryz.bytes_growSlice_row g l cap n cur W hW hcs hlc (by omega) (by omega) (by omega) h1)
 have u22:=fun (W:World)=>run_eql_slice_some_nil (P:=Tryz.prog) W ⟨g,0,none⟩ l cap Tryz.underlying22
 have HG0:=hid (show w1.heap[g]?=some (.cells cur 5 (0,0)) from HG1.out.block g (Array.getElem?_eq_some_iff.1 hg).1 (by simpa using hgb)|>.trans hg)
 clear hg
 have hq2:2*l≤100000000000*2:=by omega
 obtain ⟨t,ht⟩: ∃ t,((l:Int)==0)=t:=⟨_,rfl⟩
 cases t<;>(
  go_wp2_with (refine (HT.out _ c0).mono ?_;rintro e wz ⟨rfl,rfl⟩)
  skip
  have hwn:IntKind.i64.wrap (n:Int)=n:=by rw [IntKind.wrap_i64];omega
  clear HT
  go_region_with_o (
    go_at_call 77
    refine (HGS.out _ ?_).mono ?_
    exact HG0.out
    rintro e w2 ⟨cap2,C,rfl,hN,hcsz,g4,g5,hcm2,hbel⟩
    have hbk2:LibA.Three w2 b 0 60 (fun _=>none) (.slice (some ⟨g,0,none⟩) l cap) (.int .i64 0) (.int .i8 lr):=H31.out.of_heap (hbel.block b hlt1)
    have d0:=hbk2.c0
    have d1:w2.cell? ⟨b,1,none⟩=_:=hbk2.c1
    have e0:=hbk2.f 0
    have e1:=hbk2.f 1
    unfold maxLen at hcm2)
  all_goals (
   go_wp2
   go_ret
   have hne:wz.drew.heap.size≠b:=by show wz.heap.size≠b;omega
   refine ⟨rfl,wz.drew.heap.size,cap2,C,hsz1,((hbk2.set0 _).set1 _).set0 _, ?_,hcsz,⟨g4,g5⟩,by unfold maxLen;omega, ?_⟩
   ·exact (Below.heap_setCell _ _ _ _ hne).trans ((Below.heap_setCell _ _ _ _ hne).trans ((Below.heap_setCell _ _ _ _ hne).trans hN))
   ·exact Lib.grownBy_setB (Lib.grownBy_setB (Lib.grownBy_setB (Lib.grownBy_below (w:=wz.drew) ⟨HG1.out.os,HG1.out.tape,HG1.out.output,HG1.out.size,HG1.out.block⟩ hbel) 0 _) 1 _) 0 _))
end Go.Proofs.YtgbgngdakkiclaaGreatDoor
