/-
  Texts of one chapter, merged.
-/
import Derived.Test.YtgbgngdakkiclaaGreatDoorWrYZ
import Derived.Test.YtgbgngdakkiclaaGreatDoorWrWrite
import Derived.Test.YtgbgngdakkiclaaGreatDoorMtTextZ
import Derived.Test.YtgbgngdakkiclaaGreatDoorStepZ
import Derived.Test.YtgbgngdakkiclaaGreatDoorKS
import Derived.Deep.MidRow
import Derived.Test.YtgbgngdakkiclaaGreatDoorMtTo
import Derived.Test.YtgbgngdakkiclaaGreatDoorMtFromZ
set_option linter.unusedVariables false
set_option linter.unusedSimpArgs false
namespace Go.Proofs.YtgbgngdakkiclaaGreatDoor
open Go.RowKit Go.Lib
open Px (R2 tl)
theorem rd_arr {w:World} {g:Nat} {t:TypeId} {zs:List Int} (h:Hd.Arr w g t zs) (hl:zs.length=512) (hu: ∀ z∈zs,0≤z∧z≤255):Sp.Rd w w.heap.size (some ⟨g,0,none⟩) 512 zs:=
 ⟨hl,hu,fun _=>⟨g,0,rfl,h.lt,fun j z hz=>by rw [Nat.zero_add];exact h.cell hz⟩⟩
theorem far_later {w w':World} {b p:Nat} (h:Far w b p) (hb:Below w.heap.size w w') (hlt:b<w.heap.size):Far w' b p:=fun a n c hc=>h a n c (by rw [←hc];exact (hb.cell (p:=⟨b,0,none⟩) hlt).symm)
theorem rd_same {w w':World} {B B' n:Nat} {A:Option Addr} {zs:List Int} (h:Sp.Rd w B A n zs) (hA: ∀ a,A=some a→w'.heap[a.block]?=w.heap[a.block]?) (hB:B≤B'):Sp.Rd w' B' A n zs:=
 ⟨h.1,h.2.1,fun hn=>by
  obtain ⟨b,off,e,hb,hc⟩:=h.2.2 hn
  refine ⟨b,off,e,by omega,fun j z hz=> ?_⟩
  have h1:=hc j z hz
  have h2:=hA _ e
  unfold World.cell? at h1⊢
  simpa [h2] using h1⟩
set_option maxRecDepth 100000 in
set_option maxHeartbeats 1000000 in
theorem archHeader {w:World} {B b:Nat} {zs:List Int} (h:Buf w B b zs) (hB:B≤w.heap.size) (x:M.Hdr) (ha:Hd.M.Asked (hd x)) (hi: ∀ W,Hd.HIn W (hd x) (.slice none 0 0)) (hmg:Hd.MG w) (hl:zs.length≤10000000000):
  Calls Tryz.prog 35 #[.pointer (some ⟨b,0,none⟩), .agg (hcells x (.slice none 0 0))] w fun e w'=>e= .returned (.tuple #[])∧Buf w' B b (zs++M.blk x)∧Below B w w'∧Kp b w w'∧Lib.OthersKept 5 (some b) w w':=by
 have hbw:=(Below.refl w.heap.size w).alloc (Nat.le_refl _) (.cells (hcells x (.slice none 0 0)) 39)
 have HX:=hid (HB.new w x (.slice none 0 0))
 have H1:=hid (h.later hbw)
 have HG:=hid (hmg.later hbw)
 have HW:=hid hbw
 have hlt:=h.lt
 have hge:=h.ge
 have hsz:(w.alloc (.cells (hcells x (.slice none 0 0)) 39)).heap.size=w.heap.size+1:=World.size_alloc _ _
 have HS:=hid hsz
 have HP:=hid (fun W (hg:Hd.MG W)=>Hd.hprint_any (hd x) (.slice none 0 0) W (hi W) hg)
 have HL:=hid (blk_len ha)
 have HU:=hid (blk_u8 ha)
 have HO:=hid (blk_of ha)
 clear h hmg hbw ha hi hsz
 go_enter Tryz.func35,Tryz.ntmps35
 go_upto_region 1 with fail
 generalize World.alloc w _=W at*
 go_wp2_with (refine wpList_load_row rfl 39 (.tmp 3) rfl w.heap.size (by rfl) 39 (hcells x (.slice none 0 0)) (0,0) _ HX.out Tryz.underlying39 rfl hdr_size ?_)
 refine (HP.out W HG.out).mono ?_
 rintro e w2 ⟨hp,hb2⟩
 rw [HO.out,if_pos rfl] at hp
 obtain ⟨g,rfl,hg,harr⟩:=hp
 have H2:=hid (H1.out.later hb2)
 have HR:=hid (rd_arr harr HL.out HU.out)
 have hgb:g≠b:=by have:=HS.out;omega
 have hfar:=hid (far_later (far_of H1.out hg) hb2 H1.out.lt)
 have HW2:=hid (HW.out.trans (hb2.mono HW.out.size))
 have hB2:B≤w2.heap.size:=Nat.le_trans hB HW2.out.size
 have HK2:=hid (Kp.below HW2.out hlt)
 have HO2:=hid (Lib.OthersKept.below (Lib.OthersKept.refl 5 (some b) w) HW2.out)
 clear harr hb2 hg
 go_wp2_with fail
 refine (bufWriteF H2.out hB2 HR.out hgb hfar.out (by omega)).mono ?_
 rintro e w3 ⟨rfl,hb3,hbel,hkp⟩
 have H3:=hid hb3
 have HB3:=hid ((HW2.out.mono hB).trans hbel)
 have HK3:=hid (HK2.out.trans hkp HW2.out.size)
 have HO3:=hid (HO2.out.trans (ok_of_kp H2.out hkp))
 clear hb3 hbel hkp
 go_wp2_with fail
 refine bodyPost_end (results_none rfl _ _ _) rfl ?_
 exact ⟨rfl,H3.out,HB3.out,HK3.out,HO3.out⟩
theorem recI_own {w:World} {base:Nat} {v:Value} {m:M.Met} (h:Px.OwnB w base v (Px.M.printB (M.toR m))):Sp.OwnY w base v (M.recI m):=by
 unfold Px.OwnB at h
 unfold Sp.OwnY
 have e:Sp.bcells (M.recI m)=Lib.byteCells (Px.M.printB (M.toR m)):=by simp [Sp.bcells,M.recI,Lib.byteCells]
 rw [e,M.recI_len]
 exact h
theorem own_far {w:World} {base b n c:Nat} {A:Option Addr} {zs:List Int} (h:Sp.OwnY w base (.slice A n c) zs) (hb:b<base): ∀ a,A=some a→a.block≠b:=by
 rintro a rfl e
 exact h.apart hb (by simp [Value.ownBlock,e])
set_option maxRecDepth 100000 in
set_option maxHeartbeats 1000000 in
theorem archRecords {w:World} {B b:Nat} {zs:List Int} (h:Buf w B b zs) (hB:B≤w.heap.size) (m:M.Met) (hE:M.toE m=0) {A:Option Addr} (c:Nat) (hr:Px.RdR w w.heap.size A ((M.toR m).map M.mk)) (hf:(M.toR m).length≤1048576∧Px.Short ((M.toR m).map M.mk)) (hmg:Hd.MG w) (BE:Nat) (hBE:BE≤w.heap.size) (hev:Sp.EV BE w) (hm:zs.length%512=0) (hl:zs.length≤1000000000):
  Calls Tryz.prog 34 #[.pointer (some ⟨b,0,none⟩), .slice A (M.toR m).length c] w fun e w'=>e= .returned (.tuple #[])∧Buf w' B b (zs++(M.blk (M.paxH (M.recI m).length)++M.pad (M.recI m)))∧Below B w w'∧Lib.OthersKept 5 (some b) w w':=by
 have hlt:=h.lt
 have hge:=h.ge
 have HP:=hid (show Calls Tryz.prog 70 #[.slice A (M.toR m).length c] w (Px.PrintIs .u16 ((M.toR m).map M.mk) w) by
  have h1:=Px.print_any A c ((M.toR m).map M.mk) (by rw [List.length_map];exact hf.1) hf.2 BE w hBE hev.tens hr
  rw [List.length_map] at h1
  exact h1)
 have HA:=hid (asked_recs m)
 have HI:=hid (fun W=>hin_pax ((M.recI m).length:Nat) (by omega) (by have:=M.recI_le m;omega) W)
 have HRE:=hid (M.recE hE)
 have HG:=hid hmg
 have H0:=hid h
 have HL:=hid (M.recI_len m)
 have HLE:=hid (M.recI_le m)
 have hbl:=blk_len (asked_recs m)
 have HBL:=hid hbl
 clear h hr hf hmg hev hbl
 go_enter Tryz.func34,Tryz.ntmps34
 go_wp2_with fail
 refine HP.out.mono ?_
 rintro e w2 ⟨v,rfl,hown,hb2⟩
 rw [rcs_mk,HRE.out]
 rw [rcs_mk] at hown
 have ho:=recI_own hown
 obtain ⟨A2,c2,rfl,hrd,_,_⟩:=ho.rd (M.recI_u8 m)
 have H2:=hid (H0.out.later hb2)
 have HR2:=hid hrd
 have HG2:=hid (HG.out.later hb2)
 have HA2:=hid (own_far ho hlt)
 have HF2:=hid (show ∀ a,A2=some a→a.block<w2.heap.size∧Far w2 b a.block from fun a ha=>by
  subst ha
  have h5:=ho.lt (g:=a.block) rfl
  exact ⟨h5.2,far_later (far_of H0.out h5.1) hb2 hlt⟩)
 have HB2:=hid (hb2.mono hB)
 have HO2:=hid (Lib.OthersKept.below (Lib.OthersKept.refl 5 (some b) w) hb2)
 have hB2:B≤w2.heap.size:=Nat.le_trans hB hb2.size
 clear hown hrd hb2 HP H0 HG ho
 go_wp2_with fail
 refine (archHeader H2.out hB2 (M.paxH ((M.recI m).length:Nat)) HA.out HI.out HG2.out (by omega)).mono ?_
 rintro e w3 ⟨rfl,hb3,hbel3,hkp3,hok3⟩
 have HO3:=hid (HO2.out.trans hok3)
 have H3:=hid hb3
 have HR3:=hid (rd_same (B':=w3.heap.size) HR2.out (fun a ha=>by
  have h1:=HF2.out a ha
  exact (hkp3 a.block h1.1 (HA2.out a ha) h1.2).1) hbel3.size)
 have HB3:=hid (HB2.out.trans hbel3)
 have hB3:B≤w3.heap.size:=Nat.le_trans hB2 hbel3.size
 have hlen3:(zs++M.blk (M.paxH ((M.recI m).length:Nat))).length=zs.length+512:=by rw [List.length_append,HBL.out]
 have hmod:(zs++M.blk (M.paxH ((M.recI m).length:Nat))).length%512=0:=by rw [hlen3];omega
 have hlim3:(zs++M.blk (M.paxH ((M.recI m).length:Nat))).length+(M.recI m).length≤100000000000:=by rw [hlen3];have:=HLE.out;omega
 have HP3:=hid (archPadded H3.out hB3 c2 HR3.out HA2.out hmod hlim3)
 clear hb3 hbel3 hkp3 hlen3 hmod hlim3 H2 HR2 HG2 HB2
 go_wp2_with fail
 refine HP3.out.mono ?_
 rintro e w4 ⟨rfl,hb4,hbel4,hok4⟩
 have HO4:=hid (HO3.out.trans hok4)
 have H4:=hid hb4
 have HB4:=hid (HB3.out.trans hbel4)
 clear hb4 hbel4 HP3
 go_wp2_with fail
 refine bodyPost_end (results_none rfl _ _ _) rfl ⟨rfl, ?_,HB4.out,HO4.out⟩
 rw [←List.append_assoc]
 exact H4.out
end Go.Proofs.YtgbgngdakkiclaaGreatDoor

namespace Go.Proofs.YtgbgngdakkiclaaGreatDoor
open Go.RowKit Go.Lib
structure Mb where
 m:M.Met
 pv:Value
 ev:Value
 dv:Value
 d:List Int
def Mb.cells (x:Mb):Array Value:=
 #[.string x.m.name, .string x.m.link, .int .u8 x.m.kind, .int .i64 x.m.mode, .int .i64 x.m.uid, .int .i64 x.m.gid, .string x.m.user, .string x.m.group, .int .i64 x.m.sec, .int .i64 x.m.nan, .int .i64 x.m.major, .int .i64 x.m.minor, .int .i64 x.m.size, .int .i64 x.m.real, .bool x.m.holes,x.pv,x.ev,x.dv]
theorem Mb.cells_eq (x:Mb):x.cells=(mcells x.m x.pv x.ev).push x.dv:=rfl
theorem mem_size {x:Mb} :(Tryz.prog.info? 37).map (·.size)=some x.cells.size:=by
 show _=some 18
 kernel_rfl
structure MbIn (w:World) (B:Nat) (x:Mb):Prop where
 met:MIn w x.m x.pv x.ev
 data: ∃ A c,x.dv= .slice A x.d.length c∧Sp.Rd w B A x.d.length x.d∧ ∀ a,A=some a→a.block<B
 few:x.d.length≤1048576
theorem MbIn.later {w w':World} {B:Nat} {x:Mb} (h:MbIn w B x) (hB:B≤w.heap.size) (hb:Below w.heap.size w w'):MbIn w' B x:=by
 obtain ⟨A,c,e,hr,hlo⟩:=h.data
 exact ⟨h.met.later hb,⟨A,c,e,hr.keep fun p hp=>hb.cell (p:=p) (Nat.lt_of_lt_of_le hp hB),hlo⟩,h.few⟩
def MX (w:World) (g:Nat) (x:Mb):Prop:=w.heap[g]?=some (.cells x.cells 37 (0,0))
section
variable {w w':World} {g:Nat} {x:Mb}
theorem MX.lt (h:MX w g x):g<w.heap.size:=(Array.getElem?_eq_some_iff.1 h).1
theorem MX.new (w:World) (x:Mb):MX (w.alloc (.cells x.cells 37)) w.heap.size x:=heap_alloc_new w _
theorem MX.below {B:Nat} (h:MX w g x) (hb:Below B w w') (hg:g<B):MX w' g x:=(hb.block g hg).trans h
theorem MX.kept {b:Nat} (h:MX w g x) (hk:Lib.OthersKept 5 (some b) w w') (hg:g≠b):MX w' g x:=
 hk g _ h (fun e=>hg (Option.some.inj e)) (fun c fz e=>by injection e with _ e2 _;exact absurd e2 (by decide))
theorem MX.cell (h:MX w g x) {i:Nat} {v:Value} (hv:x.cells[i]?=some v):w.cell? ⟨g,i,none⟩=some v:=by rw [cell_of_row w g i _ _ _ h];exact hv
theorem MX.range (h:MX w g x):w.rangeAt g 0 (mcells x.m x.pv x.ev).toList:=fun j v hv=>by
 rw [Nat.zero_add]
 refine h.cell ?_
 rw [Mb.cells_eq]
 have hj:j<(mcells x.m x.pv x.ev).size:=by have:=(List.getElem?_eq_some_iff.1 hv).1;simpa using this
 rw [Array.getElem?_push_lt hj]
 have:=(List.getElem?_eq_some_iff.1 hv).2
 simpa using this
end
theorem HB.kept {w w':World} {g b:Nat} {h:M.Hdr} {pv:Value} (hb:HB w g h pv) (hk:Lib.OthersKept 5 (some b) w w') (hg:g≠b):HB w' g h pv:=
 hk g _ hb (fun e=>hg (Option.some.inj e)) (fun c fz e=>by injection e with _ e2 _;exact absurd e2 (by decide))
end Go.Proofs.YtgbgngdakkiclaaGreatDoor

namespace Go.Proofs.YtgbgngdakkiclaaGreatDoor
open Go.RowKit Go.Lib
open Px (R2 tl)
set_option maxRecDepth 100000 in
set_option maxHeartbeats 4000000 in
theorem archMember {w:World} {B b:Nat} {zs:List Int} (h:Buf w B b zs) (hB:B≤w.heap.size) (x:Mb) (hx:MbIn w B x) (hmg:Hd.MG w) (hgB:1<B) (BE:Nat) (hBE:BE≤w.heap.size) (hev:Sp.EV BE w) (hm:zs.length%512=0) (hl:zs.length≤900000000):
  Calls Tryz.prog 18 #[.pointer (some ⟨b,0,none⟩), .agg x.cells] w fun e w'=>e= .returned (.int .u16 (M.oneE x.m x.d:Nat))∧Below B w w'∧(M.oneE x.m x.d=0→Buf w' B b (zs++M.oneL x.m x.d)):=by
 have hlt:=h.lt
 have hge:=h.ge
 have hbw:=(Below.refl w.heap.size w).alloc (Nat.le_refl _) (.cells x.cells 37)
 have HX:=hid (MX.new w x)
 have H1:=hid (h.later hbw)
 have HW:=hid hbw
 have HI:=hid (hx.later hB hbw)
 have HG:=hid (hmg.later hbw)
 have HE1:=hid (hev.on (hbw.mono hBE))
 have hsz:w.heap.size<(w.alloc (.cells x.cells 37)).heap.size:=by rw [World.size_alloc];omega
 clear h hx hmg hev hbw
 go_enter Tryz.func18,Tryz.ntmps18
 go_upto_region 1 with fail
 generalize World.alloc w _=W at*
 have hmm:(Tryz.prog.info? 35).map (·.size)=some (mcells x.m x.pv x.ev).toList.length:=met_size
 go_wp2_with (refine wpList_load_mid rfl 35 (.tmp 9) rfl w.heap.size 0 (by rfl) (mcells x.m x.pv x.ev).toList _ HX.out.range Tryz.underlying35 rfl hmm ?_;rw [Array.toArray_toList])
 refine (to_any x.m x.pv x.ev BE W HI.out.met (Nat.le_trans hBE HW.out.size) HE1.out).mono ?_
 rintro e w2 ⟨A,c,rfl,hrd,hrc,hb2⟩
 have HF:=hid (fin_to (w:=w2) HI.out.met.fits hrd)
 have HRD:=hid hrd
 have hb3:=(Below.refl w2.heap.size w2).alloc (Nat.le_refl _) (.cells (hcells (M.toH x.m) (.slice none 0 0)) 39)
 have hb13:=hb2.trans (hb3.mono hb2.size)
 have H3:=hid (H1.out.later hb13)
 have HX3:=hid (HX.out.below hb13 hsz)
 have HH3:=hid (HB.new w2 (M.toH x.m) (.slice none 0 0))
 have HW3:=hid (HW.out.trans (hb13.mono HW.out.size))
 have HI3:=hid (HI.out.later (Nat.le_trans hB HW.out.size) hb13)
 have HG3:=hid (HG.out.later hb13)
 have HE3:=hid (HE1.out.on (hb13.mono (Nat.le_trans hBE HW.out.size)))
 have HR3:=hid ((HRD.out.below hb3).more hb3.size)
 have hsz2:W.heap.size≤w2.heap.size:=hb2.size
 clear hrd hrc hb2 hb3 hb13 H1 HX HW HI HG HE1 HRD
 go_upto_region 2 with (refine wpList_store_row rfl 39 (.tmp 5) (.tmp 12) rfl w2.heap.size (hcells (M.toH x.m) (.slice none 0 0)) (by rfl) (by rfl) 39 (hcells {} (.slice none 0 0)) (heap_alloc_new w2 _) hdr_size rfl (hcells_one _ rfl) ?_;rw [World.setRow_alloc_new])
 generalize World.alloc w2 _=w3 at*
 obtain ⟨hp,hhp⟩: ∃ k,w2.heap.size=k:=⟨_,rfl⟩
 rw [hhp] at HH3 hsz2⊢
 have hpb:hp≠b:=by have:=H3.out.lt;omega
 have hgb:w.heap.size≠b:=by omega
 have HS:=hid (show (M.toR x.m).length≤1048576∧Px.Short ((M.toR x.m).map M.mk) from ⟨by have:=HF.out.nrecs;rw [List.length_map] at this;omega,fun r hr=>by have:=HF.out.fits r hr;omega⟩)
 clear hhp HF
 have hB3:B≤w3.heap.size:=Nat.le_trans hB HW3.out.size
 obtain ⟨E,hE⟩: ∃ E,M.toE x.m=E:=⟨_,rfl⟩
 by_cases h0:E=0
 ·subst h0
  obtain ⟨Ad,cd,hdv,hrd,hlo⟩:=HI3.out.data
  have k17:w3.cell? ⟨w.heap.size,17,none⟩=some (.slice Ad x.d.length cd):=by rw [←hdv];exact HX3.out.cell rfl
  have k12:w3.cell? ⟨w.heap.size,12,none⟩=some (.int .i64 x.m.size):=HX3.out.cell rfl
  rw [hE]
  by_cases hd:(x.d.length:Int)=x.m.size
  ·have hne:((x.d.length:Int) !=x.m.size)=false:=by rw [bne_eq_false_iff_eq];exact hd
   have HON:=hid (show M.oneE x.m x.d=0 from by unfold M.oneE;rw [if_neg (by rw [hE];decide),if_neg (by simpa using hd)])
   have HEE:=hid hE
   have HRD:=hid hrd
   have HDV:=hid hdv
   have HLO:=hid hlo
   have HFW:=hid HI3.out.few
   have HHI:=hid (fun V=>hin_head HI3.out.met HEE.out V)
   clear hE hd hrd hdv hlo HI3
   by_cases hr0:(M.toR x.m).length=0
   ·have HL:=hid (M.oneL_0 hr0 zs x.d)
    go_upto_region 8 with fail
    have k17:w3.cell? ⟨w.heap.size,17,none⟩=some (.slice Ad x.d.length cd):=by rw [←HDV.out];exact HX3.out.cell rfl
    go_wp2_with (refine wpList_load_row rfl 39 (.tmp 5) rfl hp (by rfl) 39 (hcells (M.toH x.m) (.slice none 0 0)) (0,0) _ HH3.out Tryz.underlying39 rfl hdr_size ?_)
    refine (archHeader H3.out hB3 (M.toH x.m) (asked_toH HEE.out) HHI.out HG3.out (by omega)).mono ?_
    rintro e w5 ⟨rfl,hb5,hbel5,hkp5,hok5⟩
    have H5:=hid hb5
    have HX5:=hid (HX3.out.kept hok5 hgb)
    have HW5:=hid ((HW3.out.mono hB).trans hbel5)
    have hB5:B≤w5.heap.size:=Nat.le_trans hB3 hbel5.size
    have HR5:=hid ((HRD.out.keep fun p hp=>hbel5.cell (p:=p) hp).more hB5)
    have k17':w5.cell? ⟨w.heap.size,17,none⟩=some (.slice Ad x.d.length cd):=by rw [←HDV.out];exact HX5.out.cell rfl
    have hlen5:(zs++M.blk (M.toH x.m)).length=zs.length+512:=by rw [List.length_append,blk_len (asked_toH HEE.out)]
    have hm5:(zs++M.blk (M.toH x.m)).length%512=0:=by rw [hlen5];omega
    have hl5:(zs++M.blk (M.toH x.m)).length+x.d.length≤100000000000:=by rw [hlen5];have:=HFW.out;omega
    have HP:=hid (archPadded H5.out hB5 cd HR5.out (fun a ha=>by have:=HLO.out a ha;omega) hm5 hl5)
    clear hb5 hbel5 hkp5 hok5 hlen5 hm5 hl5 k17
    go_wp2_with fail
    refine HP.out.mono ?_
    rintro e w6 ⟨rfl,hb6,hbel6,_⟩
    have H6:=hid hb6
    have HW6:=hid (HW5.out.trans hbel6)
    clear hb6 hbel6 HP
    go_wp2_with fail
    go_ret
    exact ⟨by rw [HON.out];rfl,HW6.out,fun _=>by rw [HL.out];exact H6.out⟩
   ·have HL:=hid (M.oneL_1 hr0 zs x.d)
    have hpos:0<(M.toR x.m).length:=by omega
    have HRL:=hid (M.recI_le x.m)
    clear hr0
    go_wp2_with fail
    refine (archRecords H3.out hB3 x.m HEE.out c HR3.out HS.out HG3.out BE (Nat.le_trans hBE HW3.out.size) HE3.out hm (by omega)).mono ?_
    rintro e w4 ⟨rfl,hb4,hbel4,hok4⟩
    have H4:=hid hb4
    have HX4:=hid (HX3.out.kept hok4 hgb)
    have HH4:=hid (HH3.out.kept hok4 hpb)
    have HG4:=hid (HG3.out.below hbel4 hgB)
    have HW4:=hid ((HW3.out.mono hB).trans hbel4)
    have hB4:B≤w4.heap.size:=Nat.le_trans hB3 hbel4.size
    have HRD4:=hid (HRD.out.keep fun p hp=>hbel4.cell (p:=p) hp)
    have hlen4:(zs++(M.blk (M.paxH ((M.recI x.m).length:Nat))++M.pad (M.recI x.m))).length=zs.length+(512+((M.recI x.m).length+M.padK (M.recI x.m).length)):=by rw [List.length_append,List.length_append,blk_len (asked_recs x.m),M.pad_len]
    have hpk:=M.padK_mod (M.recI x.m).length
    have hpl:=M.padK_lt (M.recI x.m).length
    have hm4:(zs++(M.blk (M.paxH ((M.recI x.m).length:Nat))++M.pad (M.recI x.m))).length%512=0:=by rw [hlen4];omega
    have hl4:(zs++(M.blk (M.paxH ((M.recI x.m).length:Nat))++M.pad (M.recI x.m))).length≤950000000:=by rw [hlen4];have:=HRL.out;omega
    clear hb4 hbel4 hok4 hlen4 hpk hpl k17 k12 H3 HX3 HH3 HG3 HW3 HRD HR3 HE3
    generalize hZ:zs++(M.blk (M.paxH ((M.recI x.m).length:Nat))++M.pad (M.recI x.m))=Z at*
    clear hZ
    go_upto_region 8 with fail
    have k17:w4.cell? ⟨w.heap.size,17,none⟩=some (.slice Ad x.d.length cd):=by rw [←HDV.out];exact HX4.out.cell rfl
    go_wp2_with (refine wpList_load_row rfl 39 (.tmp 5) rfl hp (by rfl) 39 (hcells (M.toH x.m) (.slice none 0 0)) (0,0) _ HH4.out Tryz.underlying39 rfl hdr_size ?_)
    refine (archHeader H4.out hB4 (M.toH x.m) (asked_toH HEE.out) HHI.out HG4.out (by omega)).mono ?_
    rintro e w5 ⟨rfl,hb5,hbel5,hkp5,hok5⟩
    have H5:=hid hb5
    have HX5:=hid (HX4.out.kept hok5 hgb)
    have HW5:=hid (HW4.out.trans hbel5)
    have hB5:B≤w5.heap.size:=Nat.le_trans hB4 hbel5.size
    have HR5:=hid ((HRD4.out.keep fun p hp=>hbel5.cell (p:=p) hp).more hB5)
    have k17':w5.cell? ⟨w.heap.size,17,none⟩=some (.slice Ad x.d.length cd):=by rw [←HDV.out];exact HX5.out.cell rfl
    have hlen5:(Z++M.blk (M.toH x.m)).length=Z.length+512:=by rw [List.length_append,blk_len (asked_toH HEE.out)]
    have hm5:(Z++M.blk (M.toH x.m)).length%512=0:=by rw [hlen5];omega
    have hl5:(Z++M.blk (M.toH x.m)).length+x.d.length≤100000000000:=by rw [hlen5];have:=HFW.out;omega
    have HP:=hid (archPadded H5.out hB5 cd HR5.out (fun a ha=>by have:=HLO.out a ha;omega) hm5 hl5)
    clear hb5 hbel5 hkp5 hok5 hlen5 hm5 hl5 k17
    go_wp2_with fail
    refine HP.out.mono ?_
    rintro e w6 ⟨rfl,hb6,hbel6,_⟩
    have H6:=hid hb6
    have HW6:=hid (HW5.out.trans hbel6)
    clear hb6 hbel6 HP
    go_wp2_with fail
    go_ret
    exact ⟨by rw [HON.out];rfl,HW6.out,fun _=>by rw [HL.out];exact H6.out⟩
  ·have hne:((x.d.length:Int) !=x.m.size)=true:=by rw [bne_iff_ne];exact hd
   have HON:=hid (show M.oneE x.m x.d=11 from by unfold M.oneE;rw [if_neg (by rw [hE];decide),if_pos hd])
   clear hE hd hrd hdv
   go_wp2_with fail
   go_ret
   exact ⟨by rw [HON.out];rfl,(HW3.out.mono hB),fun h=>absurd (HON.out.symm.trans h) (by decide)⟩
 ·have HON:=hid (show M.oneE x.m x.d=E from by unfold M.oneE;rw [hE,if_pos h0])
  have hne:(((E:Nat):Int) !=0)=true:=by rw [bne_iff_ne];omega
  have H0:=hid h0
  rw [hE]
  clear hE h0
  go_wp2_with fail
  go_ret
  exact ⟨by rw [HON.out];rfl,(HW3.out.mono hB),fun h=>absurd (HON.out.symm.trans h) H0.out⟩
end Go.Proofs.YtgbgngdakkiclaaGreatDoor

namespace Go.Proofs.YtgbgngdakkiclaaGreatDoor
open Go.RowKit Go.Lib
open Px (R2 tl)
def OneIs (k:IntKind) (x:Mb) (w:World) (e:Ending) (w':World):Prop:=
 ∃ v,e= .returned (.tuple #[v, .int k (M.oneE x.m x.d:Nat)])∧(M.oneE x.m x.d=0→Sp.OwnY w' w.heap.size v (M.oneL x.m x.d))∧(¬ M.oneE x.m x.d=0→v= .slice none 0 0)∧Below w.heap.size w w'
theorem MbIn.more {w:World} {B B':Nat} {x:Mb} (h:MbIn w B x) (hB:B≤B'):MbIn w B' x:=by
 obtain ⟨A,c,e,hr,hlo⟩:=h.data
 exact ⟨h.met,⟨A,c,e,hr.more hB,fun a ha=>Nat.lt_of_lt_of_le (hlo a ha) hB⟩,h.few⟩
set_option maxRecDepth 100000 in
set_option maxHeartbeats 2000000 in
theorem one_any (x:Mb) (w:World) (hx:MbIn w w.heap.size x) (hmg:Hd.MG w) (BE:Nat) (hBE:BE≤w.heap.size) (hev:Sp.EV BE w):
  Calls Tryz.prog 9 #[.agg x.cells] w (OneIs .u16 x w):=by
 have hb1:=(Below.refl w.heap.size w).alloc (Nat.le_refl _) (.cells x.cells 37)
 have hs1:(w.alloc (.cells x.cells 37)).heap.size=w.heap.size+1:=World.size_alloc _ _
 have hb2:=hb1.alloc (by rw [hs1];omega) (.cells #[.slice none 0 0, .int .i64 0, .int .i8 0] 60)
 have HX:=hid ((MX.new w x).below ((Below.refl (w.alloc (.cells x.cells 37)).heap.size (w.alloc (.cells x.cells 37))).alloc (Nat.le_refl _) (.cells #[.slice none 0 0, .int .i64 0, .int .i8 0] 60)) (by rw [hs1];omega))
 have HBf:=hid (Buf.new (w.alloc (.cells x.cells 37)))
 have HW:=hid hb2
 have HI:=hid ((hx.later (Nat.le_refl _) hb2).more (show w.heap.size≤(w.alloc (.cells x.cells 37)).heap.size by rw [hs1];omega))
 have HG:=hid (hmg.later hb2)
 have HE:=hid (hev.on (hb2.mono hBE))
 have hgB:1<(w.alloc (.cells x.cells 37)).heap.size:=by have:=hmg.lt;rw [hs1];omega
 have hs2:((w.alloc (.cells x.cells 37)).alloc (.cells #[.slice none 0 0, .int .i64 0, .int .i8 0] 60)).heap.size=w.heap.size+2:=by rw [World.size_alloc,hs1]
 rw [hs1] at HBf HI hgB
 have HS1:=hid hs1
 clear hx hmg hev hb1 hb2 hs1
 go_enter Tryz.func9,Tryz.ntmps9
 go_upto_region 2 with fail
 generalize World.alloc (World.alloc w _) _=W at*
 have HS2:=hid hs2
 go_wp2_with (refine wpList_load_row rfl 37 (.tmp 1) rfl w.heap.size (by rfl) 37 x.cells (0,0) _ HX.out Tryz.underlying37 rfl mem_size ?_)
 refine (archMember HBf.out (by rw [HS2.out];omega) x HI.out HG.out hgB BE (Nat.le_trans hBE (by rw [HS2.out];omega)) HE.out rfl (by decide)).mono ?_
 rintro e w3 ⟨rfl,hb3,hbf⟩
 rw [List.nil_append] at hbf
 have HF3:=hid hbf
 have HW3:=hid (HW.out.trans (hb3.mono (Nat.le_succ _)))
 obtain ⟨E,hE⟩: ∃ E,M.oneE x.m x.d=E:=⟨_,rfl⟩
 rw [hE] at HF3⊢
 have HEE:=hid hE
 clear hb3 hbf hE hs2
 by_cases h0:E=0
 ·subst h0
  have H3:=hid (HF3.out rfl)
  go_wp2_with fail
  refine (bufBytes H3.out).mono ?_
  rintro e w4 ⟨v,rfl,hown,n,rfl⟩
  have HO:=hid hown
  clear hown
  go_wp2_with fail
  go_ret2
  exact ⟨v,by rw [HEE.out];rfl,fun _=>HO.out.lower (Nat.le_succ _),fun h=>absurd HEE.out h,Px.below_drewN' HW3.out n⟩
 ·have hne:(((E:Nat):Int) !=0)=true:=by rw [bne_iff_ne];omega
  have H0:=hid h0
  clear h0
  go_wp2_with fail
  go_ret2
  exact ⟨_,by rw [HEE.out];rfl,fun h=>absurd (HEE.out.symm.trans h) H0.out,fun _=>rfl,HW3.out⟩
end Go.Proofs.YtgbgngdakkiclaaGreatDoor

namespace Go.Proofs.YtgbgngdakkiclaaGreatDoor
open Go.RowKit Go.Lib
open Px (R2 tl)
def mbCells (xs:List Mb):List Value:=xs.flatMap fun x=>x.cells.toList
theorem mbCells_app (a b:List Mb):mbCells (a++b)=mbCells a++mbCells b:=by simp [mbCells]
theorem mbCells_len (xs:List Mb):(mbCells xs).length=xs.length*18:=by
 induction xs with
 |nil=>rfl
 |cons x l ih=>unfold mbCells at ih⊢;rw [List.flatMap_cons,List.length_append,ih,List.length_cons,Array.length_toList,show x.cells.size=18 from rfl];omega
theorem mbCells_at: ∀ {xs:List Mb} {j:Nat} {x:Mb},xs[j]?=some x→ ∀ i v,x.cells.toList[i]?=some v→(mbCells xs)[j*18+i]?=some v
 | [],j,x,h,i,v,hv=>by simp at h
 |y::l,0,x,h,i,v,hv=>by
  simp at h
  subst h
  unfold mbCells
  rw [List.flatMap_cons,Nat.zero_mul,Nat.zero_add,List.getElem?_append_left (by have:=(List.getElem?_eq_some_iff.1 hv).1;exact this)]
  exact hv
 |y::l,j+1,x,h,i,v,hv=>by
  have ih:=mbCells_at (xs:=l) (j:=j) (x:=x) (by simpa using h) i v hv
  unfold mbCells at ih⊢
  rw [List.flatMap_cons,List.getElem?_append_right (by rw [Array.length_toList,show y.cells.size=18 from rfl];omega),Array.length_toList,show y.cells.size=18 from rfl,show (j+1)*18+i - 18=j*18+i by omega]
  exact ih
def RdM (w:World) (B:Nat) (A:Option Addr) (xs:List Mb):Prop:=
 0<xs.length→ ∃ b off,A=some ⟨b,off,none⟩∧b<B∧ ∀ j x,xs[j]?=some x→w.rangeAt b (off+j*18) x.cells.toList
theorem RdM.keep {w w':World} {B:Nat} {A:Option Addr} {xs:List Mb} (h:RdM w B A xs) (hk: ∀ p:Addr,p.block<B→w'.cell? p=w.cell? p):RdM w' B A xs:=fun hn=>by
 obtain ⟨b,off,e,hb,hc⟩:=h hn
 exact ⟨b,off,e,hb,fun j x hx i v hv=>(hk _ hb).trans (hc j x hx i v hv)⟩
namespace M
def cat (xs:List Mb):List Int:=xs.flatMap fun x=>oneL x.m x.d
def writeE:List Mb→Nat
 | []=>0
 |x::l=>if oneE x.m x.d≠0 then oneE x.m x.d else writeE l
def writeL (xs:List Mb):List Int:=cat xs++List.replicate 1024 0
theorem oneE_toE {m:Met} {d:List Int} (h:oneE m d=0):toE m=0:=by
 unfold oneE at h
 split at h
 ·rename_i h1;exact absurd h h1
 ·rename_i h1;exact Classical.not_not.1 h1
theorem oneL_le {x:Mb} (h:oneE x.m x.d=0) (hf:x.d.length≤1048576):(oneL x.m x.d).length≤3200000:=by
 have hE:=oneE_toE h
 rw [oneL_len hE,oneR_len]
 have h1:=recI_le x.m
 have h2:=padK_lt (recI x.m).length
 have h3:=padK_lt x.d.length
 split<;>omega
theorem cat_app (a b:List Mb):cat (a++b)=cat a++cat b:=by simp [cat]
theorem cat_one (x:Mb):cat [x]=oneL x.m x.d:=by simp [cat]
theorem cat_ok: ∀ {xs:List Mb},(∀ x∈xs,oneE x.m x.d=0∧x.d.length≤1048576)→(cat xs).length%512=0∧(cat xs).length≤xs.length*3200000
 | [],_=>⟨rfl,Nat.le_refl _⟩
 |x::l,h=>by
  have ih:=cat_ok (xs:=l) (fun y hy=>h y (List.mem_cons_of_mem _ hy))
  have hx:=h x List.mem_cons_self
  have h1:=oneL_le hx.1 hx.2
  have h2:=oneL_mod (oneE_toE hx.1) x.d
  unfold cat at ih⊢
  rw [List.flatMap_cons,List.length_append,List.length_cons]
  omega
theorem writeE_take {xs:List Mb} {k:Nat} (hk:k<xs.length) (h: ∀ x∈xs.take k,oneE x.m x.d=0) (hne: ¬ oneE xs[k].m xs[k].d=0):writeE xs=oneE xs[k].m xs[k].d:=by
 induction xs generalizing k with
 |nil=>cases hk
 |cons y l ih=>
  cases k with
  |zero=>
   show (if oneE y.m y.d≠0 then oneE y.m y.d else writeE l)=_
   have hne':oneE y.m y.d≠0:=hne
   rw [if_pos hne']
   rfl
  |succ k=>
   have hy:=h y (by simp)
   show (if oneE y.m y.d≠0 then oneE y.m y.d else writeE l)=_
   rw [if_neg (by simpa using hy)]
   exact ih (k:=k) (by simpa using hk) (fun x hx=>h x (by rw [List.take_succ_cons];exact List.mem_cons_of_mem _ hx)) hne
theorem writeE_all {xs:List Mb} (h: ∀ x∈xs,oneE x.m x.d=0):writeE xs=0:=by
 induction xs with
 |nil=>rfl
 |cons y l ih=>
  show (if oneE y.m y.d≠0 then oneE y.m y.d else writeE l)=_
  rw [if_neg (by simpa using h y List.mem_cons_self)]
  exact ih fun x hx=>h x (List.mem_cons_of_mem _ hx)
end M
def WriteIs (k:IntKind) (xs:List Mb) (w:World) (e:Ending) (w':World):Prop:=
 ∃ v,e= .returned (.tuple #[v, .int k (M.writeE xs:Nat)])∧(M.writeE xs=0→Sp.OwnY w' w.heap.size v (M.writeL xs))∧(¬ M.writeE xs=0→v= .slice none 0 0)∧Below w.heap.size w w'
theorem ok_succ {xs:List Mb} {k:Nat} (hk:k<xs.length) (h: ∀ x∈xs.take k,M.oneE x.m x.d=0) (h2:M.oneE xs[k].m xs[k].d=0): ∀ x∈xs.take (k+1),M.oneE x.m x.d=0:=by
 intro x hx
 rw [List.take_succ_eq_append_getElem hk] at hx
 rcases List.mem_append.1 hx with h1|h1
 ·exact h x h1
 ·rw [List.mem_singleton.1 h1];exact h2
theorem cat_succ {xs:List Mb} {k:Nat} (hk:k<xs.length):M.cat (xs.take (k+1))=M.cat (xs.take k)++M.oneL xs[k].m xs[k].d:=by
 rw [List.take_succ_eq_append_getElem hk,M.cat_app,M.cat_one]
end Go.Proofs.YtgbgngdakkiclaaGreatDoor

namespace Go.Proofs.YtgbgngdakkiclaaGreatDoor
open Go.RowKit Go.Lib
def DataIs (w:World) (e:Ending) (w':World):Prop:= ∃ v zs,e= .returned v∧Sp.OwnY w' w.heap.size v zs∧(∀ z∈zs,0≤z∧z≤255)∧zs.length≤4000∧Below w.heap.size w w'
set_option maxRecDepth 100000 in
set_option maxHeartbeats 1000000 in
theorem data_any (n a:Int) (w:World) (hn: -9223372036854775808≤n∧n≤9223372036854775807) (ha:0≤a∧a≤255):
  Calls Tryz.prog 17 #[.int .i64 n, .int .u8 a] w (DataIs w):=by
 go_enter Tryz.func17,Tryz.ntmps17
 go_wp2_with fail
 go_loopw [5,6] (fun v i wr=> ∃ k:Nat,∃ zs A1 c1,i= .int .i64 k∧k≤4000∧zs.length=k∧v= .slice A1 k c1∧Hid (Sp.OwnY wr w.heap.size (.slice A1 k c1) zs)∧(∀ z∈zs,0≤z∧z≤255)∧Hid (Below w.heap.size w wr)) (fun _ i _=>4000 - (intOf i).toNat)
 case atStart=>exact ⟨0, [],none,0,rfl,Nat.zero_le _,rfl,rfl,hid (Sp.OwnY.nil _ _),(fun z hz=>nomatch hz),hid (Below.refl _ _)⟩
 case round=>
  obtain ⟨k,zs,A1,c1,rfl,hk,hzl,rfl,HO,hz,HB⟩:=hrel
  have HZ:=hid hz
  have HL:=hid hzl
  clear hz hzl
  have hbs:=HB.out.size
  by_cases hlt:(k:Int)<n
  ·by_cases hl4:k<4000
   ·have h1:decide ((k:Int)<n)=true:=decide_eq_true hlt
    have h2:decide ((k:Int)<4000)=true:=decide_eq_true (by omega)
    go_wp2_with (refine Sp.wpList_appY1 rfl (.tmp 16) (.tmp 22) rfl w.heap.size _ zs (((k:Int)%256*7+a)%256) (by simp [Act.eval]) HO.out hbs (by omega) (by simp [Act.eval]) (by rw [HL.out];omega) ?_;intro v2 w2 ho2 hb2 hg2;refine Hid.out ?_)
    refine Lib.hid ?_
    obtain ⟨A2,c2,hv2,_,_⟩:=Sp.own_room ho2.out
    subst hv2
    have hlen:(zs++ [((k:Int)%256*7+a)%256]).length=k+1:=by rw [List.length_append,List.length_singleton,HL.out]
    have HL2:=hid hlen
    have ho3:=ho2.out
    rw [hlen] at ho3⊢
    have HO3:=hid ho3
    have HB3:=hid (HB.out.trans hb2.out)
    have HZ3:=hid (show ∀ z∈zs++ [((k:Int)%256*7+a)%256],0≤z∧z≤255 from fun z hz=>by
     rcases List.mem_append.1 hz with h|h
     ·exact HZ.out z h
     ·rw [List.mem_singleton.1 h];omega)
    clear ho2 hb2 hg2 ho3 hlen HO HB HL HZ
    go_wp2_with fail
    go_roundw
    case rel=>exact ⟨k+1,_,A2,c2,by go_num,by omega,HL2.out,rfl,HO3,HZ3.out,HB3⟩
    case measure=>simp [intOf];omega
   ·have h1:decide ((k:Int)<n)=true:=decide_eq_true hlt
    have h2:decide ((k:Int)<4000)=false:=decide_eq_false (by omega)
    go_wp2_with fail
    go_ret
    exact ⟨_,zs,rfl,HO.out,HZ.out,by rw [HL.out];exact hk,HB.out⟩
  ·have h1:decide ((k:Int)<n)=false:=decide_eq_false hlt
   go_wp2_with fail
   go_ret
   exact ⟨_,zs,rfl,HO.out,HZ.out,by rw [HL.out];exact hk,HB.out⟩
end Go.Proofs.YtgbgngdakkiclaaGreatDoor
