/-
  Texts of one chapter, merged.
-/
import Derived.Test.YtjpmpjbembhldaaGreatDoorMtFrom
import Derived.Test.YtjpmpjbembhldaaGreatDoorMtMathZ
import Derived.Test.YtjpmpjbembhldaaGreatDoorStepZ
import Derived.Test.YtjpmpjbembhldaaGreatDoorMtDelZ
import Derived.IntWalk
import Derived.Laws.Cover1
import Derived.Test.YtjpmpjbembhldaaGreatDoorMtTextZ
import Derived.Deep.CutRange
import Derived.Test.YtjpmpjbembhldaaGreatDoorKX
import Derived.Test.YtjpmpjbembhldaaGreatDoorKS
import Derived.Laws.StructEq
set_option linter.unusedVariables false
set_option linter.unusedSimpArgs false
namespace Go.Proofs.YtjpmpjbembhldaaGreatDoor
open Go.RowKit Go.Lib
open Px (R2 tl)
attribute [local go_sem ↓] add_plain
theorem ex_fit:Fit1 M.exM where
 kind:=by decide
 name:=by decide
 link:=by decide
 user:=by decide
 group:=by decide
 mode:=isI64_0
 uid:=isI64_le (k:=3000000) (by decide) (by decide)
 gid:=isI64_0
 sec:=isI64_0
 nan:=isI64_0
 major:=isI64_0
 minor:=isI64_0
 sz:=isI64_0
 real:=isI64_0
set_option maxRecDepth 100000 in
set_option maxHeartbeats 4000000 in
theorem known_any (B:Nat) (w:World) (hB:B≤w.heap.size) (ht:Sp.EV B w):Calls Tryz.prog 4 #[] w fun e w'=>e= .returned (.bool true)∧Below w.heap.size w w':=by
 have HT:=hid (to_any M.exM (.slice none 0 0) (.slice none 0 0) B w (min_plain ex_fit rfl rfl) hB ht)
 have HEV:=hid ht
 clear ht
 go_enter Tryz.func4,Tryz.ntmps4
 go_wp2_with fail
 refine HT.out.mono ?_
 rintro e w1 ⟨A,c,rfl,hr1,hc1,hb1⟩
 have HFI:=hid (fun (W:World) (hW:Below w1.heap.size w1 W)=>fin_to (w:=W) (m:=M.exM) (by intro r hr;cases hr) ((hr1.below hW).more hW.size))
 have HR1:=hid (show Px.RdR w1 w1.heap.size A [((⟨#[117,105,100]⟩,⟨#[51,48,48,48,48,48,48]⟩):R2)] from by rw [M.ex_head.2] at hr1;exact hr1)
 have HB1:=hid hb1
 have hl1:(M.toR M.exM).length=1:=by rw [M.ex_head.2];rfl
 rw [hl1,M.ex_toE]
 clear HT hr1 hc1 hb1
 have HF:=hid (fun (c:Nat) (W:World) (hW:Below w1.heap.size w1 W)=>from_any (M.toH M.exM) (.slice none 0 0) ((M.toR M.exM).map M.mk) [] [] [] A none none none c 0 0 0 B W (HFI.out W hW) (Nat.le_trans hB (Nat.le_trans HB1.out.size hW.size)) (HEV.out.on ((HB1.out.trans (hW.mono HB1.out.size)).mono hB)))
 unfold FromIs at HF
 rw [List.length_map,hl1,rcs_mk,(M.from_to M.ex_toE).1,(M.from_to M.ex_toE).2] at HF
 have hu:=M.ex_head.1
 clear hl1 HFI
 generalize M.toH M.exM=H at*
 go_upto_region 2 with (refine wpList_store_row rfl 24 (.tmp 1) (.tmp 9) rfl w1.heap.size (hcells H (.slice none 0 0)) (by simp [Act.eval]) (by simp [Act.eval]) 24 (hcells {} (.slice none 0 0)) (heap_alloc_new w1 _) hdr_size rfl (hcells_one _ rfl) ?_;rw [World.setRow_alloc_new])
 have hb2:=(Below.refl w1.heap.size w1).alloc (Nat.le_refl _) (.cells (hcells H (.slice none 0 0)) 24)
 have HH2:=hid (HB.new w1 H (.slice none 0 0))
 have hs2:=World.size_alloc w1 (.cells (hcells H (.slice none 0 0)) 24)
 have HF2:=hid (HF.out c _ hb2)
 have HR2:=hid ((HR1.out.below hb2).more hb2.size)
 have HB2:=hid (HB1.out.trans (hb2.mono HB1.out.size))
 clear HF HR1 HB1 hb2
 generalize World.alloc w1 _=w2 at*
 go_wp2_with (refine wpList_load_row rfl 24 (.tmp 1) rfl w1.heap.size (by rfl) 24 (hcells H (.slice none 0 0)) (0,0) _ HH2.out Tryz.underlying24 rfl hdr_size ?_)
 refine HF2.out.mono ?_
 rintro e w3 ⟨pv,ev,rfl,hmi,hb3⟩
 have HH3:=HH2.out.below hb3 (by omega)
 have hr3:=HR2.out.below hb3
 have hs3:=hb3.size
 have HB3:=hid (HB2.out.trans (hb3.mono HB2.out.size))
 obtain ⟨b,off,rfl,hbb,c0,_⟩:=hr3.at_ (k:=0) (by decide)
 have y3:=HH3.cell (i:=2) (v:= .int .i64 H.uid) rfl
 rw [hu] at y3
 simp only [Nat.zero_mul,Nat.add_zero,List.getElem_cons_zero] at c0
 have hbl:b<w3.heap.size:=by omega
 have hpv:pv.oneCell'=true:=by
  obtain ⟨A2,c2,e,_⟩:=hmi.parts
  rw [e];rfl
 have hev:ev.oneCell'=true:=by
  obtain ⟨A2,c2,e,_⟩:=hmi.extra
  rw [e];rfl
 have HP:=hid (And.intro hpv hev)
 clear HF2 HR2 HB2 HH2 hr3 HH3 hmi hpv hev
 go_upto_region 3 with (refine wpList_store_row rfl 45 (.tmp 4) (.tmp 16) rfl w3.heap.size (mcells M.exM pv ev) (by simp [Act.eval]) (by simp [Act.eval]) 45 (mcells {} (.slice none 0 0) (.slice none 0 0)) (heap_alloc_new w3 _) met_size rfl (mcells_one _ HP.out.1 HP.out.2) ?_;rw [World.setRow_alloc_new])
 have MB4:=MB.new w3 M.exM pv ev
 have x4:=MB4.cell (i:=4) (v:= .int .i64 3000000) rfl
 have x0:=MB4.cell (i:=0) (v:= .string ⟨#[97]⟩) rfl
 have HB4:=hid (HB3.out.alloc HB3.out.size (.cells (mcells M.exM pv ev) 45))
 have y3':=(World.cell?_alloc_lt w3 (.cells (mcells M.exM pv ev) 45) ⟨w1.heap.size,2,none⟩ (by show w1.heap.size<_;omega)).trans y3
 have c0':=(World.cell?_alloc_lt w3 (.cells (mcells M.exM pv ev) 45) ⟨b,off,none⟩ hbl).trans c0
 clear MB4 HB3 y3 c0
 generalize World.alloc w3 _=w4 at*
 go_wp2
 go_ret
 exact ⟨rfl,HB4.out⟩
end Go.Proofs.YtjpmpjbembhldaaGreatDoor

namespace Go.Proofs.YtjpmpjbembhldaaGreatDoor
open Go.RowKit Go.Lib
open Px (R2 tl)
attribute [local go_sem ↓] add_plain
def keyL:List ByteArray:= [M.kPath,M.kLink,M.kUser,M.kGroup,M.kUid,M.kGid,M.kSize,M.kTime,M.kMap,M.kReal]
def keyCells:Array Value:= #[.string M.kPath, .string M.kLink, .string M.kUser, .string M.kGroup, .string M.kUid, .string M.kGid, .string M.kSize, .string M.kTime, .string M.kMap, .string M.kReal]
theorem key_cell (w:World) (j:Nat) (hj:j<keyL.length):(w.alloc (.cells keyCells 9)).cell? ⟨w.heap.size,j,none⟩=some (.string keyL[j]):=by
 have h:=World.cell?_alloc_mark w keyCells 9 (0,0) j
 refine h.trans ?_
 have e:keyCells=(keyL.map Value.string).toArray:=rfl
 rw [e]
 simp [hj]
theorem keyL_keys:M.keys=keyL.map tl:=rfl
set_option maxRecDepth 100000 in
theorem keys_any (w:World):Calls Tryz.prog 18 #[] w fun e w'=>e= .returned (.slice (some ⟨w.heap.size,0,none⟩) 10 10)∧w'=w.alloc (.cells keyCells 9):=by
 go_enter Tryz.func18,Tryz.ntmps18
 go_wp2
 go_ret
 exact ⟨rfl,rfl⟩
set_option maxRecDepth 100000 in
set_option maxHeartbeats 1000000 in
theorem is_any (s:ByteArray) (w:World):Calls Tryz.prog 86 #[.string s] w fun e w'=>e= .returned (.bool (M.isKey (tl s)))∧Below w.heap.size w w':=by
 go_enter Tryz.func86,Tryz.ntmps86
 go_wp2_with (go_at_call 18;(with_reducible refine (keys_any _).mono ?_);rintro e w1 ⟨rfl,rfl⟩)
 have HB:=hid ((Below.refl w.heap.size w).alloc (Nat.le_refl _) (.cells keyCells 9))
 have HC:=hid (key_cell w)
 generalize World.alloc w _=W at*
 have hln:keyL.length=10:=rfl
 go_loopw [4] (fun iv wr=> ∃ k:Nat,iv= .int .i64 k∧k≤10∧Hid (∀ j (h:j<keyL.length),j<k→ ¬ tl keyL[j]=tl s)∧wr=W) (fun iv _=>10 - (intOf iv).toNat)
 case atStart=>exact ⟨0,rfl,by omega,hid (fun j _ h=>absurd h (by omega)),rfl⟩
 case round=>
  obtain ⟨k,rfl,hk,HN,rfl⟩:=hrel
  by_cases hlt:k<10
  ·have hkl:k<keyL.length:=by omega
   have hc:=HC.out k hkl
   have hq:=str_eq keyL[k] s
   obtain ⟨x,hx⟩: ∃ x,keyL[k]=x:=⟨_,rfl⟩
   rw [hx] at hc hq
   by_cases he:tl x=tl s
   ·rw [decide_eq_true he] at hq
    have HK:=hid (show M.isKey (tl s)=true by
     unfold M.isKey
     rw [decide_eq_true_eq,keyL_keys,←he,←hx]
     exact List.mem_map_of_mem (List.getElem_mem hkl))
    clear he hx hkl hln
    go_wp2
    go_ret
    exact ⟨by rw [HK.out];rfl,HB.out⟩
   ·rw [decide_eq_false he] at hq
    have HN2:=hid (show ∀ j (h:j<keyL.length),j<k+1→ ¬ tl keyL[j]=tl s from fun j h hj=>by
     rcases Nat.lt_succ_iff_lt_or_eq.1 hj with h1|h1
     ·exact HN.out j h h1
     ·subst h1;rw [hx];exact he)
    clear he hx HN hkl hln
    go_wp2
    go_roundw
    case rel=>exact ⟨k+1,by go_num,by omega,HN2,by first|rfl|trivial⟩
    case measure=>simp [intOf];omega
  ·obtain rfl:k=10:=by omega
   have HK:=hid (show M.isKey (tl s)=false by
    unfold M.isKey
    rw [decide_eq_false_iff_not,keyL_keys]
    intro hm
    obtain ⟨x,hx,he⟩:=List.mem_map.1 hm
    obtain ⟨j,hj,rfl⟩:=List.getElem_of_mem hx
    exact HN.out j hj (by omega) he)
   clear HN hlt
   go_wp2
   go_ret
   exact ⟨by rw [HK.out];rfl,HB.out⟩
end Go.Proofs.YtjpmpjbembhldaaGreatDoor
namespace Go.Proofs.YtjpmpjbembhldaaGreatDoor
open Go.RowKit Go.Lib
open Px (R2 tl)
attribute [local go_sem ↓] add_plain
def valL:List ByteArray:= [⟨#[]⟩,⟨#[49]⟩,⟨#[55,55]⟩,⟨#[120,47,121]⟩,⟨#[48,44,53,44,57,44,49]⟩,⟨#[54]⟩,⟨#[49,46,53]⟩,⟨#[45,51]⟩,⟨#[57,57,57,57,57,57,57,57,57,57,57,57,57,57,57,57,57,57,57,57]⟩,⟨#[52,54,49,49,54,56,54,48,49,56,52,50,55,51,56,55,57,48,53]⟩,⟨#[49,48,57,57,53,49,49,54,50,55,55,55,55]⟩,⟨#[48,44,48]⟩]
theorem val_cell (wr:World) (j:Nat) (hj:j<12): ∃ x:ByteArray,x.size≤100∧(wr.alloc (.cells #[.string ⟨#[]⟩, .string ⟨#[49]⟩, .string ⟨#[55,55]⟩, .string ⟨#[120,47,121]⟩, .string ⟨#[48,44,53,44,57,44,49]⟩, .string ⟨#[54]⟩, .string ⟨#[49,46,53]⟩, .string ⟨#[45,51]⟩, .string ⟨#[57,57,57,57,57,57,57,57,57,57,57,57,57,57,57,57,57,57,57,57]⟩, .string ⟨#[52,54,49,49,54,56,54,48,49,56,52,50,55,51,56,55,57,48,53]⟩, .string ⟨#[49,48,57,57,53,49,49,54,50,55,55,55,55]⟩, .string ⟨#[48,44,48]⟩] 9)).cell? ⟨wr.heap.size,j,none⟩=some (.string x):=by
 have h:=World.cell?_alloc_mark wr #[.string ⟨#[]⟩, .string ⟨#[49]⟩, .string ⟨#[55,55]⟩, .string ⟨#[120,47,121]⟩, .string ⟨#[48,44,53,44,57,44,49]⟩, .string ⟨#[54]⟩, .string ⟨#[49,46,53]⟩, .string ⟨#[45,51]⟩, .string ⟨#[57,57,57,57,57,57,57,57,57,57,57,57,57,57,57,57,57,57,57,57]⟩, .string ⟨#[52,54,49,49,54,56,54,48,49,56,52,50,55,51,56,55,57,48,53]⟩, .string ⟨#[49,48,57,57,53,49,49,54,50,55,55,55,55]⟩, .string ⟨#[48,44,48]⟩] 9 (0,0) j
 have hs: ∀ x∈valL,x.size≤100:=by decide
 have hjl:j<valL.length:=hj
 refine ⟨valL[j],hs _ (List.getElem_mem hjl),h.trans ?_⟩
 have e:(#[Value.string ⟨#[]⟩, .string ⟨#[49]⟩, .string ⟨#[55,55]⟩, .string ⟨#[120,47,121]⟩, .string ⟨#[48,44,53,44,57,44,49]⟩, .string ⟨#[54]⟩, .string ⟨#[49,46,53]⟩, .string ⟨#[45,51]⟩, .string ⟨#[57,57,57,57,57,57,57,57,57,57,57,57,57,57,57,57,57,57,57,57]⟩, .string ⟨#[52,54,49,49,54,56,54,48,49,56,52,50,55,51,56,55,57,48,53]⟩, .string ⟨#[49,48,57,57,53,49,49,54,50,55,55,55,55]⟩, .string ⟨#[48,44,48]⟩]:Array Value)=(valL.map Value.string).toArray:=rfl
 rw [e]
 simp [hjl]
theorem keyL_size: ∀ x∈keyL,x.size≤100:=by decide
def RecsIs (w:World) (e:Ending) (w':World):Prop:=
 ∃ A c rs,e= .returned (.slice A rs.length c)∧Px.RdR w' w'.heap.size A rs∧rs.length≤c∧rs.length≤12∧(∀ r∈rs,r.1.size≤100∧r.2.size≤100)∧Below w.heap.size w w'
theorem short_snoc {rs:List R2} {r:R2} (h: ∀ r∈rs,r.1.size≤100∧r.2.size≤100) (h1:r.1.size≤100) (h2:r.2.size≤100): ∀ x∈rs++ [r],x.1.size≤100∧x.2.size≤100:=fun x hx=>by
 rcases List.mem_append.1 hx with hx|hx
 ·exact h x hx
 ·rw [List.mem_singleton] at hx
  subst hx
  exact ⟨h1,h2⟩
set_option maxRecDepth 100000 in
set_option maxHeartbeats 8000000 in
theorem recs_any (A:Option Addr) (n c:Nat) (zs:List Int) (hn:n≤maxLen) (w:World) (h:Sp.Rd w w.heap.size A n zs):
  Calls Tryz.prog 8 #[.slice A n c] w (RecsIs w):=by
 unfold maxLen at hn
 have HR:=Lib.hid h
 clear h
 go_enter Tryz.func8,Tryz.ntmps8
 go_wp2_with (go_at_call 18;(with_reducible refine (keys_any _).mono ?_);rintro e w1 ⟨rfl,rfl⟩)
 have HB:=hid ((Below.refl w.heap.size w).alloc (Nat.le_refl _) (.cells keyCells 9))
 have HC:=hid (key_cell w)
 have HSZ:=hid (World.size_alloc w (.cells keyCells 9))
 generalize World.alloc w _=W at*
 go_loopw [3,5] (fun v i wr=> ∃ (q:Nat) (rs:List R2),i= .int .i64 ((2*q:Nat):Int)∧q≤6∧Hid (Px.OwnR wr W.heap.size v rs)∧rs.length≤2*q∧Hid (∀ r∈rs,r.1.size≤100∧r.2.size≤100)∧Hid (Below W.heap.size W wr)) (fun _ i _=>12 - (intOf i).toNat)
 case atStart=>exact ⟨0, [],rfl,by omega,hid (Px.OwnR.nil _ _),Nat.zero_le _,hid (fun r hr=>by cases hr),hid (Below.refl _ _)⟩
 case round=>
  obtain ⟨q,rs,rfl,hq,HO,hrq,HG,HW⟩:=hrel
  obtain ⟨k,hk⟩: ∃ k,k=2*q:=⟨_,rfl⟩
  rw [←hk]
  have hbs:=HW.out.size
  by_cases hlt:k+1<n
  ·by_cases hl12:k<12
   ·obtain ⟨b,off,rfl,hbb,hcell⟩:=HR.out.2.2 (by omega)
    have hlen:=HR.out.len
    have hk0l:k<zs.length:=by omega
    have hk1l:k+1<zs.length:=by omega
    have h0:=hcell k _ (List.getElem?_eq_getElem hk0l)
    have h1:=hcell (k+1) _ (List.getElem?_eq_getElem hk1l)
    have hz0:=HR.out.bd _ (List.getElem_mem hk0l)
    have hz1:=HR.out.bd _ (List.getElem_mem hk1l)
    obtain ⟨z0,hz0e⟩: ∃ z,zs[k]=z:=⟨_,rfl⟩
    obtain ⟨z1,hz1e⟩: ∃ z,zs[k+1]=z:=⟨_,rfl⟩
    rw [hz0e] at h0 hz0
    rw [hz1e] at h1 hz1
    have HD0:=Lib.hid (fun (V:World) (hV:Below W.heap.size W V)=>(HB.out.trans (hV.mono (by rw [HSZ.out];omega))).cell (p:=⟨b,off+k,none⟩) hbb|>.trans h0)
    have d0:=HD0.out _ HW.out
    have d1:=(HB.out.trans (HW.out.mono (by rw [HSZ.out];omega))).cell (p:=⟨b,off+(k+1),none⟩) hbb|>.trans h1
    have HZ0:=hid hz0
    obtain ⟨hz10,hz11⟩:=hz1
    have HK:=hid hk
    have hrl:rs.length≤1000:=by omega
    obtain ⟨x,hx,hcx⟩:=val_cell wr (z1%12).toNat (by omega)
    have HX:=hid hx
    have HCX:=hid hcx
    have hbl:b<wr.heap.size:=by have:=HSZ.out;omega
    clear hcell h0 h1 hz0e hz1e hlen hk0l hk1l hz0 hk hx
    go_upto_region 7 with fail
    have HW1:=hid (HW.out.alloc hbs (.cells #[.string ⟨#[]⟩, .string ⟨#[49]⟩, .string ⟨#[55,55]⟩, .string ⟨#[120,47,121]⟩, .string ⟨#[48,44,53,44,57,44,49]⟩, .string ⟨#[54]⟩, .string ⟨#[49,46,53]⟩, .string ⟨#[45,51]⟩, .string ⟨#[57,57,57,57,57,57,57,57,57,57,57,57,57,57,57,57,57,57,57,57]⟩, .string ⟨#[52,54,49,49,54,56,54,48,49,56,52,50,55,51,56,55,57,48,53]⟩, .string ⟨#[49,48,57,57,53,49,49,54,50,55,55,55,55]⟩, .string ⟨#[48,44,48]⟩] 9))
    have HO1:=hid (HO.out.alloc (.cells #[.string ⟨#[]⟩, .string ⟨#[49]⟩, .string ⟨#[55,55]⟩, .string ⟨#[120,47,121]⟩, .string ⟨#[48,44,53,44,57,44,49]⟩, .string ⟨#[54]⟩, .string ⟨#[49,46,53]⟩, .string ⟨#[45,51]⟩, .string ⟨#[57,57,57,57,57,57,57,57,57,57,57,57,57,57,57,57,57,57,57,57]⟩, .string ⟨#[52,54,49,49,54,56,54,48,49,56,52,50,55,51,56,55,57,48,53]⟩, .string ⟨#[49,48,57,57,53,49,49,54,50,55,55,55,55]⟩, .string ⟨#[48,44,48]⟩] 9))
    clear hcx HCX HO HW d0 d1
    generalize World.alloc wr _=V1 at*
    have d0:=HD0.out _ HW1.out
    have hz:=HZ0.out
    obtain ⟨hz00,hz01⟩:=hz
    have hbs1:=HW1.out.size
    have hyl:(z0%10).toNat<keyL.length:=by show _<10;omega
    obtain ⟨y,hy⟩: ∃ y,keyL[(z0%10).toNat]=y:=⟨_,rfl⟩
    have hY:=keyL_size _ (List.getElem_mem hyl)
    have hcy:=(HW1.out.cell (p:=⟨w.heap.size,(z0%10).toNat,none⟩) (by show w.heap.size<_;have:=HSZ.out;omega)).trans (HC.out _ hyl)
    rw [hy] at hY hcy
    have HY:=hid hY
    clear hyl hy hY
    go_upto_region 8 with (at_builtin;refine Px.wpList_appR rfl (.tmp 28) (.tmp 39) rfl W.heap.size u3 rs (y,x) rfl rfl rfl HO1.out hbs1 rfl (by omega) ?_)
    intro v4 w4 rs2 HRS hn4 o4 hb4 hg4
    have HW4:=hid (HW1.out.trans hb4)
    have HO4:=hid o4
    have HG4:=hid (show ∀ r∈rs2,r.1.size≤100∧r.2.size≤100 from by rw [HRS.out];exact short_snoc HG.out HY.out HX.out)
    clear hb4 hg4 o4 d0 hcy HO1 HW1 HG hbs1
    have d0:=HD0.out _ HW4.out
    have hbs4:=HW4.out.size
    by_cases h240:z0>240
    ·go_wp2_with (at_builtin;refine Px.wpList_appR rfl (.tmp 46) (.tmp 49) rfl W.heap.size v4 rs2 (⟨#[111,116,104,101,114]⟩,x) rfl rfl rfl HO4.out hbs4 rfl (by omega) ?_)
     intro v5 w5 rs3 HRS5 hn5 o5 hb5 hg5
     have HW5:=hid (HW4.out.trans hb5)
     have HO5:=hid o5
     have HG5:=hid (show ∀ r∈rs3,r.1.size≤100∧r.2.size≤100 from by rw [HRS5.out];exact short_snoc HG4.out (show (⟨#[111,116,104,101,114]⟩:ByteArray).size≤100 by decide) HX.out)
     clear hb5 hg5 o5 d0 HO4 HW4 HG4
     go_wp2
     go_roundw
     case rel=>exact ⟨q+1,rs3,by have:=HK.out;first|(congr 1;omega)|go_num,by have:=HK.out;omega,HO5,by have:=HK.out;omega,HG5,HW5⟩
     case measure=>simp [intOf];omega
    ·go_wp2_with fail
     go_roundw
     case rel=>exact ⟨q+1,rs2,by have:=HK.out;first|(congr 1;omega)|go_num,by have:=HK.out;omega,HO4,by have:=HK.out;omega,HG4,HW4⟩
     case measure=>simp [intOf];omega
   ·obtain ⟨A4,c4,rfl,hr4,hc4,hm4⟩:=HO.out.rd
    have HR4:=hid hr4
    have HK:=hid hk
    clear hr4 hk
    have hge:(12:Int)≤(k:Int):=by omega
    clear hl12
    go_wp2
    go_ret
    exact ⟨A4,c4,rs,rfl,HR4.out,hc4,by omega,HG.out,HB.out.trans (HW.out.mono HB.out.size)⟩
  ·obtain ⟨A4,c4,rfl,hr4,hc4,hm4⟩:=HO.out.rd
   have HR4:=hid hr4
   have HK:=hid hk
   have hk13:k≤12:=by omega
   clear hr4 hk
   have hge:(n:Int)≤(k:Int)+1:=by omega
   clear hlt
   go_wp2
   go_ret
   exact ⟨A4,c4,rs,rfl,HR4.out,hc4,by omega,HG.out,HB.out.trans (HW.out.mono HB.out.size)⟩
end Go.Proofs.YtjpmpjbembhldaaGreatDoor
namespace Go.Proofs.YtjpmpjbembhldaaGreatDoor
open Go.RowKit Go.Lib
open Px (R2 tl)
attribute [local go_sem ↓] add_plain
end Go.Proofs.YtjpmpjbembhldaaGreatDoor

namespace Go.Proofs.YtjpmpjbembhldaaGreatDoor
open Go.RowKit Go.Lib
open Px (R2 tl)
theorem cuts_eq (s:ByteArray) (k:Nat) (h:k<s.size):M.cutsAt (tl s) k=(((s[k].toNat:Int)==47)&&(decide ((k:Int)≥1)&&(decide ((k:Int)≤155)&&(decide ((s.size:Int) - k - 1≥1)&&decide ((s.size:Int) - k - 1≤100))))):=by
 have hlen:(tl s).length=s.size:=rfl
 unfold M.cutsAt
 rw [at_tl s k h,hlen]
 have e1:(some s[k]==some (47:UInt8))=((s[k].toNat:Int)==47):=by
  rw [Bool.eq_iff_iff,beq_iff_eq,beq_iff_eq,Option.some.injEq]
  constructor
  ·intro h;rw [h];rfl
  ·intro h;exact UInt8.toNat_inj.1 (by have:s[k].toNat=47:=by omega
                                       rw [this];rfl)
 have e2:decide (1≤k)=decide ((k:Int)≥1):=by rw [decide_eq_decide];omega
 have e3:decide (k≤155)=decide ((k:Int)≤155):=by rw [decide_eq_decide];omega
 have e4:decide (k+2≤s.size)=decide ((s.size:Int) - k - 1≥1):=by rw [decide_eq_decide];omega
 have e5:decide (s.size≤k+101)=decide ((s.size:Int) - k - 1≤100):=by rw [decide_eq_decide];omega
 rw [e1,e2,e3,e4,e5,Bool.and_assoc,Bool.and_assoc,Bool.and_assoc]
set_option maxRecDepth 100000 in
set_option maxHeartbeats 1000000 in
theorem refSplit_any (s:ByteArray) (hs:s.size≤1048576) (w:World):Calls Tryz.prog 126 #[.string s] w fun e w'=>e= .returned (splitV s)∧Below w.heap.size w w':=by
 by_cases h1:s.size≤100
 ·have d1:decide ((s.size:Int)≤100)=true:=by rw [decide_eq_true_eq];omega
  have HE:=hid (split_short h1)
  clear h1
  go_enter Tryz.func126,Tryz.ntmps126
  go_wp2
  go_ret3
  exact ⟨ret_val HE.out.symm,Below.refl _ _⟩
 ·have d1:decide ((s.size:Int)≤100)=false:=by rw [decide_eq_false_iff_not];omega
  have H100:=hid (show 100<s.size by omega)
  clear h1
  have hlen:(tl s).length=s.size:=rfl
  go_enter Tryz.func126,Tryz.ntmps126
  go_wp2
  go_loopw [5] (fun iv wr=> ∃ (k:Nat),iv= .int .i64 k∧k≤s.size∧Hid (∀ j,j<k→M.cutsAt (tl s) j=false)∧Hid (Below w.heap.size w wr)) (fun iv _=>s.size - (intOf iv).toNat)
  case atStart=>exact ⟨0,rfl,by omega,hid (fun j hj=>absurd hj (by omega)),hid (Below.refl _ _)⟩
  case round=>
   obtain ⟨k,rfl,hk,HN,HB⟩:=hrel
   by_cases hlt:k<s.size
   ·have hw1:IntKind.i64.wrap ((s.size:Int) - k)=(s.size:Int) - k:=IntWalk.i64_in _ (by omega)
    have hw2:IntKind.i64.wrap ((s.size:Int) - k - 1)=(s.size:Int) - k - 1:=IntWalk.i64_in _ (by omega)
    go_upto_region 6 with fail
    go_cut [43] from 16 to 43 (fun v wx=>v= .bool (M.cutsAt (tl s) k)∧wr=wx)
    case first=>
     have HE:=hid (cuts_eq s k hlt)
     go_wp2
     all_goals
      go_meet
      case rel=>
       refine ⟨?_,rfl⟩
       rw [HE.out]
       first
        |(simp [*];done)
        |(simp_all;done)
        |(simp_all;omega)
        |(simp [*];omega)
    obtain ⟨rfl,rfl⟩:=hcut
    cases hc:M.cutsAt (tl s) k with
    |true=>
     have HE:=hid (split_at H100.out (M.cutPlace_at hc (by rw [hlen];exact hlt) HN.out))
     have hnx:=IntWalk.i64_in ((k:Int)+1) (by omega)
     clear hc HN hw1 hw2
     go_wp2_with fail
     go_quiet (fail)
     go_wp2
     go_ret3
     exact ⟨ret_val HE.out.symm,Px.below_drewN' HB.out _⟩
    |false=>
     have HN2:=hid (show ∀ j,j<k+1→M.cutsAt (tl s) j=false from fun j hj=>by
      by_cases e:j=k
      ·subst e;exact hc
      ·exact HN.out j (by omega))
     clear hc HN hw1 hw2
     go_wp2_with fail
     go_roundw
     case rel=>exact ⟨k+1,by go_num,by omega,HN2,HB⟩
     case measure=>simp [intOf];omega
   ·obtain rfl:k=s.size:=by omega
    have HE:=hid (split_no H100.out (M.cutPlace_no (fun j=>by
     by_cases hj:j<s.size
     ·exact HN.out j hj
     ·unfold M.cutsAt
      have:(tl s)[j]?=none:=List.getElem?_eq_none (by rw [hlen];omega)
      rw [this];rfl)))
    have h100:=H100.out
    clear HN
    go_wp2_with fail
    go_quiet (fail)
    go_wp2
    go_ret3
    exact ⟨ret_val HE.out.symm,Px.below_drewN' HB.out _⟩
end Go.Proofs.YtjpmpjbembhldaaGreatDoor
namespace Go.Proofs.YtjpmpjbembhldaaGreatDoor
open Go.RowKit Go.Lib
open Px (R2 tl)
attribute [local go_sem ↓] add_plain
end Go.Proofs.YtjpmpjbembhldaaGreatDoor
namespace Go.Proofs.YtjpmpjbembhldaaGreatDoor
open Go.RowKit Go.Lib
open Px (R2 tl)
attribute [local go_sem ↓] add_plain
end Go.Proofs.YtjpmpjbembhldaaGreatDoor
namespace Go.Proofs.YtjpmpjbembhldaaGreatDoor
open Go.RowKit Go.Lib
open Px (R2 tl)
attribute [local go_sem ↓] add_plain
section
variable {P:Program} {ops:Array Oper} {Q:Exit→Act→World→Prop} {a:Act} {w:World} {rest:List Oper} {o:Oper}
theorem wl_call (d:Nat) {v:Value} {f:FuncId} {args:Array Value} {C:World→Prop} (hd:o.dst=some d) (hw:Region.wanted o (yielded ops a.tmps)=true) (hx:(execOp a.eval o).run P w= .ok (.enter f args) w)
  (hc:Calls P f args w (fun e w'=>e= .returned v∧C w')) (h: ∀ w',C w'→wpList P ops Q rest (a.put (some d) v) w'):wpList P ops Q (o::rest) a w:=by
 unfold wpList
 rw [if_pos hw]
 left
 unfold Oper.wp
 rw [hx]
 refine hc.mono ?_
 rintro e w' ⟨rfl,hC⟩
 show wpList P ops Q rest (a.put o.dst v) w'
 rw [hd];exact h w' hC
end
structure SIn (w:World) (m:M.Met) (pv ev:Value):Prop where
 parts: ∃ A c,pv= .slice A m.parts.length c∧Sp.RdP w w.heap.size A m.parts.length m.parts
 extra: ∃ A c,ev= .slice A m.extra.length c∧Px.RdR w w.heap.size A m.extra
 nparts:m.parts.length≤9223372036854775807
 nextra:m.extra.length≤9223372036854775807
theorem SIn.later {w w':World} {m:M.Met} {pv ev:Value} (h:SIn w m pv ev) (hb:Below w.heap.size w w'):SIn w' m pv ev:=by
 obtain ⟨⟨A,c,h1,h2⟩,⟨A',c',h3,h4⟩,h5,h6⟩:=h
 exact ⟨⟨A,c,h1,(h2.below hb).more hb.size⟩,⟨A',c',h3,(h4.below hb).more hb.size⟩,h5,h6⟩
namespace M
noncomputable def sameM (a b:Met):Bool:= @decide (a=b) (Classical.propDecidable _)
end M
end Go.Proofs.YtjpmpjbembhldaaGreatDoor
namespace Go.Proofs.YtjpmpjbembhldaaGreatDoor
open Go.RowKit Go.Lib
open Px (R2 tl)
attribute [local go_sem ↓] add_plain
end Go.Proofs.YtjpmpjbembhldaaGreatDoor

namespace Go.Proofs.YtjpmpjbembhldaaGreatDoor
open Go.RowKit Go.Lib
open Px (R2 tl)
attribute [local go_sem ↓] add_plain
theorem SIn.rows {w:World} {m:M.Met} {P E:Option Addr} {p e:Nat} (h:SIn w m (.slice P m.parts.length p) (.slice E m.extra.length e)):Sp.RdP w w.heap.size P m.parts.length m.parts∧Px.RdR w w.heap.size E m.extra:=by
 obtain ⟨A,c,e1,h1⟩:=h.parts
 obtain ⟨A2,c2,e2,h2⟩:=h.extra
 injection e1 with e1
 injection e2 with e2
 rw [e1,e2]
 exact ⟨h1,h2⟩
set_option maxRecDepth 100000 in
set_option maxHeartbeats 1000000 in
theorem eqlR (A:Option Addr) (c:Nat) (l:List (R2)) (A':Option Addr) (c':Nat) (hl:l.length≤9223372036854775807) (B:Nat) (w:World) (h:Px.RdR w B A l) (h':Px.RdR w B A' l):
  Calls Tryz.prog 49 #[.slice A l.length c, .slice A' l.length c'] w fun e w'=>e= .returned (.bool true)∧Below w.heap.size w w':=by
 have HR:=hid h
 have HS:=hid h'
 have hb1:((l.length:Int) !=(l.length:Int))=false:=by simp
 have hb2:(l.length !=l.length)=false:=by simp
 clear h h'
 go_enter Tryz.func49,Tryz.ntmps49
 go_wp2
 go_loopw [13] (fun i wr=> ∃ k d:Nat,i= .int .i64 k∧k≤l.length∧wr=w.drewN d) (fun i _=>l.length - (intOf i).toNat)
 case atStart=>exact ⟨0,0,rfl,Nat.zero_le _,rfl⟩
 case round=>
  obtain ⟨k,d,rfl,hk,rfl⟩:=hrel
  have hbd:=Px.below_drewN' (Below.refl w.heap.size w) d
  by_cases hlt:k<l.length
  ·skip
   obtain ⟨b,off,rfl,hbb,c1,c2⟩:=HR.out.at_ hlt
   obtain ⟨b',off',rfl,hbb',c1',c2'⟩:=HS.out.at_ hlt
   obtain ⟨r,hr⟩: ∃ r,l[k]=r:=⟨_,rfl⟩
   rw [hr] at c1 c2 c1' c2'
   clear hr
   obtain ⟨s,t⟩:=r
   dsimp only at c1 c2 c1' c2'
   go_wp2_with fail
   go_quiet (fail)
   go_wp2
   go_roundw
   case rel=>exact ⟨_,d+nq,(show Value.int .i64 _=Value.int .i64 ((_+1:Nat):Int) by go_num),by omega,rfl⟩
   case measure=>simp [intOf];omega
  ·obtain rfl:k=l.length:=by omega
   clear hlt
   go_wp2
   go_ret
   exact ⟨rfl,hbd⟩
set_option maxRecDepth 100000 in
set_option maxHeartbeats 1000000 in
theorem eqlP (A:Option Addr) (c:Nat) (l:List (Int × Int)) (A':Option Addr) (c':Nat) (hl:l.length≤9223372036854775807) (B:Nat) (w:World) (h:Sp.RdP w B A l.length l) (h':Sp.RdP w B A' l.length l):
  Calls Tryz.prog 48 #[.slice A l.length c, .slice A' l.length c'] w fun e w'=>e= .returned (.bool true)∧Below w.heap.size w w':=by
 have HR:=hid h
 have HS:=hid h'
 have hb1:((l.length:Int) !=(l.length:Int))=false:=by simp
 have hb2:(l.length !=l.length)=false:=by simp
 clear h h'
 go_enter Tryz.func48,Tryz.ntmps48
 go_wp2
 go_loopw [13] (fun i wr=> ∃ k d:Nat,i= .int .i64 k∧k≤l.length∧wr=w.drewN d) (fun i _=>l.length - (intOf i).toNat)
 case atStart=>exact ⟨0,0,rfl,Nat.zero_le _,rfl⟩
 case round=>
  obtain ⟨k,d,rfl,hk,rfl⟩:=hrel
  have hbd:=Px.below_drewN' (Below.refl w.heap.size w) d
  by_cases hlt:k<l.length
  ·skip
   obtain ⟨b,off,r,rfl,hbb,hr,c1,c2⟩:=HR.out.at_ hlt
   obtain ⟨b',off',q,rfl,hbb',hq,c1',c2'⟩:=HS.out.at_ hlt
   obtain rfl:r=q:=by rw [hr] at hq;injection hq
   clear hr hq
   obtain ⟨s,t⟩:=r
   dsimp only at c1 c2 c1' c2'
   go_wp2_with fail
   go_quiet (fail)
   go_wp2
   go_roundw
   case rel=>exact ⟨_,d+nq,(show Value.int .i64 _=Value.int .i64 ((_+1:Nat):Int) by go_num),by omega,rfl⟩
   case measure=>simp [intOf];omega
  ·obtain rfl:k=l.length:=by omega
   clear hlt
   go_wp2
   go_ret
   exact ⟨rfl,hbd⟩
set_option maxRecDepth 100000 in
set_option maxHeartbeats 1000000 in
theorem refR (A:Option Addr) (c:Nat) (l:List (R2)) (A':Option Addr) (c':Nat) (hl:l.length≤9223372036854775807) (B:Nat) (w:World) (h:Px.RdR w B A l) (h':Px.RdR w B A' l):
  Calls Tryz.prog 47 #[.slice A l.length c, .slice A' l.length c'] w fun e w'=>e= .returned (.bool true)∧Below w.heap.size w w':=by
 have HR:=hid h
 have HS:=hid h'
 have hb1:((l.length:Int) !=(l.length:Int))=false:=by simp
 have hb2:(l.length !=l.length)=false:=by simp
 clear h h'
 go_enter Tryz.func47,Tryz.ntmps47
 go_wp2
 go_loopw [5] (fun i wr=> ∃ k d:Nat,i= .int .i64 k∧k≤l.length∧wr=w.drewN d) (fun i _=>l.length - (intOf i).toNat)
 case atStart=>exact ⟨0,0,rfl,Nat.zero_le _,rfl⟩
 case round=>
  obtain ⟨k,d,rfl,hk,rfl⟩:=hrel
  have hbd:=Px.below_drewN' (Below.refl w.heap.size w) d
  by_cases hlt:k<l.length
  ·skip
   obtain ⟨b,off,rfl,hbb,c1,c2⟩:=HR.out.at_ hlt
   obtain ⟨b',off',rfl,hbb',c1',c2'⟩:=HS.out.at_ hlt
   obtain ⟨r,hr⟩: ∃ r,l[k]=r:=⟨_,rfl⟩
   rw [hr] at c1 c2 c1' c2'
   clear hr
   obtain ⟨s,t⟩:=r
   dsimp only at c1 c2 c1' c2'
   go_wp2_with fail
   go_quiet (fail)
   go_wp2
   go_roundw
   case rel=>exact ⟨_,d+nq,(show Value.int .i64 _=Value.int .i64 ((_+1:Nat):Int) by go_num),by omega,rfl⟩
   case measure=>simp [intOf];omega
  ·obtain rfl:k=l.length:=by omega
   clear hlt
   go_wp2
   go_ret
   exact ⟨rfl,hbd⟩
set_option maxRecDepth 100000 in
set_option maxHeartbeats 1000000 in
theorem refP (A:Option Addr) (c:Nat) (l:List (Int × Int)) (A':Option Addr) (c':Nat) (hl:l.length≤9223372036854775807) (B:Nat) (w:World) (h:Sp.RdP w B A l.length l) (h':Sp.RdP w B A' l.length l):
  Calls Tryz.prog 46 #[.slice A l.length c, .slice A' l.length c'] w fun e w'=>e= .returned (.bool true)∧Below w.heap.size w w':=by
 have HR:=hid h
 have HS:=hid h'
 have hb1:((l.length:Int) !=(l.length:Int))=false:=by simp
 have hb2:(l.length !=l.length)=false:=by simp
 clear h h'
 go_enter Tryz.func46,Tryz.ntmps46
 go_wp2
 go_loopw [5] (fun i wr=> ∃ k d:Nat,i= .int .i64 k∧k≤l.length∧wr=w.drewN d) (fun i _=>l.length - (intOf i).toNat)
 case atStart=>exact ⟨0,0,rfl,Nat.zero_le _,rfl⟩
 case round=>
  obtain ⟨k,d,rfl,hk,rfl⟩:=hrel
  have hbd:=Px.below_drewN' (Below.refl w.heap.size w) d
  by_cases hlt:k<l.length
  ·skip
   obtain ⟨b,off,r,rfl,hbb,hr,c1,c2⟩:=HR.out.at_ hlt
   obtain ⟨b',off',q,rfl,hbb',hq,c1',c2'⟩:=HS.out.at_ hlt
   obtain rfl:r=q:=by rw [hr] at hq;injection hq
   clear hr hq
   obtain ⟨s,t⟩:=r
   dsimp only at c1 c2 c1' c2'
   go_wp2_with fail
   go_quiet (fail)
   go_wp2
   go_roundw
   case rel=>exact ⟨_,d+nq,(show Value.int .i64 _=Value.int .i64 ((_+1:Nat):Int) by go_num),by omega,rfl⟩
   case measure=>simp [intOf];omega
  ·obtain rfl:k=l.length:=by omega
   clear hlt
   go_wp2
   go_ret
   exact ⟨rfl,hbd⟩
set_option maxRecDepth 100000 in
set_option maxHeartbeats 4000000 in
theorem selfM (m:M.Met) (Pa Pb Ea Eb:Option Addr) (pa pb ea eb:Nat) (w:World) (ha:SIn w m (.slice Pa m.parts.length pa) (.slice Ea m.extra.length ea)) (hb:SIn w m (.slice Pb m.parts.length pb) (.slice Eb m.extra.length eb)):
  Calls Tryz.prog 17 #[.agg (mcells m (.slice Pa m.parts.length pa) (.slice Ea m.extra.length ea)), .agg (mcells m (.slice Pb m.parts.length pb) (.slice Eb m.extra.length eb))] w fun e w'=>e= .returned (.bool true)∧Below w.heap.size w w':=by
 have hra:=ha.rows
 have hrb:=hb.rows
 have HP:=hid (fun W (hW:Below w.heap.size w W)=>eqlP Pa pa m.parts Pb pb ha.nparts w.heap.size W (hra.1.below hW) (hrb.1.below hW))
 have HE:=hid (fun W (hW:Below w.heap.size w W)=>eqlR Ea ea m.extra Eb eb ha.nextra w.heap.size W (hra.2.below hW) (hrb.2.below hW))
 clear hra hrb ha hb
 have A1:=MB.alloc (MB.new w m (.slice Pa m.parts.length pa) (.slice Ea m.extra.length ea)) (.cells (mcells m (.slice Pb m.parts.length pb) (.slice Eb m.extra.length eb)) 45)
 have B1:=MB.new (w.alloc (.cells (mcells m (.slice Pa m.parts.length pa) (.slice Ea m.extra.length ea)) 45)) m (.slice Pb m.parts.length pb) (.slice Eb m.extra.length eb)
 rw [World.size_alloc] at B1
 have HW:=hid (((Below.refl w.heap.size w).alloc (Nat.le_refl _) (.cells (mcells m (.slice Pa m.parts.length pa) (.slice Ea m.extra.length ea)) 45)).alloc (by simp) (.cells (mcells m (.slice Pb m.parts.length pb) (.slice Eb m.extra.length eb)) 45))
 go_enter Tryz.func17,Tryz.ntmps17
 go_upto_region 1 with fail
 generalize World.alloc (World.alloc w _) _=W at*
 have k0:=A1.cell (i:=0) (v:= .string m.name) rfl
 have l0:=B1.cell (i:=0) (v:= .string m.name) rfl
 have k1:=A1.cell (i:=1) (v:= .string m.link) rfl
 have l1:=B1.cell (i:=1) (v:= .string m.link) rfl
 have k2:=A1.cell (i:=2) (v:= .int .u8 m.kind) rfl
 have l2:=B1.cell (i:=2) (v:= .int .u8 m.kind) rfl
 have k3:=A1.cell (i:=3) (v:= .int .i64 m.mode) rfl
 have l3:=B1.cell (i:=3) (v:= .int .i64 m.mode) rfl
 have k4:=A1.cell (i:=4) (v:= .int .i64 m.uid) rfl
 have l4:=B1.cell (i:=4) (v:= .int .i64 m.uid) rfl
 have k5:=A1.cell (i:=5) (v:= .int .i64 m.gid) rfl
 have l5:=B1.cell (i:=5) (v:= .int .i64 m.gid) rfl
 have k6:=A1.cell (i:=6) (v:= .string m.user) rfl
 have l6:=B1.cell (i:=6) (v:= .string m.user) rfl
 have k7:=A1.cell (i:=7) (v:= .string m.group) rfl
 have l7:=B1.cell (i:=7) (v:= .string m.group) rfl
 have k8:=A1.cell (i:=8) (v:= .int .i64 m.sec) rfl
 have l8:=B1.cell (i:=8) (v:= .int .i64 m.sec) rfl
 have k9:=A1.cell (i:=9) (v:= .int .i64 m.nan) rfl
 have l9:=B1.cell (i:=9) (v:= .int .i64 m.nan) rfl
 have k10:=A1.cell (i:=10) (v:= .int .i64 m.major) rfl
 have l10:=B1.cell (i:=10) (v:= .int .i64 m.major) rfl
 have k11:=A1.cell (i:=11) (v:= .int .i64 m.minor) rfl
 have l11:=B1.cell (i:=11) (v:= .int .i64 m.minor) rfl
 have k12:=A1.cell (i:=12) (v:= .int .i64 m.size) rfl
 have l12:=B1.cell (i:=12) (v:= .int .i64 m.size) rfl
 have k13:=A1.cell (i:=13) (v:= .int .i64 m.real) rfl
 have l13:=B1.cell (i:=13) (v:= .int .i64 m.real) rfl
 have k14:=A1.cell (i:=14) (v:= .bool m.holes) rfl
 have l14:=B1.cell (i:=14) (v:= .bool m.holes) rfl
 have k15:=A1.cell (i:=15) (v:= .slice Pa m.parts.length pa) rfl
 have l15:=B1.cell (i:=15) (v:= .slice Pb m.parts.length pb) rfl
 have k16:=A1.cell (i:=16) (v:= .slice Ea m.extra.length ea) rfl
 have l16:=B1.cell (i:=16) (v:= .slice Eb m.extra.length eb) rfl
 have A1:=hid A1
 have B1:=hid B1
 go_wp2_with fail
 refine (HP.out _ HW.out).mono ?_
 rintro e w5 ⟨rfl,hb5⟩
 have HW5:=hid (HW.out.trans (hb5.mono HW.out.size))
 have z0:=(A1.out.below hb5 A1.out.lt).cell (i:=16) (v:= .slice Ea m.extra.length ea) rfl
 have z1:=(B1.out.below hb5 B1.out.lt).cell (i:=16) (v:= .slice Eb m.extra.length eb) rfl
 clear hb5
 go_wp2_with fail
 refine (HE.out _ HW5.out).mono ?_
 rintro e w6 ⟨rfl,hb6⟩
 have HW6:=hid (HW5.out.trans (hb6.mono HW5.out.size))
 clear hb6
 go_wp2_with fail
 go_ret
 exact ⟨rfl,HW6.out⟩
set_option maxRecDepth 100000 in
set_option maxHeartbeats 4000000 in
theorem refSelfM (m:M.Met) (Pa Pb Ea Eb:Option Addr) (pa pb ea eb:Nat) (w:World) (ha:SIn w m (.slice Pa m.parts.length pa) (.slice Ea m.extra.length ea)) (hb:SIn w m (.slice Pb m.parts.length pb) (.slice Eb m.extra.length eb)):
  Calls Tryz.prog 16 #[.agg (mcells m (.slice Pa m.parts.length pa) (.slice Ea m.extra.length ea)), .agg (mcells m (.slice Pb m.parts.length pb) (.slice Eb m.extra.length eb))] w fun e w'=>e= .returned (.bool true)∧Below w.heap.size w w':=by
 have hra:=ha.rows
 have hrb:=hb.rows
 have HP:=hid (fun W (hW:Below w.heap.size w W)=>refP Pa pa m.parts Pb pb ha.nparts w.heap.size W (hra.1.below hW) (hrb.1.below hW))
 have HE:=hid (fun W (hW:Below w.heap.size w W)=>refR Ea ea m.extra Eb eb ha.nextra w.heap.size W (hra.2.below hW) (hrb.2.below hW))
 clear hra hrb ha hb
 have A1:=MB.alloc (MB.new w m (.slice Pa m.parts.length pa) (.slice Ea m.extra.length ea)) (.cells (mcells m (.slice Pb m.parts.length pb) (.slice Eb m.extra.length eb)) 45)
 have B1:=MB.new (w.alloc (.cells (mcells m (.slice Pa m.parts.length pa) (.slice Ea m.extra.length ea)) 45)) m (.slice Pb m.parts.length pb) (.slice Eb m.extra.length eb)
 rw [World.size_alloc] at B1
 have HW:=hid (((Below.refl w.heap.size w).alloc (Nat.le_refl _) (.cells (mcells m (.slice Pa m.parts.length pa) (.slice Ea m.extra.length ea)) 45)).alloc (by simp) (.cells (mcells m (.slice Pb m.parts.length pb) (.slice Eb m.extra.length eb)) 45))
 go_enter Tryz.func16,Tryz.ntmps16
 go_upto_region 1 with fail
 generalize World.alloc (World.alloc w _) _=W at*
 have k0:=A1.cell (i:=0) (v:= .string m.name) rfl
 have l0:=B1.cell (i:=0) (v:= .string m.name) rfl
 have k1:=A1.cell (i:=1) (v:= .string m.link) rfl
 have l1:=B1.cell (i:=1) (v:= .string m.link) rfl
 have k2:=A1.cell (i:=2) (v:= .int .u8 m.kind) rfl
 have l2:=B1.cell (i:=2) (v:= .int .u8 m.kind) rfl
 have k3:=A1.cell (i:=3) (v:= .int .i64 m.mode) rfl
 have l3:=B1.cell (i:=3) (v:= .int .i64 m.mode) rfl
 have k4:=A1.cell (i:=4) (v:= .int .i64 m.uid) rfl
 have l4:=B1.cell (i:=4) (v:= .int .i64 m.uid) rfl
 have k5:=A1.cell (i:=5) (v:= .int .i64 m.gid) rfl
 have l5:=B1.cell (i:=5) (v:= .int .i64 m.gid) rfl
 have k6:=A1.cell (i:=6) (v:= .string m.user) rfl
 have l6:=B1.cell (i:=6) (v:= .string m.user) rfl
 have k7:=A1.cell (i:=7) (v:= .string m.group) rfl
 have l7:=B1.cell (i:=7) (v:= .string m.group) rfl
 have k8:=A1.cell (i:=8) (v:= .int .i64 m.sec) rfl
 have l8:=B1.cell (i:=8) (v:= .int .i64 m.sec) rfl
 have k9:=A1.cell (i:=9) (v:= .int .i64 m.nan) rfl
 have l9:=B1.cell (i:=9) (v:= .int .i64 m.nan) rfl
 have k10:=A1.cell (i:=10) (v:= .int .i64 m.major) rfl
 have l10:=B1.cell (i:=10) (v:= .int .i64 m.major) rfl
 have k11:=A1.cell (i:=11) (v:= .int .i64 m.minor) rfl
 have l11:=B1.cell (i:=11) (v:= .int .i64 m.minor) rfl
 have k12:=A1.cell (i:=12) (v:= .int .i64 m.size) rfl
 have l12:=B1.cell (i:=12) (v:= .int .i64 m.size) rfl
 have k13:=A1.cell (i:=13) (v:= .int .i64 m.real) rfl
 have l13:=B1.cell (i:=13) (v:= .int .i64 m.real) rfl
 have k14:=A1.cell (i:=14) (v:= .bool m.holes) rfl
 have l14:=B1.cell (i:=14) (v:= .bool m.holes) rfl
 have k15:=A1.cell (i:=15) (v:= .slice Pa m.parts.length pa) rfl
 have l15:=B1.cell (i:=15) (v:= .slice Pb m.parts.length pb) rfl
 have k16:=A1.cell (i:=16) (v:= .slice Ea m.extra.length ea) rfl
 have l16:=B1.cell (i:=16) (v:= .slice Eb m.extra.length eb) rfl
 have A1:=hid A1
 have B1:=hid B1
 go_wp2_with fail
 refine (HP.out _ HW.out).mono ?_
 rintro e w5 ⟨rfl,hb5⟩
 have HW5:=hid (HW.out.trans (hb5.mono HW.out.size))
 have z0:=(A1.out.below hb5 A1.out.lt).cell (i:=16) (v:= .slice Ea m.extra.length ea) rfl
 have z1:=(B1.out.below hb5 B1.out.lt).cell (i:=16) (v:= .slice Eb m.extra.length eb) rfl
 clear hb5
 go_wp2_with fail
 refine (HE.out _ HW5.out).mono ?_
 rintro e w6 ⟨rfl,hb6⟩
 have HW6:=hid (HW5.out.trans (hb6.mono HW5.out.size))
 clear hb6
 go_wp2_with fail
 go_ret
 exact ⟨rfl,HW6.out⟩
end Go.Proofs.YtjpmpjbembhldaaGreatDoor
