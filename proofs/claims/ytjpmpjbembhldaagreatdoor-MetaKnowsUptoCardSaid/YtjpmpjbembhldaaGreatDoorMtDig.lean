import Derived.Test.YtjpmpjbembhldaaGreatDoorStepZ
import Derived.Test.YtjpmpjbembhldaaGreatDoorMtDelRZ
import Derived.Test.YtjpmpjbembhldaaGreatDoorMtTold
import Derived.Test.YtjpmpjbembhldaaGreatDoorKX
set_option linter.unusedVariables false
set_option linter.unusedSimpArgs false
namespace Go.Proofs.YtjpmpjbembhldaaGreatDoor
open Go.RowKit Go.Lib
open Px (R2 tl)
attribute [local go_sem ↓] add_plain
theorem find_small: ∀ {l:List R2} (k:List UInt8) (h: ∀ r∈l,r.2.size≤1048576),((Px.M.find (Px.rcs l) k).getD []).length≤1048576
 | [],k,h=>by simp [Px.rcs,Px.M.find_nil]
 |r::l,k,h=>by
  have ih:=find_small (l:=l) k (fun x hx=>h x (List.mem_cons_of_mem _ hx))
  have h0:=h r List.mem_cons_self
  have e:Px.rcs (r::l)=Px.rc r::Px.rcs l:=rfl
  rw [e,Px.M.find_cons]
  cases hf:Px.M.find (Px.rcs l) k with
  |none=>
   by_cases hk:(Px.rc r).1=k
   ·rw [if_pos hk]
    have:(tl r.2).length≤1048576:=by simpa [tl,Px.tl] using h0
    exact this
   ·rw [if_neg hk]
    simp
  |some v=>rw [hf] at ih;exact ih
theorem parse_len {s:List UInt8} {l:List (Int × Int)} (h:Sp.M.parse s=some l):l.length≤1048576:=by
 unfold Sp.M.parse at h
 split at h
 ·cases h;simp
 ·cases hn:Sp.M.nums (Sp.M.cuts s) with
  |none=>rw [hn] at h;cases h
  |some ns=>
   rw [hn,Sp.M.parseN_some] at h
   split at h
   ·cases h
   ·cases h
    rw [Sp.M.pairs_len]
    omega
theorem fg_below {g:Nat} {w w1 w2:World} (h:Fg g w w1) (hb:Below w.heap.size w1 w2):Fg g w w2:=⟨hb.os.trans h.os,hb.tape.trans h.tape,hb.output.trans h.output,Nat.le_trans h.size hb.size,fun k hk hn=>(hb.block k hk).trans (h.block k hk hn)⟩
def DigIs (o:Option M.Met) (g:Nat) (ev:Value) (w:World) (e:Ending) (w':World):Prop:=
 e= .returned (.bool o.isSome)∧Fg g w w'∧ ∀ m',o=some m'→ ∃ pv',Hid (MB w' g m' pv' ev)∧Hid (Sp.OwnP w' w.heap.size pv' m'.parts)
set_option maxRecDepth 100000 in
set_option maxHeartbeats 4000000 in
theorem dig_any (g:Nat) (m:M.Met) (ev hp:Value) (h:M.Hdr) (l:List R2) (more:List (Int × Int)) (A Am:Option Addr) (c cm:Nat) (w:World) (B:Nat) (hB:B≤w.heap.size) (ht:Sp.EV B w)
  (hm:MB w g m (.slice none 0 0) ev) (hmp:m.parts= []) (hgB:B≤g) (hr:Px.RdR w w.heap.size A l) (hl:l.length≤1048576) (hfit: ∀ r∈l,r.2.size≤1048576)
  (hh: ∃ A c,hp= .slice A h.parts.length c∧Sp.RdP w w.heap.size A h.parts.length h.parts) (hmo:Sp.RdP w w.heap.size Am more.length more) (hn:h.parts.length≤500000∧more.length≤500000):
  Calls Tryz.prog 30 #[.pointer (some ⟨g,0,none⟩), .agg (hcells h hp), .slice A l.length c, .slice Am more.length cm] w (DigIs (M.dig m h (Px.rcs l) more) g ev w):=by
 obtain ⟨Ah,ch,rfl,hrh⟩:=hh
 have hgl:g<w.heap.size:=hm.lt
 have H1:=hid (HB.new w h (.slice Ah h.parts.length ch))
 have hb1:Below w.heap.size w (w.alloc (.cells (hcells h (.slice Ah h.parts.length ch)) 24)):=(Below.refl _ w).alloc (Nat.le_refl _) _
 have HW:=hid hb1
 have HM:=hid (hm.alloc (.cells (hcells h (.slice Ah h.parts.length ch)) 24))
 have hsz:=World.size_alloc w (.cells (hcells h (.slice Ah h.parts.length ch)) 24)
 have HR:=hid (fun V (hV:Below w.heap.size w V)=>(hr.below hV).more hV.size)
 have HRH:=hid (fun V (hV:Below w.heap.size w V)=>(hrh.below hV).more hV.size)
 have HRM:=hid (fun V (hV:Below w.heap.size w V)=>(hmo.below hV).more hV.size)
 have HT:=hid (fun V (hV:Below w.heap.size w V)=>(ht.up hB).on hV)
 clear hm hb1 hr hrh hmo ht
 go_enter Tryz.func30,Tryz.ntmps30
 go_upto_region 1 with fail
 generalize World.alloc w _=W at*
 have HFD:=hid (fun (V:World) (hV:Below w.heap.size w V) (k:ByteArray)=>(callsIn_wide (n:=5)).1 (Px.find_in A c l k hl V (HR.out V hV)))
 clear HR
 go_wp2_with fail
 refine (HFD.out W HW.out ⟨#[71,78,85,46,115,112,97,114,115,101,46,109,97,112]⟩).mono ?_
 rintro e w1 ⟨t,b1,rfl,ht1,hb1,hw1⟩
 have HW1:=hid (HW.out.trans (hw1.mono HW.out.size))
 have HH1:=hid (H1.out.below hw1 (by rw [hsz];omega))
 have HM1:=hid (HM.out.below hw1 (by rw [hsz];omega))
 have hsz1:w.heap.size+1≤w1.heap.size:=by rw [←hsz];exact hw1.size
 clear hw1 HW H1 HM hsz
 have T1:=hid ht1
 have E1:=hid hb1
 clear ht1 hb1
 go_wp2_with fail
 refine (HFD.out w1 HW1.out ⟨#[71,78,85,46,115,112,97,114,115,101,46,115,105,122,101]⟩).mono ?_
 rintro e w2 ⟨s,b2,rfl,ht1,hb1,hw1⟩
 have HW2:=hid (HW1.out.trans (hw1.mono HW1.out.size))
 have HH2:=hid (HH1.out.below hw1 (by omega))
 have HM2:=hid (HM1.out.below hw1 (by omega))
 have hsz2:w.heap.size+1≤w2.heap.size:=Nat.le_trans hsz1 hw1.size
 clear hw1 HW1 HH1 HM1 hsz1 HFD
 have T2:=hid ht1
 have E2:=hid hb1
 clear ht1 hb1
 have k2:=HM2.out.cell (i:=2) (v:= .int .u8 m.kind) rfl
 by_cases hk:m.kind=48
 ·have hdig:M.dig m h (Px.rcs l) more=(match Px.M.find (Px.rcs l) (tl M.kMap),Px.M.find (Px.rcs l) (tl M.kReal) with
   |none,none=>if h.kind=83 then some { m with holes:=true,parts:=M.some_ (h.parts++more),real:=h.real } else some m
   |some t,some s=>
    match Sp.M.parse t,M.dec s 1099511627776 with
    |some l,some n=>some { m with holes:=true,parts:=M.some_ l,real:=n }
    |_,_=>none
   |_,_=>none):=by unfold M.dig;rw [if_pos hk];rfl
  have T1':=T1.out
  have T2':=T2.out
  have E1':=E1.out
  have E2':=E2.out
  clear T1 T2 E1 E2
  change tl t=(Px.M.find (Px.rcs l) (tl M.kMap)).getD [] at T1'
  change b1=(Px.M.find (Px.rcs l) (tl M.kMap)).isSome at E1'
  change tl s=(Px.M.find (Px.rcs l) (tl M.kReal)).getD [] at T2'
  change b2=(Px.M.find (Px.rcs l) (tl M.kReal)).isSome at E2'
  have ht1:t.size≤1048576:=by
   have:=find_small (tl M.kMap) hfit
   rw [←T1'] at this
   simpa [tl,Px.tl] using this
  have ht2:s.size≤1048576:=by
   have:=find_small (tl M.kReal) hfit
   rw [←T2'] at this
   simpa [tl,Px.tl] using this
  generalize Px.M.find (Px.rcs l) (tl M.kMap)=o1 at*
  generalize Px.M.find (Px.rcs l) (tl M.kReal)=o2 at*
  cases o1 with
  |none=>
   obtain rfl:b1=false:=E1'
   cases o2 with
   |none=>
    obtain rfl:b2=false:=E2'
    have k6:=HH2.out.cell (i:=6) (v:= .int .u8 h.kind) rfl
    clear HT T1' T2'
    by_cases h83:h.kind=83
    ·have HD:=hid (show M.dig m h (Px.rcs l) more=some { m with holes:=true,parts:=M.some_ (h.parts++more),real:=h.real } from hdig.trans (if_pos h83))
     have hbig:w.heap.size<w2.heap.size:=by omega
     have F14:=hid (fun (V:World) (hV:Fg g w2 V)=>(HH2.out.of_block (hV.block _ hbig (by omega))).cell (i:=14) (v:= .slice Ah h.parts.length ch) rfl)
     have F16:=hid (fun (V:World) (hV:Fg g w2 V)=>(HH2.out.of_block (hV.block _ hbig (by omega))).cell (i:=16) (v:= .int .i64 h.real) rfl)
     have HA1:=hid (HRH.out w2 HW2.out)
     have HA2:=hid (HRM.out w2 HW2.out)
     clear hdig HRH HRM HH2
     go_upto_region 13 with fail
     clear k6 k2
     refine wp_region_held_drew (S:=fun V=>Fg g w2 V) (by kernel_rfl) ((Fg.refl g w2).drew) (fun hS=> ?_)
     refine tkH 0 hS ?_
     refine tkH 1 hS ?_
     refine tkH 2 hS ?_
     refine tfH 3 hS F14.out ?_
     refine tkH 4 hS ?_
     refine tkH 7 hS ?_
     refine tfH 8 hS F16.out ?_
     refine loneH (i:=5) 75 rfl rfl (by kernel_rfl) (by rfl) (fun K hK=> ?_)
     go_simp
     have hbx:(w2.alloc (.cells #[.slice Ah h.parts.length ch, .slice Am more.length cm] 22)).drew.heap[w2.heap.size]?=some (.cells #[.slice Ah h.parts.length ch, .slice Am more.length cm] 22 (0,0)):=heap_alloc_new w2 _
     have hB5:Below w2.heap.size w2 (w2.alloc (.cells #[.slice Ah h.parts.length ch, .slice Am more.length cm] 22)).drew:=((Below.refl _ w2).alloc (Nat.le_refl _) _).drew
     clear hS
     refine hK.out _ _ (Fg.of_below hB5) (fun hS=> ?_)
     clear hK K
     generalize World.drew (World.alloc w2 _)=V5 at*
     try simp only [NM]
     refine loneH (i:=6) 76 rfl rfl (by kernel_rfl) (by rfl) (fun K hK=> ?_)
     go_simp
     refine (concat_any w2.heap.size _ Ah Am _ _ _ _ h.parts more (by omega) (by omega) V5 hbx ((HA1.out.below hB5).more hB5.size) ((HA2.out.below hB5).more hB5.size)).mono ?_
     rintro e w6 ⟨v6,rfl,ho6,hb6⟩
     obtain ⟨A5,c5,rfl,_,_⟩:=ho6.rd
     rw [List.length_append] at ho6
     have hM6:=(HM2.out.below hB5 (by omega)).below hb6 (by have:=hB5.size;omega)
     have HO6:=hid (ho6.lower (b':=w.heap.size) (by have:=hB5.size;omega))
     have hS6:Fg g w2 w6:=fg_below hS (hb6.mono hS.size)
     clear hS ho6 hb6 hbx hB5 HA1 HA2
     refine hK.out _ _ hS6 (fun hS=> ?_)
     clear hK K
     try simp only [NM]
     refine tkH 9 hS ?_
     refine tkH 10 hS ?_
     have k15:=hM6.cell (i:=15) (v:= .slice none 0 0) rfl
     have f15:=hM6.frozen 15
     have J1:=hM6.set 15 (Value.slice A5 (h.parts.length+more.length) c5) (m':= { m with parts:=h.parts++more }) (pv':=(Value.slice A5 (h.parts.length+more.length) c5)) (ev':=ev) rfl
     have HO7:=hid (HO6.out.set (p:=⟨g,15,none⟩) hgl (Value.slice A5 (h.parts.length+more.length) c5))
     refine loneN (i:=11) rfl rfl (by kernel_rfl) (by rfl) (fun K hK=> ?_)
     go_simp
     refine hK.out _ _ (hS6.trans (Fg.set w6 g 15 _)) (fun hS=> ?_)
     clear hK K k15 f15 HO6 hS6 hM6
     generalize World.setCell w6 _ _=w7 at*
     try simp only [NM]
     refine tkH 12 hS ?_
     refine tkH 13 hS ?_
     have k13:=J1.cell (i:=13) (v:= .int .i64 m.real) rfl
     have f13:=J1.frozen 13
     have I5:=hid (J1.set 13 (.int .i64 h.real) (m':= { m with parts:=h.parts++more,real:=h.real }) (pv':=(Value.slice A5 (h.parts.length+more.length) c5)) (ev':=ev) rfl)
     have HO5:=hid (HO7.out.set (p:=⟨g,13,none⟩) hgl (.int .i64 h.real))
     have HG5:=hid ((Fg.of_below HW2.out).trans (hS.trans (Fg.set w7 g 13 (.int .i64 h.real))))
     refine loneN (i:=14) rfl rfl (by kernel_rfl) (by rfl) (fun K hK=> ?_)
     go_simp
     refine hK.out _ _ (hS.trans (Fg.set w7 g 13 _)) (fun hS=> ?_)
     clear hK K k13 f13 J1 HO7 hS
     generalize World.setCell w7 _ _=W5 at*
     try simp only [NM]
     refine wpAnyH_done (by kernel_rfl) ?_ _
     have HL5:=hid (show (h.parts++more).length≤1048576 by rw [List.length_append];omega)
     clear HM2 HW2 F14 F16
     go_upto_region 14 with fail
     have f14:=I5.out.frozen 14
     have k14:=I5.out.cell (i:=14) (v:= .bool m.holes) rfl
     have HE:=hid (deleteP_any (Value.slice A5 (h.parts.length+more.length) c5) (h.parts++more) w.heap.size HL5.out)
     have J1:=hid (I5.out.set 14 (.bool true) (m':= { m with holes:=true,parts:=(h.parts++more),real:=h.real }) (pv':=(Value.slice A5 (h.parts.length+more.length) c5)) (ev':=ev) rfl)
     have HG1:=hid (HG5.out.trans (Fg.set W5 g 14 (.bool true)))
     have HO1:=hid (HO5.out.set (p:=⟨g,14,none⟩) hgl (.bool true))
     clear I5 HG5 HO5
     go_upto_region 15 with fail
     clear f14 k14
     generalize World.setCell W5 _ _=W6 at*
     have k15:=J1.out.cell (i:=15) (v:=(Value.slice A5 (h.parts.length+more.length) c5)) rfl
     go_wp2_with fail
     refine (HE.out W6 HO1.out HG1.out.size).mono ?_
     rintro e W7 ⟨pv7,rfl,ho7,hb7⟩
     obtain ⟨A7,c7,rfl,_,_⟩:=ho7.rd
     generalize (List.filter full (h.parts++more)).length=n7 at*
     have J2:=J1.out.below hb7 hgl
     have HG7:=hid ((fg_below HG1.out hb7).trans (Fg.set W7 g 15 (Value.slice A7 n7 c7)))
     have J3:=hid (J2.set 15 (Value.slice A7 n7 c7) (m':= { m with holes:=true,parts:=M.some_ (h.parts++more),real:=h.real }) (pv':=(Value.slice A7 n7 c7)) (ev':=ev) rfl)
     have HO7:=hid (ho7.set (p:=⟨g,15,none⟩) hgl (Value.slice A7 n7 c7))
     have k15:=J2.cell (i:=15) (v:=(Value.slice A5 (h.parts.length+more.length) c5)) rfl
     have f15:=J2.frozen 15
     clear HE ho7 hb7 J1 HG1 HO1 J2
     go_wp2
     go_ret
     refine ⟨ret_bool (by rw [HD.out];rfl),HG7.out, ?_⟩
     rintro m' hm'
     rw [HD.out] at hm'
     cases hm'
     exact ⟨(Value.slice A7 n7 c7),J3,HO7⟩
    ·have HD:=hid (show M.dig m h (Px.rcs l) more=some m from hdig.trans (if_neg h83))
     clear hdig HRH HRM
     go_wp2
     go_ret
     refine ⟨ret_bool (by rw [HD.out];rfl),Fg.of_below HW2.out, ?_⟩
     rintro m' hm'
     rw [HD.out] at hm'
     cases hm'
     exact ⟨_,HM2,hid (by rw [hmp];exact Sp.OwnP.nil _ _)⟩
   |some s'=>
    obtain rfl:b2=true:=E2'
    have HP:=hid (show Calls Tryz.prog 75 #[.string t] w2 (Sp.PartsTo (Sp.M.parse (tl t)) w2) from Sp.parse_any t ht1 w.heap.size w2 (by omega) (HT.out w2 HW2.out))
    have HN:=hid (fun V (hV:Below w.heap.size w V)=>(show Calls Tryz.prog 76 #[.string s, .int .i64 1099511627776] V (fun e w'=>e= .returned (Sp.numV (M.dec (tl s) 1099511627776))∧Below V.heap.size V w') from decimal_any s ht2 1099511627776 w.heap.size V hV.size (HT.out V hV)))
    clear HT HRH HRM HH2
    cases hop:Sp.M.parse (tl t) with
    |none=>
     rw [hop] at HP
     have HD:=hid (show M.dig m h (Px.rcs l) more=none from hdig)
     cases hod:M.dec (tl s) 1099511627776 with
     |none=>
      rw [hod] at HN
      dsimp only [Sp.PartsTo,Sp.numV,Option.getD,Option.isSome] at HP HN
      clear hop hod
      try clear hdig2
      clear hdig
      try clear T1'
      try clear T2'
      go_wp2_with fail
      refine HP.out.mono ?_
      rintro e w3 ⟨v,rfl,ho3,hb3⟩
      have HW3:=hid (HW2.out.trans (hb3.mono (Nat.le_of_succ_le hsz2)))
      have HM3:=hid (HM2.out.below hb3 (by omega))
      have HO3:=hid ho3
      have hs3:=hb3.size
      clear HP ho3 hb3
      go_wp2_with fail
      refine (HN.out w3 HW3.out).mono ?_
      rintro e w4 ⟨rfl,hb4⟩
      have HW4:=hid (HW3.out.trans (hb4.mono HW3.out.size))
      have HM4:=hid (HM3.out.below hb4 (by omega))
      have HO4:=hid (HO3.out.later hb4)
      have hs4:=hb4.size
      clear HN HW3 HM3 HO3 hb4 HW2 HM2 k2
      go_wp2
      go_ret
      refine ⟨ret_bool (by rw [HD.out];rfl),Fg.of_below HW4.out, ?_⟩
      rintro m' hm'
      rw [HD.out] at hm'
      cases hm'
     |some n5=>
      rw [hod] at HN
      dsimp only [Sp.PartsTo,Sp.numV,Option.getD,Option.isSome] at HP HN
      clear hop hod
      try clear hdig2
      clear hdig
      try clear T1'
      try clear T2'
      go_wp2_with fail
      refine HP.out.mono ?_
      rintro e w3 ⟨v,rfl,ho3,hb3⟩
      have HW3:=hid (HW2.out.trans (hb3.mono (Nat.le_of_succ_le hsz2)))
      have HM3:=hid (HM2.out.below hb3 (by omega))
      have HO3:=hid ho3
      have hs3:=hb3.size
      clear HP ho3 hb3
      go_wp2_with fail
      refine (HN.out w3 HW3.out).mono ?_
      rintro e w4 ⟨rfl,hb4⟩
      have HW4:=hid (HW3.out.trans (hb4.mono HW3.out.size))
      have HM4:=hid (HM3.out.below hb4 (by omega))
      have HO4:=hid (HO3.out.later hb4)
      have hs4:=hb4.size
      clear HN HW3 HM3 HO3 hb4 HW2 HM2 k2
      go_wp2
      go_ret
      refine ⟨ret_bool (by rw [HD.out];rfl),Fg.of_below HW4.out, ?_⟩
      rintro m' hm'
      rw [HD.out] at hm'
      cases hm'
    |some l5=>
     rw [hop] at HP
     have HL5:=hid (parse_len hop)
     cases hod:M.dec (tl s) 1099511627776 with
     |none=>
      have HD:=hid (show M.dig m h (Px.rcs l) more=none from hdig)
      rw [hod] at HN
      dsimp only [Sp.PartsTo,Sp.numV,Option.getD,Option.isSome] at HP HN
      clear hop hod
      try clear hdig2
      clear hdig
      try clear T1'
      try clear T2'
      go_wp2_with fail
      refine HP.out.mono ?_
      rintro e w3 ⟨v,rfl,ho3,hb3⟩
      have HW3:=hid (HW2.out.trans (hb3.mono (Nat.le_of_succ_le hsz2)))
      have HM3:=hid (HM2.out.below hb3 (by omega))
      have HO3:=hid ho3
      have hs3:=hb3.size
      clear HP ho3 hb3
      go_wp2_with fail
      refine (HN.out w3 HW3.out).mono ?_
      rintro e w4 ⟨rfl,hb4⟩
      have HW4:=hid (HW3.out.trans (hb4.mono HW3.out.size))
      have HM4:=hid (HM3.out.below hb4 (by omega))
      have HO4:=hid (HO3.out.later hb4)
      have hs4:=hb4.size
      clear HN HW3 HM3 HO3 hb4 HW2 HM2 k2
      go_wp2
      go_ret
      refine ⟨ret_bool (by rw [HD.out];rfl),Fg.of_below HW4.out, ?_⟩
      rintro m' hm'
      rw [HD.out] at hm'
      cases hm'
     |some n5=>
      have HD:=hid (show M.dig m h (Px.rcs l) more=none from hdig)
      rw [hod] at HN
      dsimp only [Sp.PartsTo,Sp.numV,Option.getD,Option.isSome] at HP HN
      clear hop hod
      try clear hdig2
      clear hdig
      try clear T1'
      try clear T2'
      go_wp2_with fail
      refine HP.out.mono ?_
      rintro e w3 ⟨v,rfl,ho3,hb3⟩
      have HW3:=hid (HW2.out.trans (hb3.mono (Nat.le_of_succ_le hsz2)))
      have HM3:=hid (HM2.out.below hb3 (by omega))
      have HO3:=hid ho3
      have hs3:=hb3.size
      clear HP ho3 hb3
      go_wp2_with fail
      refine (HN.out w3 HW3.out).mono ?_
      rintro e w4 ⟨rfl,hb4⟩
      have HW4:=hid (HW3.out.trans (hb4.mono HW3.out.size))
      have HM4:=hid (HM3.out.below hb4 (by omega))
      have HO4:=hid (HO3.out.later hb4)
      have hs4:=hb4.size
      clear HN HW3 HM3 HO3 hb4 HW2 HM2 k2
      go_wp2
      go_ret
      refine ⟨ret_bool (by rw [HD.out];rfl),Fg.of_below HW4.out, ?_⟩
      rintro m' hm'
      rw [HD.out] at hm'
      cases hm'
  |some t'=>
   obtain rfl:b1=true:=E1'
   obtain rfl:tl t=t':=T1'
   cases o2 with
   |none=>
    obtain rfl:b2=false:=E2'
    have hse:tl s= []:=T2'
    have HDE:M.dec (tl s) 1099511627776=none:=by rw [hse];rfl
    have HP:=hid (show Calls Tryz.prog 75 #[.string t] w2 (Sp.PartsTo (Sp.M.parse (tl t)) w2) from Sp.parse_any t ht1 w.heap.size w2 (by omega) (HT.out w2 HW2.out))
    have HN:=hid (fun V (hV:Below w.heap.size w V)=>(show Calls Tryz.prog 76 #[.string s, .int .i64 1099511627776] V (fun e w'=>e= .returned (Sp.numV (M.dec (tl s) 1099511627776))∧Below V.heap.size V w') from decimal_any s ht2 1099511627776 w.heap.size V hV.size (HT.out V hV)))
    clear HT HRH HRM HH2
    cases hop:Sp.M.parse (tl t) with
    |none=>
     rw [hop] at HP
     have HD:=hid (show M.dig m h (Px.rcs l) more=none from hdig)
     cases hod:M.dec (tl s) 1099511627776 with
     |none=>
      rw [hod] at HN
      dsimp only [Sp.PartsTo,Sp.numV,Option.getD,Option.isSome] at HP HN
      clear hop hod HDE hse
      try clear hdig2
      clear hdig
      try clear T1'
      try clear T2'
      go_wp2_with fail
      refine HP.out.mono ?_
      rintro e w3 ⟨v,rfl,ho3,hb3⟩
      have HW3:=hid (HW2.out.trans (hb3.mono (Nat.le_of_succ_le hsz2)))
      have HM3:=hid (HM2.out.below hb3 (by omega))
      have HO3:=hid ho3
      have hs3:=hb3.size
      clear HP ho3 hb3
      go_wp2_with fail
      refine (HN.out w3 HW3.out).mono ?_
      rintro e w4 ⟨rfl,hb4⟩
      have HW4:=hid (HW3.out.trans (hb4.mono HW3.out.size))
      have HM4:=hid (HM3.out.below hb4 (by omega))
      have HO4:=hid (HO3.out.later hb4)
      have hs4:=hb4.size
      clear HN HW3 HM3 HO3 hb4 HW2 HM2 k2
      go_wp2
      go_ret
      refine ⟨ret_bool (by rw [HD.out];rfl),Fg.of_below HW4.out, ?_⟩
      rintro m' hm'
      rw [HD.out] at hm'
      cases hm'
     |some n5=>
      rw [hod] at HN
      dsimp only [Sp.PartsTo,Sp.numV,Option.getD,Option.isSome] at HP HN
      clear hop hod HDE hse
      try clear hdig2
      clear hdig
      try clear T1'
      try clear T2'
      go_wp2_with fail
      refine HP.out.mono ?_
      rintro e w3 ⟨v,rfl,ho3,hb3⟩
      have HW3:=hid (HW2.out.trans (hb3.mono (Nat.le_of_succ_le hsz2)))
      have HM3:=hid (HM2.out.below hb3 (by omega))
      have HO3:=hid ho3
      have hs3:=hb3.size
      clear HP ho3 hb3
      go_wp2_with fail
      refine (HN.out w3 HW3.out).mono ?_
      rintro e w4 ⟨rfl,hb4⟩
      have HW4:=hid (HW3.out.trans (hb4.mono HW3.out.size))
      have HM4:=hid (HM3.out.below hb4 (by omega))
      have HO4:=hid (HO3.out.later hb4)
      have hs4:=hb4.size
      clear HN HW3 HM3 HO3 hb4 HW2 HM2 k2
      go_wp2
      go_ret
      refine ⟨ret_bool (by rw [HD.out];rfl),Fg.of_below HW4.out, ?_⟩
      rintro m' hm'
      rw [HD.out] at hm'
      cases hm'
    |some l5=>
     rw [hop] at HP
     have HL5:=hid (parse_len hop)
     cases hod:M.dec (tl s) 1099511627776 with
     |none=>
      have HD:=hid (show M.dig m h (Px.rcs l) more=none from hdig)
      rw [hod] at HN
      dsimp only [Sp.PartsTo,Sp.numV,Option.getD,Option.isSome] at HP HN
      clear hop hod HDE hse
      try clear hdig2
      clear hdig
      try clear T1'
      try clear T2'
      go_wp2_with fail
      refine HP.out.mono ?_
      rintro e w3 ⟨v,rfl,ho3,hb3⟩
      have HW3:=hid (HW2.out.trans (hb3.mono (Nat.le_of_succ_le hsz2)))
      have HM3:=hid (HM2.out.below hb3 (by omega))
      have HO3:=hid ho3
      have hs3:=hb3.size
      clear HP ho3 hb3
      go_wp2_with fail
      refine (HN.out w3 HW3.out).mono ?_
      rintro e w4 ⟨rfl,hb4⟩
      have HW4:=hid (HW3.out.trans (hb4.mono HW3.out.size))
      have HM4:=hid (HM3.out.below hb4 (by omega))
      have HO4:=hid (HO3.out.later hb4)
      have hs4:=hb4.size
      clear HN HW3 HM3 HO3 hb4 HW2 HM2 k2
      go_wp2
      go_ret
      refine ⟨ret_bool (by rw [HD.out];rfl),Fg.of_below HW4.out, ?_⟩
      rintro m' hm'
      rw [HD.out] at hm'
      cases hm'
     |some n5=>
      exact absurd (hod.symm.trans HDE) (by simp)
   |some s'=>
    obtain rfl:b2=true:=E2'
    obtain rfl:tl s=s':=T2'
    have hdig2:M.dig m h (Px.rcs l) more=(match Sp.M.parse (tl t),M.dec (tl s) 1099511627776 with
     |some l,some n=>some { m with holes:=true,parts:=M.some_ l,real:=n }
     |_,_=>none):=hdig
    have HP:=hid (show Calls Tryz.prog 75 #[.string t] w2 (Sp.PartsTo (Sp.M.parse (tl t)) w2) from Sp.parse_any t ht1 w.heap.size w2 (by omega) (HT.out w2 HW2.out))
    have HN:=hid (fun V (hV:Below w.heap.size w V)=>(show Calls Tryz.prog 76 #[.string s, .int .i64 1099511627776] V (fun e w'=>e= .returned (Sp.numV (M.dec (tl s) 1099511627776))∧Below V.heap.size V w') from decimal_any s ht2 1099511627776 w.heap.size V hV.size (HT.out V hV)))
    clear HT HRH HRM HH2
    cases hop:Sp.M.parse (tl t) with
    |none=>
     rw [hop] at HP
     have HD:=hid (show M.dig m h (Px.rcs l) more=none by rw [hdig2,hop])
     cases hod:M.dec (tl s) 1099511627776 with
     |none=>
      rw [hod] at HN
      dsimp only [Sp.PartsTo,Sp.numV,Option.getD,Option.isSome] at HP HN
      clear hop hod
      try clear hdig2
      clear hdig
      try clear T1'
      try clear T2'
      go_wp2_with fail
      refine HP.out.mono ?_
      rintro e w3 ⟨v,rfl,ho3,hb3⟩
      have HW3:=hid (HW2.out.trans (hb3.mono (Nat.le_of_succ_le hsz2)))
      have HM3:=hid (HM2.out.below hb3 (by omega))
      have HO3:=hid ho3
      have hs3:=hb3.size
      clear HP ho3 hb3
      go_wp2_with fail
      refine (HN.out w3 HW3.out).mono ?_
      rintro e w4 ⟨rfl,hb4⟩
      have HW4:=hid (HW3.out.trans (hb4.mono HW3.out.size))
      have HM4:=hid (HM3.out.below hb4 (by omega))
      have HO4:=hid (HO3.out.later hb4)
      have hs4:=hb4.size
      clear HN HW3 HM3 HO3 hb4 HW2 HM2 k2
      go_wp2
      go_ret
      refine ⟨ret_bool (by rw [HD.out];rfl),Fg.of_below HW4.out, ?_⟩
      rintro m' hm'
      rw [HD.out] at hm'
      cases hm'
     |some n5=>
      rw [hod] at HN
      dsimp only [Sp.PartsTo,Sp.numV,Option.getD,Option.isSome] at HP HN
      clear hop hod
      try clear hdig2
      clear hdig
      try clear T1'
      try clear T2'
      go_wp2_with fail
      refine HP.out.mono ?_
      rintro e w3 ⟨v,rfl,ho3,hb3⟩
      have HW3:=hid (HW2.out.trans (hb3.mono (Nat.le_of_succ_le hsz2)))
      have HM3:=hid (HM2.out.below hb3 (by omega))
      have HO3:=hid ho3
      have hs3:=hb3.size
      clear HP ho3 hb3
      go_wp2_with fail
      refine (HN.out w3 HW3.out).mono ?_
      rintro e w4 ⟨rfl,hb4⟩
      have HW4:=hid (HW3.out.trans (hb4.mono HW3.out.size))
      have HM4:=hid (HM3.out.below hb4 (by omega))
      have HO4:=hid (HO3.out.later hb4)
      have hs4:=hb4.size
      clear HN HW3 HM3 HO3 hb4 HW2 HM2 k2
      go_wp2
      go_ret
      refine ⟨ret_bool (by rw [HD.out];rfl),Fg.of_below HW4.out, ?_⟩
      rintro m' hm'
      rw [HD.out] at hm'
      cases hm'
    |some l5=>
     rw [hop] at HP
     have HL5:=hid (parse_len hop)
     cases hod:M.dec (tl s) 1099511627776 with
     |none=>
      have HD:=hid (show M.dig m h (Px.rcs l) more=none by rw [hdig2,hop,hod])
      rw [hod] at HN
      dsimp only [Sp.PartsTo,Sp.numV,Option.getD,Option.isSome] at HP HN
      clear hop hod
      try clear hdig2
      clear hdig
      try clear T1'
      try clear T2'
      go_wp2_with fail
      refine HP.out.mono ?_
      rintro e w3 ⟨v,rfl,ho3,hb3⟩
      have HW3:=hid (HW2.out.trans (hb3.mono (Nat.le_of_succ_le hsz2)))
      have HM3:=hid (HM2.out.below hb3 (by omega))
      have HO3:=hid ho3
      have hs3:=hb3.size
      clear HP ho3 hb3
      go_wp2_with fail
      refine (HN.out w3 HW3.out).mono ?_
      rintro e w4 ⟨rfl,hb4⟩
      have HW4:=hid (HW3.out.trans (hb4.mono HW3.out.size))
      have HM4:=hid (HM3.out.below hb4 (by omega))
      have HO4:=hid (HO3.out.later hb4)
      have hs4:=hb4.size
      clear HN HW3 HM3 HO3 hb4 HW2 HM2 k2
      go_wp2
      go_ret
      refine ⟨ret_bool (by rw [HD.out];rfl),Fg.of_below HW4.out, ?_⟩
      rintro m' hm'
      rw [HD.out] at hm'
      cases hm'
     |some n5=>
      have HD:=hid (show M.dig m h (Px.rcs l) more=some { m with holes:=true,parts:=M.some_ l5,real:=n5 } by rw [hdig2,hop,hod])
      rw [hod] at HN
      dsimp only [Sp.PartsTo,Sp.numV,Option.getD,Option.isSome] at HP HN
      clear hop hod
      try clear hdig2
      clear hdig
      try clear T1'
      try clear T2'
      go_wp2_with fail
      refine HP.out.mono ?_
      rintro e w3 ⟨pv5,rfl,ho3,hb3⟩
      have HW3:=hid (HW2.out.trans (hb3.mono (Nat.le_of_succ_le hsz2)))
      have HM3:=hid (HM2.out.below hb3 (by omega))
      have HO3:=hid ho3
      have hs3:=hb3.size
      clear HP ho3 hb3
      go_wp2_with fail
      refine (HN.out w3 HW3.out).mono ?_
      rintro e w4 ⟨rfl,hb4⟩
      have HW4:=hid (HW3.out.trans (hb4.mono HW3.out.size))
      have HM4:=hid (HM3.out.below hb4 (by omega))
      have HO4:=hid (HO3.out.later hb4)
      change Hid (Sp.OwnP w4 _ pv5 l5) at HO4
      obtain ⟨A5,c5,rfl,_,_⟩:=HO4.out.rd
      have hs4:=hb4.size
      clear HN HW3 HM3 HO3 hb4 HW2 HM2 k2
      have k15:=HM4.out.cell (i:=15) (v:= .slice none 0 0) rfl
      have f15:=HM4.out.frozen 15
      have J1:=HM4.out.set 15 (Value.slice A5 l5.length c5) (m':= { m with parts:=l5 }) (pv':=(Value.slice A5 l5.length c5)) (ev':=ev) rfl
      have k13:=J1.cell (i:=13) (v:= .int .i64 m.real) rfl
      have f13:=J1.frozen 13
      have J2:=hid (J1.set 13 (.int .i64 n5) (m':= { m with parts:=l5,real:=n5 }) (pv':=(Value.slice A5 l5.length c5)) (ev':=ev) rfl)
      have HG5:=hid (((Fg.of_below HW4.out).trans (Fg.set w4 g 15 (Value.slice A5 l5.length c5))).trans (Fg.set _ g 13 (.int .i64 n5)))
      have HO5:=hid ((HO4.out.lower (b':=w.heap.size) (by omega)).set (p:=⟨g,15,none⟩) hgl (Value.slice A5 l5.length c5)|>.set (p:=⟨g,13,none⟩) hgl (.int .i64 n5))
      clear J1 HW4 HM4 HO4
      go_upto_region 14 with fail
      clear k15 f15 k13 f13
      generalize World.setCell (World.setCell w4 _ _) _ _=W5 at*
      have I5:=J2
      clear J2
      have f14:=I5.out.frozen 14
      have k14:=I5.out.cell (i:=14) (v:= .bool m.holes) rfl
      have HE:=hid (deleteP_any (Value.slice A5 l5.length c5) l5 w.heap.size HL5.out)
      have J1:=hid (I5.out.set 14 (.bool true) (m':= { m with holes:=true,parts:=l5,real:=n5 }) (pv':=(Value.slice A5 l5.length c5)) (ev':=ev) rfl)
      have HG1:=hid (HG5.out.trans (Fg.set W5 g 14 (.bool true)))
      have HO1:=hid (HO5.out.set (p:=⟨g,14,none⟩) hgl (.bool true))
      clear I5 HG5 HO5
      go_upto_region 15 with fail
      clear f14 k14
      generalize World.setCell W5 _ _=W6 at*
      have k15:=J1.out.cell (i:=15) (v:=(Value.slice A5 l5.length c5)) rfl
      go_wp2_with fail
      refine (HE.out W6 HO1.out HG1.out.size).mono ?_
      rintro e W7 ⟨pv7,rfl,ho7,hb7⟩
      obtain ⟨A7,c7,rfl,_,_⟩:=ho7.rd
      have J2:=J1.out.below hb7 hgl
      have HG7:=hid ((fg_below HG1.out hb7).trans (Fg.set W7 g 15 (Value.slice A7 (l5.filter full).length c7)))
      have J3:=hid (J2.set 15 (Value.slice A7 (l5.filter full).length c7) (m':= { m with holes:=true,parts:=M.some_ l5,real:=n5 }) (pv':=(Value.slice A7 (l5.filter full).length c7)) (ev':=ev) rfl)
      have HO7:=hid (ho7.set (p:=⟨g,15,none⟩) hgl (Value.slice A7 (l5.filter full).length c7))
      have k15:=J2.cell (i:=15) (v:=(Value.slice A5 l5.length c5)) rfl
      have f15:=J2.frozen 15
      clear HE ho7 hb7 J1 HG1 HO1 J2
      go_wp2
      go_ret
      refine ⟨ret_bool (by rw [HD.out];rfl),HG7.out, ?_⟩
      rintro m' hm'
      rw [HD.out] at hm'
      cases hm'
      exact ⟨(Value.slice A7 (l5.filter full).length c7),J3,HO7⟩
 ·have HD:=hid (show M.dig m h (Px.rcs l) more=some m from by unfold M.dig;rw [if_neg hk])
  go_wp2
  go_ret
  refine ⟨ret_bool (by rw [HD.out];rfl),Fg.of_below HW2.out, ?_⟩
  rintro m' hm'
  rw [HD.out] at hm'
  cases hm'
  exact ⟨_,HM2,hid (by rw [hmp];exact Sp.OwnP.nil _ _)⟩
end Go.Proofs.YtjpmpjbembhldaaGreatDoor
