/-
  Texts of one chapter, merged.
-/
import Derived.Test.YtgbgngdakkiclaaGreatDoorKhF1
import Derived.Deep.CutRange
import Derived.Test.YtgbgngdakkiclaaGreatDoorKhF0
import Derived.StillTailTactics
set_option linter.unusedVariables false
set_option linter.unusedSimpArgs false
/-! KhHdPrintW -/
namespace Go.Proofs.YtgbgngdakkiclaaGreatDoor.Hd
open Go.RowKit Go.Lib
attribute [local go_sem ↓] run_make512
structure HIn (w:World) (h:M.Hdr) (pv:Value):Prop where
 parts:PartsB w w.heap.size pv h.parts
 nums:i64p h.parts
 kind:0≤h.kind∧h.kind≤255
 ints:(-9223372036854775808≤h.mode∧h.mode≤9223372036854775807)∧(-9223372036854775808≤h.uid∧h.uid≤9223372036854775807)∧(-9223372036854775808≤h.gid∧h.gid≤9223372036854775807)∧(-9223372036854775808≤h.size∧h.size≤9223372036854775807)∧(-9223372036854775808≤h.mtime∧h.mtime≤9223372036854775807)∧
  (-9223372036854775808≤h.major∧h.major≤9223372036854775807)∧(-9223372036854775808≤h.minor∧h.minor≤9223372036854775807)∧(-9223372036854775808≤h.real∧h.real≤9223372036854775807)
 texts:h.name.size≤100000∧h.link.size≤100000∧h.user.size≤100000∧h.group.size≤100000∧h.pre.size≤100000
theorem print_done {r:Int × List Int} {ys:List Int} {tmps:Array Value} {w0 w:World} {h:M.Hdr} {pv v:Value} {g:Nat} (hr:r=(0,ys)) (q:QF w0 w h pv v) (hg:w0.heap.size+3≤g) (ha:Arr w g 183 ys)
  (h2:tmps.getD 2 undef= .pointer (some ⟨w0.heap.size+1,0,none⟩)) (h3:tmps.getD 3 undef= .pointer (some ⟨w0.heap.size+2,0,none⟩)):
  bodyPostD Tryz.prog Tryz.f71 (PrintIs r w0) .ret
   { tmps:=tmps,defers:= [{ target:= .fn (.func 101) #[.pointer (some ⟨w0.heap.size+1,0,none⟩), .pointer (some ⟨w0.heap.size+2,0,none⟩)],args:= #[] }] }
   ((w.setCell ⟨w0.heap.size+1,0,none⟩ (.slice (some ⟨g,0,none⟩) 512 512)).setCell ⟨w0.heap.size+2,0,none⟩ (.int .u16 0)):=by
 have hb1:=heap_setCell_same w _ 0 _ _ (.slice (some ⟨g,0,none⟩) 512 512) q.bytes
 have hb2:=(heap_setCell_other (w.setCell ⟨w0.heap.size+1,0,none⟩ (.slice (some ⟨g,0,none⟩) 512 512)) ⟨w0.heap.size+2,0,none⟩ (w0.heap.size+1) (.int .u16 0) (by simp)).trans hb1
 have he1:=(heap_setCell_other w ⟨w0.heap.size+1,0,none⟩ (w0.heap.size+2) (.slice (some ⟨g,0,none⟩) 512 512) (by simp)).trans q.err
 have he2:=heap_setCell_same _ _ 0 _ _ (.int .u16 0) he1
 have hbl:=(q.below.setCell (p:=⟨w0.heap.size+1,0,none⟩) (by simp) (.slice (some ⟨g,0,none⟩) 512 512)).setCell (p:=⟨w0.heap.size+2,0,none⟩) (by simp) (.int .u16 0)
 have ha2:=(ha.setOther (a:=⟨w0.heap.size+1,0,none⟩) (by simp;omega) (.slice (some ⟨g,0,none⟩) 512 512)).setOther (a:=⟨w0.heap.size+2,0,none⟩) (by simp;omega) (.int .u16 0)
 exact print_end hr (by omega) ha2 (by simpa using hb2) (by simpa using he2) hbl h2 h3
theorem magic_len (k:Nat):(M.magic k).length=8:=by
 match k with
 |0=>rfl
 |1=>rfl
 |k+2=>rfl
theorem PartsB.mono {w:World} {B B':Nat} {pv:Value} {l:List (Int × Int)} (h:PartsB w B pv l) (hb:B≤B'):PartsB w B' pv l:=by
 obtain ⟨A,c,rfl,h1,h2⟩:=h
 exact ⟨A,c,rfl,h1,fun hl=>let ⟨b,off,e,h4,h5⟩:=h2 hl;⟨b,off,e,Nat.lt_of_lt_of_le h4 hb,h5⟩⟩
theorem mg_cell {W:World} (h:MG W) {k:Nat} (hk:k<3):W.cell? ⟨1,k,none⟩=some (.string (mgs k)):=by
 have:k=0∨k=1∨k=2:=by omega
 rcases this with rfl|rfl|rfl
 ·exact h.1
 ·exact h.2.1
 ·exact h.2.2
theorem magic_row (k:Nat) (hk:k<3):Lib.byteCells (mgs k).data.toList=bcells (M.magic k)∧(mgs k).size=8:=by
 have:k=0∨k=1∨k=2:=by omega
 rcases this with rfl|rfl|rfl<;>exact ⟨rfl,rfl⟩
theorem copy_magic (W:World) (gb:Nat) (zs:List Int) (k:Nat) (hk:k<3) (ty:TypeId) (ha:Arr W gb 5 zs) (hz:zs.length=512):
  (Builtin.copy_ #[22,9] ty #[.slice (some ⟨gb,257,none⟩) 255 255, .string (mgs k)]).run Tryz.prog W= .ok (.int .i64 8) (laid W gb (splice zs 257 (M.magic k))):=by
 obtain ⟨h1,h2⟩:=magic_row k hk
 have h:=Lib.run_copy_row_string (P:=Tryz.prog) W 22 9 ty 5 gb 257 255 255 (mgs k) _ _ Tryz.underlying22 u8_size ha.out (by omega) (by rw [bcells_size,hz];omega)
 rw [h1,h2] at h
 have e:=splice_cells zs (M.magic k) 257
 have hm:(bcells (M.magic k)).length=8:=by rw [←h1,Lib.byteCells_length,←h2];rfl
 rw [hm] at e
 rw [List.append_assoc,e] at h
 exact h
set_option maxRecDepth 100000 in
set_option maxHeartbeats 4000000 in
theorem hprint_any (h:M.Hdr) (pv:Value) (w:World) (hi:HIn w h pv) (hmg:MG w):
  Calls Tryz.prog 71 #[.agg (hcells h pv)] w (PrintIs (M.hprint h) w):=by
 have hmf: ∀ (fn:Fn) (first cap:Array Value) (w:World),(Instr.makeFunc fn first cap).run Tryz.prog w= .ok (.func fn first cap) w:=fun _ _ _ _=>rfl
 have HI:=hid hi
 have HMG:=hid (fun (W:World) (hW:Below w.heap.size w W)=>hmg.later hW)
 obtain ⟨Ap,cp,rfl,_,_⟩:=hi.parts
 clear hi hmg
 generalize hkk:h.kind=kk
 generalize hvi:h.way=vi
 generalize hpv:(.slice Ap h.parts.length cp:Value)=pv at*
 have HPV:=hid hpv
 have HK:=hid hkk
 have HV:=hid hvi
 have hc6:(hcells h pv)[6]?=some (.int .u8 kk):=by rw [←hkk];rfl
 have hc8:(hcells h pv)[8]?=some (.int .i64 vi):=by rw [←hvi];rfl
 have QS:=hid (QF.start w h pv)
 cases hkn:M.known kk with
 |false=>
  have hx:=hid (show M.hprint h=(31, []) by simp [M.hprint,M.chk,hkk,hkn])
  go_enter_defers Tryz.func71,Tryz.ntmps71
  go_wp2_with fail
  (with_reducible refine (known_any kk _).mono ?_)
  rintro e w9 ⟨rfl,rfl⟩
  rw [hkn]
  go_wp2_with (go_at_call 102;(with_reducible refine (demand_no _ _).mono ?_);rintro e w9 ⟨rfl,rfl⟩)
  exact print_stop hx.out (by decide) QS.out rfl rfl
 |true=>
  go_enter_defers Tryz.func71,Tryz.ntmps71
  go_wp2_with fail
  (with_reducible refine (known_any kk _).mono ?_)
  rintro e w9 ⟨rfl,rfl⟩
  rw [hkn]
  go_wp2_with fail
  (with_reducible refine (may_any kk vi _).mono ?_)
  rintro e w9 ⟨rfl,rfl⟩
  cases hmy:M.may kk vi with
  |false=>
   have hx:=hid (show M.hprint h=(31, []) by simp [M.hprint,M.chk,hkk,hvi,hkn,hmy])
   go_wp2_with (go_at_call 102;(with_reducible refine (demand_no _ _).mono ?_);rintro e w9 ⟨rfl,rfl⟩)
   exact print_stop hx.out (by decide) QS.out rfl rfl
  |true=>
   go_wp2_with (go_at_call 102;(with_reducible refine (demand_yes _ _).mono ?_);rintro e w9 ⟨rfl,rfl⟩)
   have hkb:0≤kk∧kk≤255:=by rw [←hkk];exact HI.out.kind
   refine (show Calls Tryz.prog 105 #[.pointer (some ⟨w.heap.size,0,none⟩)] _ (fun e w'=>e= .returned (.agg (textsV w.heap.size vi))∧Below (World.heap _).size _ w') from hvi▸texts_any _ _ _ _ (RF.start w h pv kk hkb).q.box).mono ?_
   rintro e w4 ⟨rfl,b4⟩
   have R4:=hid ((RF.start w h pv kk hkb).later b4)
   clear b4 QS hc6 hc8
   have HF:=hid (⟨hkk,hvi,hkn,hmy⟩:h.kind=kk∧h.way=vi∧M.known kk=true∧M.may kk vi=true)
   generalize hz0:(nils 512).set 156 kk=z0 at*
   have HZ0:=hid hz0
   clear hz0 hkn hmy hkk hvi
   have HT0:=hid (fun (W:World) (ys:List Int) (hW:RF w W h pv ys)=>show Calls Tryz.prog 106 #[.agg #[.int .i64 0, .int .i64 100, .bool true, .pointer (some ⟨w.heap.size,0,none⟩)], .slice (some ⟨w.heap.size+3,0,none⟩) 512 512] W (TxtPut ys 0 100 h.name (w.heap.size+3) W) from text_print 0 100 true w.heap.size 0 (w.heap.size+3) ys h.name W (by decide) (by decide) HI.out.texts.1 hW.len hW.arr (hW.q.box.cell rfl))
   have tx0:=texts_at0 w.heap.size vi
   have HT1:=hid (fun (W:World) (ys:List Int) (hW:RF w W h pv ys)=>show Calls Tryz.prog 106 #[.agg #[.int .i64 157, .int .i64 100, .bool true, .pointer (some ⟨w.heap.size,7,none⟩)], .slice (some ⟨w.heap.size+3,0,none⟩) 512 512] W (TxtPut ys 157 100 h.link (w.heap.size+3) W) from text_print 157 100 true w.heap.size 7 (w.heap.size+3) ys h.link W (by decide) (by decide) HI.out.texts.2.1 hW.len hW.arr (hW.q.box.cell rfl))
   have tx1:=texts_at1 w.heap.size vi
   have HT2:=hid (fun (W:World) (ys:List Int) (hW:RF w W h pv ys)=>show Calls Tryz.prog 106 #[.agg #[.int .i64 265, .int .i64 32, .bool (vi !=0), .pointer (some ⟨w.heap.size,9,none⟩)], .slice (some ⟨w.heap.size+3,0,none⟩) 512 512] W (TxtPut ys 265 32 h.user (w.heap.size+3) W) from text_print 265 32 (vi !=0) w.heap.size 9 (w.heap.size+3) ys h.user W (by decide) (by decide) HI.out.texts.2.2.1 hW.len hW.arr (hW.q.box.cell rfl))
   have tx2:=texts_at2 w.heap.size vi
   have HT3:=hid (fun (W:World) (ys:List Int) (hW:RF w W h pv ys)=>show Calls Tryz.prog 106 #[.agg #[.int .i64 297, .int .i64 32, .bool (vi !=0), .pointer (some ⟨w.heap.size,10,none⟩)], .slice (some ⟨w.heap.size+3,0,none⟩) 512 512] W (TxtPut ys 297 32 h.group (w.heap.size+3) W) from text_print 297 32 (vi !=0) w.heap.size 10 (w.heap.size+3) ys h.group W (by decide) (by decide) HI.out.texts.2.2.2.1 hW.len hW.arr (hW.q.box.cell rfl))
   have tx3:=texts_at3 w.heap.size vi
   have HT4:=hid (fun (W:World) (ys:List Int) (hW:RF w W h pv ys)=>show Calls Tryz.prog 106 #[.agg #[.int .i64 345, .int .i64 155, .bool (vi==1), .pointer (some ⟨w.heap.size,13,none⟩)], .slice (some ⟨w.heap.size+3,0,none⟩) 512 512] W (TxtPut ys 345 155 h.pre (w.heap.size+3) W) from text_print 345 155 (vi==1) w.heap.size 13 (w.heap.size+3) ys h.pre W (by decide) (by decide) HI.out.texts.2.2.2.2 hW.len hW.arr (hW.q.box.cell rfl))
   have tx4:=texts_at4 w.heap.size vi
   go_wp2_with fail
   refine wp_loop_rounds 6 ?_
   rw [rounds_succ]
   have cb:=fun o=>(R4.out.more o).cb
   go_wp2_with fail
   (with_reducible refine (HT0.out _ _ (R4.out.more _)).mono ?_)
   rintro e w5 t5
   have s5:=(R4.out.more _).text (by decide) t5
   clear R4 t5 cb
   cases hpt0:M.putT z0 0 100 h.name with
   |none=>
    obtain ⟨rfl,q5⟩:=s5.1 hpt0
    have hx:=hid (show M.hprint h=(33, []) by simp [M.hprint,M.chk,M.bnd,HF.out.1,HF.out.2.1,HF.out.2.2.1,HF.out.2.2.2,HZ0.out,hpt0])
    exact print_stop hx.out (by decide) q5 rfl rfl
   |some z1=>
    obtain ⟨rfl,r5⟩:=s5.2 _ hpt0
    have R4:=hid r5
    clear r5 s5 HT0 tx0
    go_wp2_with fail
    rw [rounds_succ]
    have cb:=fun o=>(R4.out.more o).cb
    go_wp2_with fail
    (with_reducible refine (HT1.out _ _ (R4.out.more _)).mono ?_)
    rintro e w5 t5
    have s5:=(R4.out.more _).text (by decide) t5
    clear R4 t5 cb
    cases hpt1:M.putT z1 157 100 h.link with
    |none=>
     obtain ⟨rfl,q5⟩:=s5.1 hpt1
     have hx:=hid (show M.hprint h=(33, []) by simp [M.hprint,M.chk,M.bnd,HF.out.1,HF.out.2.1,HF.out.2.2.1,HF.out.2.2.2,HZ0.out,hpt0,hpt1])
     exact print_stop hx.out (by decide) q5 rfl rfl
    |some z2=>
     obtain ⟨rfl,r5⟩:=s5.2 _ hpt1
     have R4:=hid r5
     clear r5 s5 HT1 tx1
     go_wp2_with fail
     rw [rounds_succ]
     have cb:=fun o=>(R4.out.more o).cb
     go_wp2_with fail
     (with_reducible refine (HT2.out _ _ (R4.out.more _)).mono ?_)
     rintro e w5 t5
     have s5:=(R4.out.more _).text (by decide) t5
     clear R4 t5 cb
     cases hpt2:M.putT z2 265 32 h.user with
     |none=>
      obtain ⟨rfl,q5⟩:=s5.1 hpt2
      have hx:=hid (show M.hprint h=(33, []) by simp [M.hprint,M.chk,M.bnd,HF.out.1,HF.out.2.1,HF.out.2.2.1,HF.out.2.2.2,HZ0.out,hpt0,hpt1,hpt2])
      exact print_stop hx.out (by decide) q5 rfl rfl
     |some z3=>
      obtain ⟨rfl,r5⟩:=s5.2 _ hpt2
      have R4:=hid r5
      clear r5 s5 HT2 tx2
      go_wp2_with fail
      rw [rounds_succ]
      have cb:=fun o=>(R4.out.more o).cb
      go_wp2_with fail
      (with_reducible refine (HT3.out _ _ (R4.out.more _)).mono ?_)
      rintro e w5 t5
      have s5:=(R4.out.more _).text (by decide) t5
      clear R4 t5 cb
      cases hpt3:M.putT z3 297 32 h.group with
      |none=>
       obtain ⟨rfl,q5⟩:=s5.1 hpt3
       have hx:=hid (show M.hprint h=(33, []) by simp [M.hprint,M.chk,M.bnd,HF.out.1,HF.out.2.1,HF.out.2.2.1,HF.out.2.2.2,HZ0.out,hpt0,hpt1,hpt2,hpt3])
       exact print_stop hx.out (by decide) q5 rfl rfl
      |some z4=>
       obtain ⟨rfl,r5⟩:=s5.2 _ hpt3
       have R4:=hid r5
       clear r5 s5 HT3 tx3
       go_wp2_with fail
       rw [rounds_succ]
       have cb:=fun o=>(R4.out.more o).cb
       go_wp2_with fail
       (with_reducible refine (HT4.out _ _ (R4.out.more _)).mono ?_)
       rintro e w5 t5
       have s5:=(R4.out.more _).text (by decide) t5
       clear R4 t5 cb
       cases hpt4:M.putT z4 345 155 h.pre with
       |none=>
        obtain ⟨rfl,q5⟩:=s5.1 hpt4
        have hx:=hid (show M.hprint h=(33, []) by simp [M.hprint,M.chk,M.bnd,HF.out.1,HF.out.2.1,HF.out.2.2.1,HF.out.2.2.2,HZ0.out,hpt0,hpt1,hpt2,hpt3,hpt4])
        exact print_stop hx.out (by decide) q5 rfl rfl
       |some z5=>
        obtain ⟨rfl,r5⟩:=s5.2 _ hpt4
        have R4:=hid r5
        clear r5 s5 HT4 tx4
        go_wp2_with fail
        rw [rounds_succ]
        have HF5:=hid (⟨hpt0,hpt1,hpt2,hpt3,hpt4⟩:M.putT z0 0 100 h.name=some z1∧M.putT z1 157 100 h.link=some z2∧M.putT z2 265 32 h.user=some z3∧M.putT z3 297 32 h.group=some z4∧M.putT z4 345 155 h.pre=some z5)
        clear hpt0 hpt1 hpt2 hpt3 hpt4
        go_wp2_with fail
        refine (show Calls Tryz.prog 105 #[.pointer (some ⟨w.heap.size,0,none⟩)] _ (fun e w'=>e= .returned (.agg (textsV w.heap.size vi))∧Below (World.heap _).size _ w') from HV.out▸texts_any _ _ _ _ R4.out.q.box).mono ?_
        rintro e w6 ⟨rfl,b6⟩
        have R6:=hid (R4.out.later b6)
        clear b6 R4
        have tx0:=texts_at0 w.heap.size vi
        have tx1:=texts_at1 w.heap.size vi
        have tx2:=texts_at2 w.heap.size vi
        have tx3:=texts_at3 w.heap.size vi
        have tx4:=texts_at4 w.heap.size vi
        go_wp2_with fail
        go_loopw [36] (fun i wr=>BareAt w h pv z5 i wr) (fun i _=>5 - (RowKit.intOf i).toNat)
        case atStart=>exact ⟨0,rfl,by decide,hid (fun j hj=>absurd hj (by omega)),R6⟩
        case round=>
         clear R6
         obtain ⟨k,rfl,hk,HJ,R⟩:=hrel
         have h6:k=0∨k=1∨k=2∨k=3∨k=4∨k=5:=by omega
         rcases h6 with rfl|rfl|rfl|rfl|rfl|rfl
         ·have HJ2:=hid (M.bare_more HJ.out rfl)
          go_wp2_with (go_at_call 102;(with_reducible refine (demand_yes _ _).mono ?_);rintro e w9 ⟨rfl,rfl⟩)
          go_round
          case rel=>exact ⟨1,rfl,by decide,HJ2,hid (R.out.more _)⟩
          case measure=>simp [RowKit.intOf]
         ·have HJ2:=hid (M.bare_more HJ.out rfl)
          go_wp2_with (go_at_call 102;(with_reducible refine (demand_yes _ _).mono ?_);rintro e w9 ⟨rfl,rfl⟩)
          go_round
          case rel=>exact ⟨2,rfl,by decide,HJ2,hid (R.out.more _)⟩
          case measure=>simp [RowKit.intOf]
         ·have hck:M.bareAt h 2=((vi !=0)||M.blank h.user):=by rw [←HV.out];rfl
          cases ht:(vi !=0) with
          |true=>
           have HJ2:=hid (M.bare_more HJ.out (by rw [hck,ht];rfl))
           clear hck
           go_wp2_with (go_at_call 102;(with_reducible refine (demand_yes _ _).mono ?_);rintro e w9 ⟨rfl,rfl⟩)
           go_round
           case rel=>exact ⟨3,rfl,by decide,HJ2,hid (R.out.more _)⟩
           case measure=>simp [RowKit.intOf]
          |false=>
           have cs:=fun o=>(R.out.more o).q.box.cell (i:=9) (v:= .string h.user) rfl
           cases hb:M.blank h.user with
           |true=>
            have HJ2:=hid (M.bare_more HJ.out (by rw [hck,ht,hb];rfl))
            have hb2:(h.user.toList== [])=true:=hb
            clear hck hb
            go_wp2_with (go_at_call 102;(with_reducible refine (demand_yes _ _).mono ?_);rintro e w9 ⟨rfl,rfl⟩)
            go_round
            case rel=>exact ⟨3,rfl,by decide,HJ2,hid (R.out.more _)⟩
            case measure=>simp [RowKit.intOf]
           |false=>
            have hbb:=M.bare_not (h:=h) (j:=2) (by rw [hck,ht,hb];rfl)
            have hb2:(h.user.toList== [])=false:=hb
            have hx:=hid (show M.hprint h=(32, []) by simp [M.hprint,M.chk,M.bnd,HF.out.1,HF.out.2.1,HF.out.2.2.1,HF.out.2.2.2,HZ0.out,HF5.out.1,HF5.out.2.1,HF5.out.2.2.1,HF5.out.2.2.2.1,HF5.out.2.2.2.2,hbb])
            clear hck hb hbb
            go_wp2_with (go_at_call 102;(with_reducible refine (demand_no _ _).mono ?_);rintro e w9 ⟨rfl,rfl⟩)
            exact print_stop hx.out (by decide) (R.out.more _).q rfl rfl
         ·have hck:M.bareAt h 3=((vi !=0)||M.blank h.group):=by rw [←HV.out];rfl
          cases ht:(vi !=0) with
          |true=>
           have HJ2:=hid (M.bare_more HJ.out (by rw [hck,ht];rfl))
           clear hck
           go_wp2_with (go_at_call 102;(with_reducible refine (demand_yes _ _).mono ?_);rintro e w9 ⟨rfl,rfl⟩)
           go_round
           case rel=>exact ⟨4,rfl,by decide,HJ2,hid (R.out.more _)⟩
           case measure=>simp [RowKit.intOf]
          |false=>
           have cs:=fun o=>(R.out.more o).q.box.cell (i:=10) (v:= .string h.group) rfl
           cases hb:M.blank h.group with
           |true=>
            have HJ2:=hid (M.bare_more HJ.out (by rw [hck,ht,hb];rfl))
            have hb2:(h.group.toList== [])=true:=hb
            clear hck hb
            go_wp2_with (go_at_call 102;(with_reducible refine (demand_yes _ _).mono ?_);rintro e w9 ⟨rfl,rfl⟩)
            go_round
            case rel=>exact ⟨4,rfl,by decide,HJ2,hid (R.out.more _)⟩
            case measure=>simp [RowKit.intOf]
           |false=>
            have hbb:=M.bare_not (h:=h) (j:=3) (by rw [hck,ht,hb];rfl)
            have hb2:(h.group.toList== [])=false:=hb
            have hx:=hid (show M.hprint h=(32, []) by simp [M.hprint,M.chk,M.bnd,HF.out.1,HF.out.2.1,HF.out.2.2.1,HF.out.2.2.2,HZ0.out,HF5.out.1,HF5.out.2.1,HF5.out.2.2.1,HF5.out.2.2.2.1,HF5.out.2.2.2.2,hbb])
            clear hck hb hbb
            go_wp2_with (go_at_call 102;(with_reducible refine (demand_no _ _).mono ?_);rintro e w9 ⟨rfl,rfl⟩)
            exact print_stop hx.out (by decide) (R.out.more _).q rfl rfl
         ·have hck:M.bareAt h 4=((vi==1)||M.blank h.pre):=by rw [←HV.out];rfl
          cases ht:(vi==1) with
          |true=>
           have HJ2:=hid (M.bare_more HJ.out (by rw [hck,ht];rfl))
           clear hck
           go_wp2_with (go_at_call 102;(with_reducible refine (demand_yes _ _).mono ?_);rintro e w9 ⟨rfl,rfl⟩)
           go_round
           case rel=>exact ⟨5,rfl,by decide,HJ2,hid (R.out.more _)⟩
           case measure=>simp [RowKit.intOf]
          |false=>
           have cs:=fun o=>(R.out.more o).q.box.cell (i:=13) (v:= .string h.pre) rfl
           cases hb:M.blank h.pre with
           |true=>
            have HJ2:=hid (M.bare_more HJ.out (by rw [hck,ht,hb];rfl))
            have hb2:(h.pre.toList== [])=true:=hb
            clear hck hb
            go_wp2_with (go_at_call 102;(with_reducible refine (demand_yes _ _).mono ?_);rintro e w9 ⟨rfl,rfl⟩)
            go_round
            case rel=>exact ⟨5,rfl,by decide,HJ2,hid (R.out.more _)⟩
            case measure=>simp [RowKit.intOf]
           |false=>
            have hbb:=M.bare_not (h:=h) (j:=4) (by rw [hck,ht,hb];rfl)
            have hb2:(h.pre.toList== [])=false:=hb
            have hx:=hid (show M.hprint h=(32, []) by simp [M.hprint,M.chk,M.bnd,HF.out.1,HF.out.2.1,HF.out.2.2.1,HF.out.2.2.2,HZ0.out,HF5.out.1,HF5.out.2.1,HF5.out.2.2.1,HF5.out.2.2.2.1,HF5.out.2.2.2.2,hbb])
            clear hck hb hbb
            go_wp2_with (go_at_call 102;(with_reducible refine (demand_no _ _).mono ?_);rintro e w9 ⟨rfl,rfl⟩)
            exact print_stop hx.out (by decide) (R.out.more _).q rfl rfl
         ·have HBR:=hid (M.bare_all HJ.out)
          clear HJ tx0 tx1 tx2 tx3 tx4
          have c8:wr.cell? ⟨w.heap.size,8,none⟩=some (.int .i64 vi):=HV.out▸R.out.q.box.cell rfl
          cases hw0:decide (0≤vi) with
          |false=>
           have hiw:M.isWay vi=false:=by unfold M.isWay;rw [hw0];rfl
           have hx:=hid (show M.hprint h=(32, []) by simp [M.hprint,M.chk,M.bnd,HF.out.1,HF.out.2.1,HF.out.2.2.1,HF.out.2.2.2,HZ0.out,HF5.out.1,HF5.out.2.1,HF5.out.2.2.1,HF5.out.2.2.2.1,HF5.out.2.2.2.2,HBR.out,hiw])
           clear hiw
           go_wp2_with (go_at_call 102;(with_reducible refine (demand_no _ _).mono ?_);rintro e w9 ⟨rfl,rfl⟩)
           exact print_stop hx.out (by decide) R.out.q rfl rfl
          |true=>
           cases hw3:decide (vi<3) with
           |false=>
            have hiw:M.isWay vi=false:=by unfold M.isWay;rw [hw0,hw3];rfl
            have hx:=hid (show M.hprint h=(32, []) by simp [M.hprint,M.chk,M.bnd,HF.out.1,HF.out.2.1,HF.out.2.2.1,HF.out.2.2.2,HZ0.out,HF5.out.1,HF5.out.2.1,HF5.out.2.2.1,HF5.out.2.2.2.1,HF5.out.2.2.2.2,HBR.out,hiw])
            clear hiw
            go_wp2_with (go_at_call 102;(with_reducible refine (demand_no _ _).mono ?_);rintro e w9 ⟨rfl,rfl⟩)
            exact print_stop hx.out (by decide) R.out.q rfl rfl
           |true=>
            have HIW:=hid (show M.isWay vi=true by unfold M.isWay;rw [hw0,hw3];rfl)
            go_wp2_with (go_at_call 102;(with_reducible refine (demand_yes _ _).mono ?_);rintro e w9 ⟨rfl,rfl⟩)
            have hv0:0≤vi:=of_decide_eq_true hw0
            have hv3:vi<3:=of_decide_eq_true hw3
            have hvn:vi.toNat<3:=by omega
            have RV:=hid R.out.drew
            have hgm:wr.drew.cell? ⟨1,vi.toNat,none⟩=some (.string (mgs vi.toNat)):=mg_cell (HMG.out _ R.out.drew.q.below) hvn
            unfold World.drew at RV hgm
            clear c8 R
            refine wp_region_still_tail 6 (by kernel_rfl) (by kernel_rfl) ?_
            simp only [List.take_succ_cons,List.take_zero,List.drop_succ_cons,List.drop_zero]
            generalize ({ wr with drawn:=wr.drawn+1 } :World)=V at*
            have cb:=RV.out.cb
            have c8:V.cell? ⟨w.heap.size,8,none⟩=some (.int .i64 vi):=HV.out▸RV.out.q.box.cell rfl
            have hcp:=fun ty=>copy_magic V (w.heap.size+3) z5 vi.toNat hvn ty RV.out.arr RV.out.len
            generalize mgs vi.toNat=ms at*
            clear hw0 hw3
            repeat still_step
            try refine wpStill_nil ?_
            go_wp2_with fail
            have R7:=hid (RV.out.laid (ys:=splice z5 257 (M.magic vi.toNat)) (splice_len (n:=8) RV.out.len (magic_len _) (by decide)) (splice_bd RV.out.bd (magic_bd _)))
            clear RV hcp hgm cb c8
            generalize hy0:splice z5 257 (M.magic vi.toNat)=y0 at*
            have HY0:=hid hy0
            generalize laid V _ _=w7 at*
            clear hy0 hv0 hv3 hvn
            refine (show Calls Tryz.prog 107 #[.pointer (some ⟨w.heap.size,0,none⟩)] _ (fun e w'=>e= .returned (.agg (numbersV w.heap.size kk vi))∧Below (World.heap _).size _ w') from HK.out▸HV.out▸numbers_any _ _ _ _ R7.out.q.box).mono ?_
            rintro e w8 ⟨rfl,b8⟩
            have R8:=hid (R7.out.later b8)
            clear b8 R7
            have HN0:=hid (fun (W:World) (ys:List Int) (hW:RF w W h pv ys)=>show Calls Tryz.prog 108 #[.agg #[.int .i64 100, .int .i64 8, .bool true, .int .i64 0, .int .i64 4611686018427387904, .pointer (some ⟨w.heap.size,1,none⟩)], .slice (some ⟨w.heap.size+3,0,none⟩) 512 512] W (NumPut ys 100 8 true 0 M.most h.mode (w.heap.size+3) W) from number_print 100 8 true 0 M.most w.heap.size 1 (w.heap.size+3) ys h.mode W (by decide) (by decide) HI.out.ints.1 hW.len hW.arr (hW.q.box.cell rfl))
            have nx0:=nums_at0 w.heap.size kk vi
            have HN1:=hid (fun (W:World) (ys:List Int) (hW:RF w W h pv ys)=>show Calls Tryz.prog 108 #[.agg #[.int .i64 108, .int .i64 8, .bool true, .int .i64 0, .int .i64 4611686018427387904, .pointer (some ⟨w.heap.size,2,none⟩)], .slice (some ⟨w.heap.size+3,0,none⟩) 512 512] W (NumPut ys 108 8 true 0 M.most h.uid (w.heap.size+3) W) from number_print 108 8 true 0 M.most w.heap.size 2 (w.heap.size+3) ys h.uid W (by decide) (by decide) HI.out.ints.2.1 hW.len hW.arr (hW.q.box.cell rfl))
            have nx1:=nums_at1 w.heap.size kk vi
            have HN2:=hid (fun (W:World) (ys:List Int) (hW:RF w W h pv ys)=>show Calls Tryz.prog 108 #[.agg #[.int .i64 116, .int .i64 8, .bool true, .int .i64 0, .int .i64 4611686018427387904, .pointer (some ⟨w.heap.size,3,none⟩)], .slice (some ⟨w.heap.size+3,0,none⟩) 512 512] W (NumPut ys 116 8 true 0 M.most h.gid (w.heap.size+3) W) from number_print 116 8 true 0 M.most w.heap.size 3 (w.heap.size+3) ys h.gid W (by decide) (by decide) HI.out.ints.2.2.1 hW.len hW.arr (hW.q.box.cell rfl))
            have nx2:=nums_at2 w.heap.size kk vi
            have HN3:=hid (fun (W:World) (ys:List Int) (hW:RF w W h pv ys)=>show Calls Tryz.prog 108 #[.agg #[.int .i64 124, .int .i64 12, .bool true, .int .i64 0, .int .i64 1099511627776, .pointer (some ⟨w.heap.size,4,none⟩)], .slice (some ⟨w.heap.size+3,0,none⟩) 512 512] W (NumPut ys 124 12 true 0 M.maxSize h.size (w.heap.size+3) W) from number_print 124 12 true 0 M.maxSize w.heap.size 4 (w.heap.size+3) ys h.size W (by decide) (by decide) HI.out.ints.2.2.2.1 hW.len hW.arr (hW.q.box.cell rfl))
            have nx3:=nums_at3 w.heap.size kk vi
            have HN4:=hid (fun (W:World) (ys:List Int) (hW:RF w W h pv ys)=>show Calls Tryz.prog 108 #[.agg #[.int .i64 136, .int .i64 12, .bool true, .int .i64 (-4611686018427387904), .int .i64 4611686018427387904, .pointer (some ⟨w.heap.size,5,none⟩)], .slice (some ⟨w.heap.size+3,0,none⟩) 512 512] W (NumPut ys 136 12 true (-M.most) M.most h.mtime (w.heap.size+3) W) from number_print 136 12 true (-M.most) M.most w.heap.size 5 (w.heap.size+3) ys h.mtime W (by decide) (by decide) HI.out.ints.2.2.2.2.1 hW.len hW.arr (hW.q.box.cell rfl))
            have nx4:=nums_at4 w.heap.size kk vi
            have HN5:=hid (fun (W:World) (ys:List Int) (hW:RF w W h pv ys)=>show Calls Tryz.prog 108 #[.agg #[.int .i64 329, .int .i64 8, .bool (vi !=0), .int .i64 0, .int .i64 4611686018427387904, .pointer (some ⟨w.heap.size,11,none⟩)], .slice (some ⟨w.heap.size+3,0,none⟩) 512 512] W (NumPut ys 329 8 (vi !=0) 0 M.most h.major (w.heap.size+3) W) from number_print 329 8 (vi !=0) 0 M.most w.heap.size 11 (w.heap.size+3) ys h.major W (by decide) (by decide) HI.out.ints.2.2.2.2.2.1 hW.len hW.arr (hW.q.box.cell rfl))
            have nx5:=nums_at5 w.heap.size kk vi
            have HN6:=hid (fun (W:World) (ys:List Int) (hW:RF w W h pv ys)=>show Calls Tryz.prog 108 #[.agg #[.int .i64 337, .int .i64 8, .bool (vi !=0), .int .i64 0, .int .i64 4611686018427387904, .pointer (some ⟨w.heap.size,12,none⟩)], .slice (some ⟨w.heap.size+3,0,none⟩) 512 512] W (NumPut ys 337 8 (vi !=0) 0 M.most h.minor (w.heap.size+3) W) from number_print 337 8 (vi !=0) 0 M.most w.heap.size 12 (w.heap.size+3) ys h.minor W (by decide) (by decide) HI.out.ints.2.2.2.2.2.2.1 hW.len hW.arr (hW.q.box.cell rfl))
            have nx6:=nums_at6 w.heap.size kk vi
            have HN7:=hid (fun (W:World) (ys:List Int) (hW:RF w W h pv ys)=>show Calls Tryz.prog 108 #[.agg #[.int .i64 483, .int .i64 12, .bool (kk==83&&vi==2), .int .i64 0, .int .i64 1099511627776, .pointer (some ⟨w.heap.size,16,none⟩)], .slice (some ⟨w.heap.size+3,0,none⟩) 512 512] W (NumPut ys 483 12 (kk==83&&vi==2) 0 M.maxSize h.real (w.heap.size+3) W) from number_print 483 12 (kk==83&&vi==2) 0 M.maxSize w.heap.size 16 (w.heap.size+3) ys h.real W (by decide) (by decide) HI.out.ints.2.2.2.2.2.2.2 hW.len hW.arr (hW.q.box.cell rfl))
            have nx7:=nums_at7 w.heap.size kk vi
            go_wp2_with fail
            refine wp_loop_rounds 9 ?_
            rw [rounds_succ]
            have cb:=fun o=>(R8.out.more o).cb
            go_wp2_with fail
            (with_reducible refine (HN0.out _ _ (R8.out.more _)).mono ?_)
            rintro e w9 t9
            have s9:=(R8.out.more _).num (by decide) t9
            clear R8 t9 cb
            cases hpn0:M.putN y0 100 8 true 0 M.most h.mode with
            |none=>
             obtain ⟨rfl,q9⟩:=s9.1 hpn0
             have hx:=hid (show M.hprint h=(32, []) by simp [M.hprint,M.chk,M.bnd,HF.out.1,HF.out.2.1,HF.out.2.2.1,HF.out.2.2.2,HZ0.out,HF5.out.1,HF5.out.2.1,HF5.out.2.2.1,HF5.out.2.2.2.1,HF5.out.2.2.2.2,HBR.out,HIW.out,HY0.out,hpn0])
             exact print_stop hx.out (by decide) q9 rfl rfl
            |some y1=>
             obtain ⟨rfl,r9⟩:=s9.2 _ hpn0
             have R8:=hid r9
             clear r9 s9 HN0 nx0
             go_wp2_with fail
             rw [rounds_succ]
             have cb:=fun o=>(R8.out.more o).cb
             go_wp2_with fail
             (with_reducible refine (HN1.out _ _ (R8.out.more _)).mono ?_)
             rintro e w9 t9
             have s9:=(R8.out.more _).num (by decide) t9
             clear R8 t9 cb
             cases hpn1:M.putN y1 108 8 true 0 M.most h.uid with
             |none=>
              obtain ⟨rfl,q9⟩:=s9.1 hpn1
              have hx:=hid (show M.hprint h=(32, []) by simp [M.hprint,M.chk,M.bnd,HF.out.1,HF.out.2.1,HF.out.2.2.1,HF.out.2.2.2,HZ0.out,HF5.out.1,HF5.out.2.1,HF5.out.2.2.1,HF5.out.2.2.2.1,HF5.out.2.2.2.2,HBR.out,HIW.out,HY0.out,hpn0,hpn1])
              exact print_stop hx.out (by decide) q9 rfl rfl
             |some y2=>
              obtain ⟨rfl,r9⟩:=s9.2 _ hpn1
              have R8:=hid r9
              clear r9 s9 HN1 nx1
              go_wp2_with fail
              rw [rounds_succ]
              have cb:=fun o=>(R8.out.more o).cb
              go_wp2_with fail
              (with_reducible refine (HN2.out _ _ (R8.out.more _)).mono ?_)
              rintro e w9 t9
              have s9:=(R8.out.more _).num (by decide) t9
              clear R8 t9 cb
              cases hpn2:M.putN y2 116 8 true 0 M.most h.gid with
              |none=>
               obtain ⟨rfl,q9⟩:=s9.1 hpn2
               have hx:=hid (show M.hprint h=(32, []) by simp [M.hprint,M.chk,M.bnd,HF.out.1,HF.out.2.1,HF.out.2.2.1,HF.out.2.2.2,HZ0.out,HF5.out.1,HF5.out.2.1,HF5.out.2.2.1,HF5.out.2.2.2.1,HF5.out.2.2.2.2,HBR.out,HIW.out,HY0.out,hpn0,hpn1,hpn2])
               exact print_stop hx.out (by decide) q9 rfl rfl
              |some y3=>
               obtain ⟨rfl,r9⟩:=s9.2 _ hpn2
               have R8:=hid r9
               clear r9 s9 HN2 nx2
               go_wp2_with fail
               rw [rounds_succ]
               have cb:=fun o=>(R8.out.more o).cb
               go_wp2_with fail
               (with_reducible refine (HN3.out _ _ (R8.out.more _)).mono ?_)
               rintro e w9 t9
               have s9:=(R8.out.more _).num (by decide) t9
               clear R8 t9 cb
               cases hpn3:M.putN y3 124 12 true 0 M.maxSize h.size with
               |none=>
                obtain ⟨rfl,q9⟩:=s9.1 hpn3
                have hx:=hid (show M.hprint h=(32, []) by simp [M.hprint,M.chk,M.bnd,HF.out.1,HF.out.2.1,HF.out.2.2.1,HF.out.2.2.2,HZ0.out,HF5.out.1,HF5.out.2.1,HF5.out.2.2.1,HF5.out.2.2.2.1,HF5.out.2.2.2.2,HBR.out,HIW.out,HY0.out,hpn0,hpn1,hpn2,hpn3])
                exact print_stop hx.out (by decide) q9 rfl rfl
               |some y4=>
                obtain ⟨rfl,r9⟩:=s9.2 _ hpn3
                have R8:=hid r9
                clear r9 s9 HN3 nx3
                go_wp2_with fail
                rw [rounds_succ]
                have cb:=fun o=>(R8.out.more o).cb
                go_wp2_with fail
                (with_reducible refine (HN4.out _ _ (R8.out.more _)).mono ?_)
                rintro e w9 t9
                have s9:=(R8.out.more _).num (by decide) t9
                clear R8 t9 cb
                cases hpn4:M.putN y4 136 12 true (-M.most) M.most h.mtime with
                |none=>
                 obtain ⟨rfl,q9⟩:=s9.1 hpn4
                 have hx:=hid (show M.hprint h=(32, []) by simp [M.hprint,M.chk,M.bnd,HF.out.1,HF.out.2.1,HF.out.2.2.1,HF.out.2.2.2,HZ0.out,HF5.out.1,HF5.out.2.1,HF5.out.2.2.1,HF5.out.2.2.2.1,HF5.out.2.2.2.2,HBR.out,HIW.out,HY0.out,hpn0,hpn1,hpn2,hpn3,hpn4])
                 exact print_stop hx.out (by decide) q9 rfl rfl
                |some y5=>
                 obtain ⟨rfl,r9⟩:=s9.2 _ hpn4
                 have R8:=hid r9
                 clear r9 s9 HN4 nx4
                 go_wp2_with fail
                 rw [rounds_succ]
                 have cb:=fun o=>(R8.out.more o).cb
                 go_wp2_with fail
                 (with_reducible refine (HN5.out _ _ (R8.out.more _)).mono ?_)
                 rintro e w9 t9
                 have s9:=(R8.out.more _).num (by decide) t9
                 clear R8 t9 cb
                 cases hpn5:M.putN y5 329 8 (vi !=0) 0 M.most h.major with
                 |none=>
                  obtain ⟨rfl,q9⟩:=s9.1 hpn5
                  have hx:=hid (show M.hprint h=(32, []) by simp [M.hprint,M.chk,M.bnd,HF.out.1,HF.out.2.1,HF.out.2.2.1,HF.out.2.2.2,HZ0.out,HF5.out.1,HF5.out.2.1,HF5.out.2.2.1,HF5.out.2.2.2.1,HF5.out.2.2.2.2,HBR.out,HIW.out,HY0.out,hpn0,hpn1,hpn2,hpn3,hpn4,hpn5])
                  exact print_stop hx.out (by decide) q9 rfl rfl
                 |some y6=>
                  obtain ⟨rfl,r9⟩:=s9.2 _ hpn5
                  have R8:=hid r9
                  clear r9 s9 HN5 nx5
                  go_wp2_with fail
                  rw [rounds_succ]
                  have cb:=fun o=>(R8.out.more o).cb
                  go_wp2_with fail
                  (with_reducible refine (HN6.out _ _ (R8.out.more _)).mono ?_)
                  rintro e w9 t9
                  have s9:=(R8.out.more _).num (by decide) t9
                  clear R8 t9 cb
                  cases hpn6:M.putN y6 337 8 (vi !=0) 0 M.most h.minor with
                  |none=>
                   obtain ⟨rfl,q9⟩:=s9.1 hpn6
                   have hx:=hid (show M.hprint h=(32, []) by simp [M.hprint,M.chk,M.bnd,HF.out.1,HF.out.2.1,HF.out.2.2.1,HF.out.2.2.2,HZ0.out,HF5.out.1,HF5.out.2.1,HF5.out.2.2.1,HF5.out.2.2.2.1,HF5.out.2.2.2.2,HBR.out,HIW.out,HY0.out,hpn0,hpn1,hpn2,hpn3,hpn4,hpn5,hpn6])
                   exact print_stop hx.out (by decide) q9 rfl rfl
                  |some y7=>
                   obtain ⟨rfl,r9⟩:=s9.2 _ hpn6
                   have R8:=hid r9
                   clear r9 s9 HN6 nx6
                   go_wp2_with fail
                   rw [rounds_succ]
                   have cb:=fun o=>(R8.out.more o).cb
                   go_wp2_with fail
                   (with_reducible refine (HN7.out _ _ (R8.out.more _)).mono ?_)
                   rintro e w9 t9
                   have s9:=(R8.out.more _).num (by decide) t9
                   clear R8 t9 cb
                   cases hpn7:M.putN y7 483 12 (kk==83&&vi==2) 0 M.maxSize h.real with
                   |none=>
                    obtain ⟨rfl,q9⟩:=s9.1 hpn7
                    have hx:=hid (show M.hprint h=(32, []) by simp [M.hprint,M.chk,M.bnd,HF.out.1,HF.out.2.1,HF.out.2.2.1,HF.out.2.2.2,HZ0.out,HF5.out.1,HF5.out.2.1,HF5.out.2.2.1,HF5.out.2.2.2.1,HF5.out.2.2.2.2,HBR.out,HIW.out,HY0.out,hpn0,hpn1,hpn2,hpn3,hpn4,hpn5,hpn6,hpn7])
                    exact print_stop hx.out (by decide) q9 rfl rfl
                   |some y8=>
                    obtain ⟨rfl,r9⟩:=s9.2 _ hpn7
                    have R8:=hid r9
                    clear r9 s9 HN7 nx7
                    have HFN:=hid (⟨hpn0,hpn1,hpn2,hpn3,hpn4,hpn5,hpn6,hpn7⟩:M.putN y0 100 8 true 0 M.most h.mode=some y1∧M.putN y1 108 8 true 0 M.most h.uid=some y2∧M.putN y2 116 8 true 0 M.most h.gid=some y3∧M.putN y3 124 12 true 0 M.maxSize h.size=some y4∧M.putN y4 136 12 true (-M.most) M.most h.mtime=some y5∧M.putN y5 329 8 (vi !=0) 0 M.most h.major=some y6∧M.putN y6 337 8 (vi !=0) 0 M.most h.minor=some y7∧M.putN y7 483 12 (kk==83&&vi==2) 0 M.maxSize h.real=some y8)
                    clear hpn0 hpn1 hpn2 hpn3 hpn4 hpn5 hpn6 hpn7
                    subst hpv
                    have c6:w9.cell? ⟨w.heap.size,6,none⟩=some (.int .u8 kk):=HK.out▸R8.out.q.box.cell rfl
                    have c14:w9.cell? ⟨w.heap.size,14,none⟩=some (.slice Ap h.parts.length cp):=R8.out.q.box.cell rfl
                    have c15:w9.cell? ⟨w.heap.size,15,none⟩=some (.bool h.more):=R8.out.q.box.cell rfl
                    have cb:=R8.out.cb
                    have HPP:=hid (printParts_any (w.heap.size+3) y8 h.parts (.slice Ap h.parts.length cp) w9 R8.out.arr R8.out.len ((HI.out.parts.below R8.out.q.below).mono (by omega)) HI.out.nums)
                    go_wp2_with fail
                    rw [rounds_succ]
                    cases hfl:M.flat h with
                    |false=>
                     have hx:=hid (show M.hprint h=(32, []) by simp [M.hprint,M.chk,M.bnd,HF.out.1,HF.out.2.1,HF.out.2.2.1,HF.out.2.2.2,HZ0.out,HF5.out.1,HF5.out.2.1,HF5.out.2.2.1,HF5.out.2.2.2.1,HF5.out.2.2.2.2,HBR.out,HIW.out,HY0.out,HFN.out.1,HFN.out.2.1,HFN.out.2.2.1,HFN.out.2.2.2.1,HFN.out.2.2.2.2.1,HFN.out.2.2.2.2.2.1,HFN.out.2.2.2.2.2.2.1,HFN.out.2.2.2.2.2.2.2,hfl])
                     have hfl2:((kk==83)||(decide (h.parts.length=0)&& !h.more))=false:=by rw [←HK.out];exact hfl
                     rw [Bool.or_eq_false_iff] at hfl2
                     obtain ⟨e83,hfl3⟩:=hfl2
                     by_cases hl0:h.parts.length=0
                     ·have em:h.more=true:=by simpa [hl0] using hfl3
                      have el:((h.parts.length:Int)==0)=true:=by simp [hl0]
                      clear hfl hfl3 hl0
                      go_wp2_with (go_at_call 102;(with_reducible refine (demand_no _ _).mono ?_);rintro e w9 ⟨rfl,rfl⟩)
                      exact print_stop hx.out (by decide) R8.out.q rfl rfl
                     ·have el:((h.parts.length:Int)==0)=false:=by simp;exact fun e=>hl0 (by rw [e];rfl)
                      clear hfl hfl3 hl0
                      go_wp2_with (go_at_call 102;(with_reducible refine (demand_no _ _).mono ?_);rintro e w9 ⟨rfl,rfl⟩)
                      exact print_stop hx.out (by decide) R8.out.q rfl rfl
                    |true=>
                     have HX:=hid (fun (o:Option (List Int)) (ho:M.putP y8 h.parts=o)=>(show M.hprint h=M.bnd o 32 (fun x=>(0,M.sld (if h.more=true then x.set 482 1 else x))) by simp [M.hprint,M.chk,M.bnd,HF.out.1,HF.out.2.1,HF.out.2.2.1,HF.out.2.2.2,HZ0.out,HF5.out.1,HF5.out.2.1,HF5.out.2.2.1,HF5.out.2.2.2.1,HF5.out.2.2.2.2,HBR.out,HIW.out,HY0.out,HFN.out.1,HFN.out.2.1,HFN.out.2.2.1,HFN.out.2.2.2.1,HFN.out.2.2.2.2.1,HFN.out.2.2.2.2.2.1,HFN.out.2.2.2.2.2.2.1,HFN.out.2.2.2.2.2.2.2,hfl,ho]))
                     have hfl2:((kk==83)||(decide (h.parts.length=0)&& !h.more))=true:=by rw [←HK.out];exact hfl
                     cases e83:kk==83 with
                     |true=>
                      clear hfl hfl2
                      go_wp2_with (go_at_call 102;(with_reducible refine (demand_yes _ _).mono ?_);rintro e w9 ⟨rfl,rfl⟩)
                      (with_reducible refine HPP.out.mono ?_)
                      rintro e w10 ⟨t10,b10⟩
                      have q10:=R8.out.q.keep b10
                      cases hpp:M.putP y8 h.parts with
                      |none=>
                       rw [hpp] at t10
                       obtain rfl:=t10
                       exact print_stop (HX.out _ hpp) (by decide) q10 rfl rfl
                      |some x=>
                       rw [hpp] at t10
                       obtain ⟨rfl,a10,l10⟩:=t10
                       have HXS:=hid (HX.out _ hpp)
                       have R10:=hid (⟨q10,a10,l10,putP_bd R8.out.bd hpp⟩:RF w w10 h (.slice Ap h.parts.length cp) x)
                       clear hpp a10 l10 q10 HX HPP R8 b10 c6 c14 c15 cb
                       have c15:w10.cell? ⟨w.heap.size,15,none⟩=some (.bool h.more):=R10.out.q.box.cell rfl
                       have cb:=R10.out.cb
                       cases hm:h.more with
                       |true=>
                        rw [hm] at c15
                        obtain ⟨zz,hz⟩: ∃ zz,x[482]?=some zz:=⟨_,List.getElem?_eq_getElem (by rw [R10.out.len];decide)⟩
                        have cz:=R10.out.arr.cell hz
                        have fz:=R10.out.arr.frozen 482
                        have R11:=hid (⟨R10.out.q.keep ((Below.refl _ _).setCell (p:=⟨w.heap.size+3,482,none⟩) (Nat.le_refl _) (.int .u8 1)),R10.out.arr.set 482 1,by rw [List.length_set,R10.out.len],set_bd R10.out.bd (by decide)⟩:RF w (w10.setCell ⟨w.heap.size+3,482,none⟩ (.int .u8 1)) h (.slice Ap h.parts.length cp) (x.set 482 1))
                        have hx:=hid (show M.hprint h=(0,M.sld (x.set 482 1)) by rw [HXS.out,M.bnd_some,hm,if_pos rfl])
                        clear hz hm R10 HXS
                        go_wp2_with fail
                        (with_reducible refine (seal_any (some ⟨w.heap.size+3,0,none⟩) 512 512 (x.set 482 1) _ _ (R11.out.len▸R11.out.arr.rd R11.out.bd R11.out.arr.lt) (Nat.le_refl _)).mono ?_)
                        rintro e w12 ⟨g12,rfl,hg12,a12,b12⟩
                        have q12:=R11.out.q.later b12
                        have hsz:=R11.out.q.size
                        have cb2:w12.cell? ⟨w.heap.size+1,0,none⟩=some (.slice (some ⟨w.heap.size+3,0,none⟩) 512 512):=by rw [cell_of_row _ _ 0 _ _ _ q12.bytes];rfl
                        have ce2:w12.cell? ⟨w.heap.size+1+1,0,none⟩=some (.int .u16 0):=by rw [cell_of_row _ _ 0 _ _ _ q12.err];rfl
                        have fb2:=frozen_of_row _ _ 0 _ _ q12.bytes
                        have fe2:w12.frozen? ⟨w.heap.size+1+1,0,none⟩=false:=frozen_of_row _ _ 0 _ _ q12.err
                        have HG:=hid hg12
                        have HS:=hid hsz
                        have HA:=hid a12
                        have HQ:=hid q12
                        clear hg12 hsz a12 q12 b12 R11
                        go_wp2_with fail
                        exact print_done hx.out HQ.out (Nat.le_trans HS.out (by have:=HG.out;simpa using this)) HA.out rfl rfl
                       |false=>
                        rw [hm] at c15
                        have R11:=hid R10.out
                        have hx:=hid (show M.hprint h=(0,M.sld x) by rw [HXS.out,M.bnd_some,hm,if_neg (by decide)])
                        clear hm R10 HXS
                        go_wp2_with fail
                        (with_reducible refine (seal_any (some ⟨w.heap.size+3,0,none⟩) 512 512 x _ _ (R11.out.len▸R11.out.arr.rd R11.out.bd R11.out.arr.lt) (Nat.le_refl _)).mono ?_)
                        rintro e w12 ⟨g12,rfl,hg12,a12,b12⟩
                        have q12:=R11.out.q.later b12
                        have hsz:=R11.out.q.size
                        have cb2:w12.cell? ⟨w.heap.size+1,0,none⟩=some (.slice (some ⟨w.heap.size+3,0,none⟩) 512 512):=by rw [cell_of_row _ _ 0 _ _ _ q12.bytes];rfl
                        have ce2:w12.cell? ⟨w.heap.size+1+1,0,none⟩=some (.int .u16 0):=by rw [cell_of_row _ _ 0 _ _ _ q12.err];rfl
                        have fb2:=frozen_of_row _ _ 0 _ _ q12.bytes
                        have fe2:w12.frozen? ⟨w.heap.size+1+1,0,none⟩=false:=frozen_of_row _ _ 0 _ _ q12.err
                        have HG:=hid hg12
                        have HS:=hid hsz
                        have HA:=hid a12
                        have HQ:=hid q12
                        clear hg12 hsz a12 q12 b12 R11
                        go_wp2_with fail
                        exact print_done hx.out HQ.out (Nat.le_trans HS.out (by have:=HG.out;simpa using this)) HA.out rfl rfl
                     |false=>
                      rw [e83,Bool.false_or,Bool.and_eq_true] at hfl2
                      have hl0:h.parts.length=0:=of_decide_eq_true hfl2.1
                      have el:((h.parts.length:Int)==0)=true:=by simp [hl0]
                      have em:h.more=false:=by simpa using hfl2.2
                      clear hfl hfl2 hl0
                      go_wp2_with (go_at_call 102;(with_reducible refine (demand_yes _ _).mono ?_);rintro e w9 ⟨rfl,rfl⟩)
                      clear el em
                      (with_reducible refine HPP.out.mono ?_)
                      rintro e w10 ⟨t10,b10⟩
                      have q10:=R8.out.q.keep b10
                      cases hpp:M.putP y8 h.parts with
                      |none=>
                       rw [hpp] at t10
                       obtain rfl:=t10
                       exact print_stop (HX.out _ hpp) (by decide) q10 rfl rfl
                      |some x=>
                       rw [hpp] at t10
                       obtain ⟨rfl,a10,l10⟩:=t10
                       have HXS:=hid (HX.out _ hpp)
                       have R10:=hid (⟨q10,a10,l10,putP_bd R8.out.bd hpp⟩:RF w w10 h (.slice Ap h.parts.length cp) x)
                       clear hpp a10 l10 q10 HX HPP R8 b10 c6 c14 c15 cb
                       have c15:w10.cell? ⟨w.heap.size,15,none⟩=some (.bool h.more):=R10.out.q.box.cell rfl
                       have cb:=R10.out.cb
                       cases hm:h.more with
                       |true=>
                        rw [hm] at c15
                        obtain ⟨zz,hz⟩: ∃ zz,x[482]?=some zz:=⟨_,List.getElem?_eq_getElem (by rw [R10.out.len];decide)⟩
                        have cz:=R10.out.arr.cell hz
                        have fz:=R10.out.arr.frozen 482
                        have R11:=hid (⟨R10.out.q.keep ((Below.refl _ _).setCell (p:=⟨w.heap.size+3,482,none⟩) (Nat.le_refl _) (.int .u8 1)),R10.out.arr.set 482 1,by rw [List.length_set,R10.out.len],set_bd R10.out.bd (by decide)⟩:RF w (w10.setCell ⟨w.heap.size+3,482,none⟩ (.int .u8 1)) h (.slice Ap h.parts.length cp) (x.set 482 1))
                        have hx:=hid (show M.hprint h=(0,M.sld (x.set 482 1)) by rw [HXS.out,M.bnd_some,hm,if_pos rfl])
                        clear hz hm R10 HXS
                        go_wp2_with fail
                        (with_reducible refine (seal_any (some ⟨w.heap.size+3,0,none⟩) 512 512 (x.set 482 1) _ _ (R11.out.len▸R11.out.arr.rd R11.out.bd R11.out.arr.lt) (Nat.le_refl _)).mono ?_)
                        rintro e w12 ⟨g12,rfl,hg12,a12,b12⟩
                        have q12:=R11.out.q.later b12
                        have hsz:=R11.out.q.size
                        have cb2:w12.cell? ⟨w.heap.size+1,0,none⟩=some (.slice (some ⟨w.heap.size+3,0,none⟩) 512 512):=by rw [cell_of_row _ _ 0 _ _ _ q12.bytes];rfl
                        have ce2:w12.cell? ⟨w.heap.size+1+1,0,none⟩=some (.int .u16 0):=by rw [cell_of_row _ _ 0 _ _ _ q12.err];rfl
                        have fb2:=frozen_of_row _ _ 0 _ _ q12.bytes
                        have fe2:w12.frozen? ⟨w.heap.size+1+1,0,none⟩=false:=frozen_of_row _ _ 0 _ _ q12.err
                        have HG:=hid hg12
                        have HS:=hid hsz
                        have HA:=hid a12
                        have HQ:=hid q12
                        clear hg12 hsz a12 q12 b12 R11
                        go_wp2_with fail
                        exact print_done hx.out HQ.out (Nat.le_trans HS.out (by have:=HG.out;simpa using this)) HA.out rfl rfl
                       |false=>
                        rw [hm] at c15
                        have R11:=hid R10.out
                        have hx:=hid (show M.hprint h=(0,M.sld x) by rw [HXS.out,M.bnd_some,hm,if_neg (by decide)])
                        clear hm R10 HXS
                        go_wp2_with fail
                        (with_reducible refine (seal_any (some ⟨w.heap.size+3,0,none⟩) 512 512 x _ _ (R11.out.len▸R11.out.arr.rd R11.out.bd R11.out.arr.lt) (Nat.le_refl _)).mono ?_)
                        rintro e w12 ⟨g12,rfl,hg12,a12,b12⟩
                        have q12:=R11.out.q.later b12
                        have hsz:=R11.out.q.size
                        have cb2:w12.cell? ⟨w.heap.size+1,0,none⟩=some (.slice (some ⟨w.heap.size+3,0,none⟩) 512 512):=by rw [cell_of_row _ _ 0 _ _ _ q12.bytes];rfl
                        have ce2:w12.cell? ⟨w.heap.size+1+1,0,none⟩=some (.int .u16 0):=by rw [cell_of_row _ _ 0 _ _ _ q12.err];rfl
                        have fb2:=frozen_of_row _ _ 0 _ _ q12.bytes
                        have fe2:w12.frozen? ⟨w.heap.size+1+1,0,none⟩=false:=frozen_of_row _ _ 0 _ _ q12.err
                        have HG:=hid hg12
                        have HS:=hid hsz
                        have HA:=hid a12
                        have HQ:=hid q12
                        clear hg12 hsz a12 q12 b12 R11
                        go_wp2_with fail
                        exact print_done hx.out HQ.out (Nat.le_trans HS.out (by have:=HG.out;simpa using this)) HA.out rfl rfl
end Go.Proofs.YtgbgngdakkiclaaGreatDoor.Hd

/-! KhHdFitsX -/
namespace Go.Proofs.YtgbgngdakkiclaaGreatDoor.Hd
open Go.RowKit Go.Lib
theorem blank_iff {s:ByteArray} :M.blank s=true↔s.toList= []:=by unfold M.blank;exact beq_iff_eq
theorem f3_succ {l:List (Int × Int)} {k:Nat} {p q:Int} (h:l[k]?=some (p,q)):M.f3 (l.take (k+1))=(M.f3 (l.take k)&& !(p==0&&q==0)):=by
 rw [List.take_add_one,h]
 unfold M.f3
 rw [List.all_append]
 simp
theorem f3_no {l:List (Int × Int)} (h:((0:Int),(0:Int))∈l):M.f3 l=false:=by
 unfold M.f3
 rw [List.all_eq_false]
 exact ⟨_,h,by decide⟩
theorem not_eq {x y:Bool} (h:x=true↔ ¬ (y=true)):x= !y:=by
 cases x<;>cases y<;>simp_all
set_option maxRecDepth 100000 in
set_option maxHeartbeats 2000000 in
theorem refFitsX_any (h:M.Hdr) (A:Option Addr) (c:Nat) (w:World) (hi:HIn w h (.slice A h.parts.length c)) (hfew:h.parts.length≤1000):
  Calls Tryz.prog 60 #[.agg (hcells h (.slice A h.parts.length c))] w (fun e w'=>e= .returned (.bool (M.fits h))∧Below w.heap.size w w'):=by
 have hb1:Below w.heap.size w (w.alloc (.cells (hcells h (.slice A h.parts.length c)) 39)):=(Below.refl _ _).alloc (Nat.le_refl _) _
 have HP:=hid (PartsB.below hi.parts hb1)
 have HW:=hid hb1
 have B1:=hid (HB.new w h (.slice A h.parts.length c))
 clear hi hb1
 have HF1:=hid (M.f1_iff (h:=h))
 have HF4:=hid (M.f4_iff (h:=h))
 have HF2:=hid (M.f2_iff (h:=h))
 generalize hn:h.parts.length=n at*
 have HN:=hid hn
 clear hn
 have k8:=HB.cell B1.out (i:=8) (v:= .int .i64 h.way) rfl
 have k4:=HB.cell B1.out (i:=4) (v:= .int .i64 h.size) rfl
 have k16:=HB.cell B1.out (i:=16) (v:= .int .i64 h.real) rfl
 have k14:=HB.cell B1.out (i:=14) (v:= .slice A n c) rfl
 have k9:=HB.cell B1.out (i:=9) (v:= .string h.user) rfl
 have k10:=HB.cell B1.out (i:=10) (v:= .string h.group) rfl
 have k11:=HB.cell B1.out (i:=11) (v:= .int .i64 h.major) rfl
 have k12:=HB.cell B1.out (i:=12) (v:= .int .i64 h.minor) rfl
 have k13:=HB.cell B1.out (i:=13) (v:= .string h.pre) rfl
 have k6:=HB.cell B1.out (i:=6) (v:= .int .u8 h.kind) rfl
 have k15:=HB.cell B1.out (i:=15) (v:= .bool h.more) rfl
 clear B1
 go_enter Tryz.func60,Tryz.ntmps60
 go_upto_region 1 with fail
 generalize World.alloc w _=W at*
 go_cut [27] from 4 to 26 (fun v wx=>v= .bool (!M.f1 h)∧W=wx)
 case first=>
  go_wp2_with fail
  all_goals
   go_meet
   case rel=>
    refine ⟨congrArg Value.bool (not_eq ?_),rfl⟩
    rw [HF1.out]
    unfold M.maxSize
    simp only [Bool.or_eq_true,decide_eq_true_eq,true_iff]
    omega
 case rest=>
  obtain ⟨rfl,rfl⟩:=hcut
  cases hf1:M.f1 h
  case true=>
   have HLE:=hid (HF1.out.1 hf1)
   have HF1':=hid hf1
   clear hf1
   rw [show (!true)=false from rfl]
   go_upto_region 3 with fail
   go_cut [60] from 28 to 59 (fun v wx=>v= .bool (!M.f2 h)∧W=wx)
   case first=>
    go_wp2_with fail
    all_goals
     go_meet
     case rel=>
      refine ⟨congrArg Value.bool (not_eq ?_),rfl⟩
      rw [HF2.out]
      simp only [blank_iff]
      simp [*]
   case rest=>
    obtain ⟨rfl,rfl⟩:=hcut
    clear k4 k9 k10 k11 k12 k13
    cases hf2:M.f2 h
    case true=>
     have HF2':=hid hf2
     clear hf2
     rw [show (!true)=false from rfl]
     go_wp2_with fail
     go_loop [3] (fun i=> ∃ k:Nat,i= .int .i64 k∧k≤n∧Hid (M.f3 (h.parts.take k)=true)) (fun i=>n - (RowKit.intOf i).toNat)
     case atStart=>exact ⟨0,rfl,Nat.zero_le _,hid rfl⟩
     case round=>
      obtain ⟨k,rfl,hk,HK⟩:=hrel
      by_cases hkn:k<n
      ·obtain ⟨A',c',he,_,hcells⟩:=HP.out
       injection he with he1 he2 he3
       clear he2
       subst he1 he3
       obtain ⟨ba,oa,rfl,_,hca⟩:=hcells (by rw [HN.out];omega)
       clear hcells
       obtain ⟨⟨p,q⟩,hpk⟩: ∃ p,h.parts[k]?=some p:=⟨_,List.getElem?_eq_getElem (by rw [HN.out];exact hkn)⟩
       obtain ⟨a0,a1⟩:=hca k _ hpk
       have HS:=hid (f3_succ hpk)
       have HM:=hid (List.mem_of_getElem? hpk)
       dsimp only at a0 a1
       rw [show 2*k=k*2 by omega] at a0 a1
       clear hca hpk
       by_cases h0:p=0∧q=0
       ·obtain ⟨rfl,rfl⟩:=h0
        have HE:=hid (show M.fits h=false by
         unfold M.fits
         rw [HF1'.out,HF2'.out,f3_no HM.out]
         rfl)
        go_wp2_with fail
        go_ret
        exact ⟨(by rw [HE.out];rfl),HW.out⟩
       ·have HK2:=hid (show M.f3 (h.parts.take (k+1))=true by
         rw [HS.out,HK.out,Bool.true_and,Bool.not_eq_true',Bool.and_eq_false_iff,beq_eq_false_iff_ne,beq_eq_false_iff_ne]
         omega)
        have H0:=hid h0
        clear h0
        go_wp2_with fail
        all_goals first
         |(go_round
           case rel=>exact ⟨k+1,(by go_num),hkn,HK2⟩
           case measure=>simp [RowKit.intOf];omega)
         |(exfalso
           rename_i hp0 hq0 _
           exact H0.out ⟨hp0,beq_iff_eq.1 hq0⟩)
      ·obtain rfl:k=n:=by omega
       have HE:=hid (show M.fits h=M.f4 h by
        unfold M.fits
        have:=HK.out
        rw [List.take_of_length_le (by rw [HN.out];exact Nat.le_refl _)] at this
        rw [HF1'.out,HF2'.out,this]
        rfl)
       go_wp2_with fail
       all_goals
        go_ret
        refine ⟨congrArg (fun b=>Ending.returned (Value.bool b)) ?_,HW.out⟩
        rw [HE.out,Bool.eq_iff_iff,HF4.out]
        simp [*]
    case false=>
     have HE:=hid (show M.fits h=false by
      unfold M.fits
      rw [HF1'.out,hf2]
      rfl)
     clear hf2
     rw [show (!false)=true from rfl]
     go_wp2
     go_ret
     exact ⟨(by rw [HE.out];rfl),HW.out⟩
  case false=>
   have HE:=hid (show M.fits h=false by
    unfold M.fits
    rw [hf1]
    rfl)
   clear hf1
   rw [show (!false)=true from rfl]
   go_wp2
   go_ret
   exact ⟨(by rw [HE.out];rfl),HW.out⟩
end Go.Proofs.YtgbgngdakkiclaaGreatDoor.Hd

/-! KhHdInts -/
namespace Go.Proofs.YtgbgngdakkiclaaGreatDoor.Hd
open Go.RowKit Go.Lib
def icells (zs:List Int):List Value:=zs.map (Value.int .i64)
theorem icells_len (zs:List Int):(icells zs).length=zs.length:=by simp [icells]
theorem icells_app (a b:List Int):icells (a++b)=icells a++icells b:=by simp [icells]
theorem icells_one (zs:List Int): ∀ v∈icells zs,v.oneCell'=true:=by
 intro v hv
 obtain ⟨z,_,rfl⟩:=List.mem_map.1 hv
 rfl
theorem icells_at {zs:List Int} {j:Nat} {z:Int} (h:zs[j]?=some z):(icells zs)[j]?=some (.int .i64 z):=by simp [icells,h]
theorem i64_parts:(Tryz.prog.info? 3).map (fun i=>(i.zero,i.size,i.bytes))=some (some (.int .i64 0),1,8):=by kernel_rfl
def OwnI (w:World) (base:Nat) (v:Value) (zs:List Int):Prop:=w.ownsRow base 3 1 v zs.length (icells zs)
def Apt (v u:Value):Prop:=u.ownBlock=none∨u.ownBlock≠v.ownBlock
theorem Apt.swap {v u:Value} (h:Apt v u):Apt u v:=by
 unfold Apt at*
 cases hv:v.ownBlock with
 |none=>exact .inl rfl
 |some k=>
  rcases h with h|h
  ·exact .inr (by rw [h];exact fun e=>nomatch e)
  ·exact .inr (fun e=>h (by rw [←e,hv]))
theorem OwnI.keep {w w':World} {base:Nat} {v u:Value} {zs:List Int} (h:OwnI w base u zs) (hg:w.grownBy w' v.ownBlock) (hn:Apt v u):OwnI w' base u zs:=World.ownsRow.kept h hg hn
theorem OwnI.alloc {w:World} {base:Nat} {u:Value} {zs:List Int} (h:OwnI w base u zs) (o:Obj):OwnI (w.alloc o) base u zs:=World.ownsRow.alloc h o
theorem OwnI.below {w w':World} {base:Nat} {u:Value} {zs:List Int} (h:OwnI w base u zs) (hb:Below w.heap.size w w'):OwnI w' base u zs:=
 World.ownsRow.kept (row:=none) h ⟨hb.os,hb.tape,hb.output,hb.size,fun k hk _=>hb.block k hk⟩ (by
  cases hv:u.ownBlock with
  |none=>exact .inl rfl
  |some g=>exact .inr (fun e=>nomatch e))
theorem OwnI.but {w w':World} {g base:Nat} {u:Value} {zs:List Int} (h:OwnI w base u zs) (hb:But g w w') (hg:g<base):OwnI w' base u zs:=
 World.ownsRow.kept (row:=some g) h ⟨hb.os,hb.tape,hb.output,hb.size,fun k hk hn=>hb.block k hk (fun e=>hn (by rw [e]))⟩ (by
  cases hv:u.ownBlock with
  |none=>exact .inl rfl
  |some k=>exact .inr (fun e=>by injection e with e;have:=(World.ownsRow.lt h k hv).1;omega))
theorem Apt.next {w:World} {base:Nat} {v v' u:Value} {zs:List Int} (hu:OwnI w base u zs) (ho:v'.ownBlock=v.ownBlock∨v'.ownBlock=some (w.heap.size+1)) (hn:Apt v u):Apt v' u:=by
 unfold Apt
 rcases ho with ho|ho
 ·rw [ho];exact hn
 ·cases hv:u.ownBlock with
  |none=>exact .inl rfl
  |some k=>exact .inr (fun e=>by rw [ho] at e;injection e with e;have:=(World.ownsRow.lt hu k hv).2;omega)
theorem OwnI.form {w:World} {base:Nat} {v:Value} {zs:List Int} (h:OwnI w base v zs) (hl:0<zs.length): ∃ g c,v= .slice (some ⟨g,0,none⟩) zs.length c∧g<w.heap.size∧base≤g∧ ∀ j z,zs[j]?=some z→w.cell? ⟨g,j,none⟩=some (.int .i64 z):=by
 obtain ⟨g,cap,rfl,hb,hlt⟩:=World.ownsRow.form h hl
 refine ⟨g,cap,rfl,hlt,hb,fun j z hj=> ?_⟩
 have hj1:j<zs.length:=(List.getElem?_eq_some_iff.1 hj).1
 rw [World.ownsRow.cellAt h j (by omega)]
 exact icells_at hj
theorem OwnI.slice {w:World} {base:Nat} {v:Value} {zs:List Int} (h:OwnI w base v zs): ∃ A c,v= .slice A zs.length c:=by
 rcases h.2 with ⟨rfl,e⟩|⟨g,cap,cur,rfl,_⟩
 ·exact ⟨none,0,by rw [e]⟩
 ·exact ⟨_,cap,rfl⟩
theorem OwnI.lit {w:World} {base:Nat} (g:Nat) (zs:List Int) (cs:Array Value) (hcs:cs=(icells zs).toArray) (hb:w.heap[g]?=some (.cells cs 3 (0,0))) (hg:base≤g) (hl:zs.length≤1048576):OwnI w base (.slice (some ⟨g,0,none⟩) zs.length zs.length) zs:=by
 refine ⟨by rw [icells_len,Nat.mul_one], .inr ⟨g,zs.length,cs,rfl,hg,hb,Nat.le_refl _,by unfold maxLen;omega, ?_⟩⟩
 subst hcs
 exact ⟨by simp [icells],by rw [Nat.mul_one];exact List.take_of_length_le (by simp [icells])⟩
theorem wp_appI {W:World} {o:Oper} {a:Act} {K:Act→World→Prop} {Q:Exit→Act→World→Prop} (s x:Operand)
  (ho:o.op= .call { callee:= .builtin .append,args:= #[s,x],argTypes:= #[130,130] })
  (base:Nat) (v:Value) (zs news:List Int) (cs:Array Value) (hcs:cs=(icells news).toArray) (m:Nat) (hm:m=news.length) (hs:a.eval s=v) (hown:OwnI W base v zs) (hbase:base≤W.heap.size)
  (hx:a.eval x= .slice (some ⟨W.heap.size,0,none⟩) m m) (hl:zs.length+news.length≤1048576)
  (h: ∀ v' w',Hid (OwnI w' base v' (zs++news))→Hid ((W.alloc (.cells cs 3)).grownBy w' v.ownBlock)→Hid (v'.ownBlock=v.ownBlock∨v'.ownBlock=some (W.heap.size+1))→K (a.put o.dst v') w'):
  Oper.wp Tryz.prog o a (W.alloc (.cells cs 3)) K Q:=by
 subst hcs hm
 obtain ⟨i0,hi,hz0,hz1,hz2⟩:=info_parts i64_parts
 refine Ap.wp_append_any _ s x 130 ho base 3 i0 (.int .i64 0) 1 8 Tryz.underlying130 hi hz0 hz1 hz2 rfl (by decide) v zs.length (icells zs) hs (OwnI.alloc hown _) (W.heap.size+1) (some ⟨W.heap.size,0,none⟩) news.length news.length (icells news) hx ?_ (icells_one _) (by unfold maxLen;omega) (by omega) (by simp;omega) ?_
 ·refine ⟨by rw [icells_len,Nat.mul_one],fun _=>⟨⟨W.heap.size,0,none⟩,rfl,Nat.lt_succ_self _,fun j u hj=> ?_⟩⟩
  have e:(⟨W.heap.size,0,none⟩:Addr).add j=⟨W.heap.size,j,none⟩:=by
   unfold Addr.add
   split
   ·rename_i h0;subst h0;rfl
   ·simp
  rw [e,cell_of_row _ _ j _ _ (0,0) (heap_alloc_new W _)]
  simpa using hj
 ·intro v' w' h1 h2 h3
  refine h v' w' (hid ?_) (hid h2) (hid (by rw [World.size_alloc] at h3;exact h3))
  unfold OwnI
  rw [List.length_append,icells_app]
  exact h1
theorem wpList_appI {W:World} {ops:Array Oper} {rest:List Oper} {o:Oper} {a:Act} {Q:Exit→Act→World→Prop} (hgd:o.guard=none) (s x:Operand)
  (ho:o.op= .call { callee:= .builtin .append,args:= #[s,x],argTypes:= #[130,130] })
  (base:Nat) (v:Value) (zs news:List Int) (cs:Array Value) (hcs:cs=(icells news).toArray) (m:Nat) (hm:m=news.length) (hs:a.eval s=v) (hown:OwnI W base v zs) (hbase:base≤W.heap.size)
  (hx:a.eval x= .slice (some ⟨W.heap.size,0,none⟩) m m) (hl:zs.length+news.length≤1048576)
  (h: ∀ v' w',Hid (OwnI w' base v' (zs++news))→Hid ((W.alloc (.cells cs 3)).grownBy w' v.ownBlock)→Hid (v'.ownBlock=v.ownBlock∨v'.ownBlock=some (W.heap.size+1))→wpList Tryz.prog ops Q rest (a.put o.dst v') w'):
  wpList Tryz.prog ops Q (o::rest) a (W.alloc (.cells cs 3)):=by
 subst hcs hm
 obtain ⟨i0,hi,hz0,hz1,hz2⟩:=info_parts i64_parts
 refine Ap.wpList_append_any _ hgd s x 130 ho base 3 i0 (.int .i64 0) 1 8 Tryz.underlying130 hi hz0 hz1 hz2 rfl (by decide) v zs.length (icells zs) hs (OwnI.alloc hown _) (W.heap.size+1) (some ⟨W.heap.size,0,none⟩) news.length news.length (icells news) hx ?_ (icells_one _) (by unfold maxLen;omega) (by omega) (by simp;omega) ?_
 ·refine ⟨by rw [icells_len,Nat.mul_one],fun _=>⟨⟨W.heap.size,0,none⟩,rfl,Nat.lt_succ_self _,fun j u hj=> ?_⟩⟩
  have e:(⟨W.heap.size,0,none⟩:Addr).add j=⟨W.heap.size,j,none⟩:=by
   unfold Addr.add
   split
   ·rename_i h0;subst h0;rfl
   ·simp
  rw [e,cell_of_row _ _ j _ _ (0,0) (heap_alloc_new W _)]
  simpa using hj
 ·intro v' w' h1 h2 h3
  refine h v' w' (hid ?_) (hid h2) (hid (by rw [World.size_alloc] at h3;exact h3))
  unfold OwnI
  rw [List.length_append,icells_app]
  exact h1
end Go.Proofs.YtgbgngdakkiclaaGreatDoor.Hd

/-! KhHdLayX -/
namespace Go.Proofs.YtgbgngdakkiclaaGreatDoor.Hd
open Go.RowKit Go.Lib
structure BX (w:World) (g:Nat) (zs:List Int):Prop where
 len:zs.length=512
 bd: ∀ z∈zs,0≤z∧z≤255
 arr:Arr w g 5 zs
section
variable {w w':World} {g:Nat} {zs:List Int}
theorem BX.b512 (h:BX w g zs):B512 w g:=⟨zs,h.len,h.bd,h.arr⟩
theorem BX.lt (h:BX w g zs):g<w.heap.size:=h.arr.lt
theorem BX.of_block (h:BX w g zs) (e:w'.heap[g]?=w.heap[g]?):BX w' g zs:=⟨h.len,h.bd,h.arr.of_block e⟩
theorem BX.below {B:Nat} (h:BX w g zs) (hb:Below B w w') (hg:g<B):BX w' g zs:=h.of_block (hb.block g hg)
theorem BX.later (h:BX w g zs) (hb:Below w.heap.size w w'):BX w' g zs:=h.below hb h.lt
theorem BX.drew (h:BX w g zs):BX w.drew g zs:=⟨h.len,h.bd,h.arr⟩
theorem BX.set (h:BX w g zs) (i:Nat) {v:Int} (hv:0≤v∧v≤255):BX (w.setCell ⟨g,i,none⟩ (.int .u8 v)) g (zs.set i v):=by
 refine ⟨by rw [List.length_set];exact h.len,fun z hz=> ?_,h.arr.set i v⟩
 rcases List.mem_or_eq_of_mem_set hz with h'|h'
 ·exact h.bd z h'
 ·subst h';exact hv
theorem BX.at_ (h:BX w g zs) {i:Nat} (hi:i<512): ∃ z:Int,w.cell? ⟨g,i,none⟩=some (.int .u8 z)∧w.frozen? ⟨g,i,none⟩=false:=h.b512.at_ hi
theorem BX.rd (h:BX w g zs) {B:Nat} (hB:g<B):Rd w B (some ⟨g,0,none⟩) 512 zs:=by
 have:=h.arr.rd h.bd hB
 rwa [h.len] at this
end
theorem BX.new (w:World):BX (w.alloc (.cells (bcells (nils 512)).toArray 5)) w.heap.size (nils 512):=⟨nils_len 512,nils_bd 512,Arr.new w 5 (nils 512)⟩
theorem splice_step {zs ys:List Int} {a k:Nat} {z:Int} (hz:zs.length=512) (hk:ys[k]?=some z) (ha:a+k<512):(splice zs a (ys.take k)).set (a+k) z=splice zs a (ys.take (k+1)):=by
 obtain ⟨hkl,hkz⟩:=List.getElem?_eq_some_iff.1 hk
 have l1:(ys.take k).length=k:=by rw [List.length_take];omega
 have l2:(ys.take (k+1)).length=k+1:=by rw [List.length_take];omega
 apply List.ext_getElem?
 intro i
 rw [List.getElem?_set]
 by_cases h:a+k=i
 ·subst h
  have e2:(splice zs a (ys.take (k+1)))[a+k]?=some z:=by
   rw [M.splice_in (i:=a+k) (f:=ys.take (k+1)) (by omega) (by omega) (by omega),List.getElem?_take,if_pos (by omega),show a+k - a=k by omega,hk]
  rw [if_pos rfl,e2,if_pos (by rw [length_splice _ _ _ (by omega)];omega)]
 ·rw [if_neg h]
  by_cases h1:a≤i∧i<a+k
  ·rw [M.splice_in (by omega) h1.1 (by omega),M.splice_in (by omega) h1.1 (by omega),List.getElem?_take,List.getElem?_take,if_pos (by omega),if_pos (by omega)]
  ·rw [M.splice_get (by omega) (by omega),M.splice_get (by omega) (by omega)]
theorem splice_nil (zs:List Int) (a:Nat):splice zs a (([]:List Int))=zs:=by
 unfold splice
 simp
set_option maxRecDepth 100000 in
set_option maxHeartbeats 1000000 in
theorem layX_any (g a:Nat) (A:Option Addr) (n c:Nat) (zs ys:List Int) (w:World) (hb:BX w g zs) (hf:Rd w w.heap.size A n ys) (hne: ∀ b off,A=some ⟨b,off,none⟩→b≠g) (hn:a+n≤512):
  Calls Tryz.prog 62 #[.slice (some ⟨g,0,none⟩) 512 512, .int .i64 a, .slice A n c] w fun e w'=>e= .returned (.slice (some ⟨g,0,none⟩) 512 512)∧BX w' g (splice zs a ys)∧But g w w':=by
 have HB:=hid hb
 have HF:=hid hf
 have HNE:=hid hne
 have HL:=hid hb.len
 have HFL:=hid hf.len
 clear hb hf hne
 go_enter Tryz.func62,Tryz.ntmps62
 go_wp2
 go_loopw [7] (fun i wr=> ∃ k:Nat,i= .int .i64 k∧k≤n∧Hid (BX wr g (splice zs a (ys.take k)))∧Hid (But g w wr)) (fun i _=>n - (RowKit.intOf i).toNat)
 case atStart=>exact ⟨0,rfl,Nat.zero_le _,hid (by rw [List.take_zero,splice_nil];exact HB.out),hid (But.refl _ _)⟩
 case round=>
  clear HB
  obtain ⟨k,rfl,hk,HB,HW⟩:=hrel
  by_cases hlt:k<n
  ·obtain ⟨b,off,rfl,hbw,hc⟩:=HF.out.2.2 (by omega)
   have hl:=HFL.out
   obtain ⟨z,hz⟩: ∃ z,ys[k]?=some z:=⟨_,List.getElem?_eq_getElem (by omega)⟩
   have hcz:wr.cell? ⟨b,off+k,none⟩=some (.int .u8 z):=by
    rw [World.cell?_of_block (HW.out.block b hbw (HNE.out _ _ rfl))]
    exact hc k z hz
   have hzb:=HF.out.2.1 z (List.mem_of_getElem? hz)
   have hak:a+k<512:=by omega
   obtain ⟨y,hcy,hfy⟩:=HB.out.at_ hak
   have HZ:=hid hzb
   have HQ:=hid (⟨HB.out.set (a+k) hzb,HW.out.trans (But.set g wr (a+k) (.int .u8 z))⟩:_∧_)
   rw [splice_step HL.out hz hak] at HQ
   clear hc hz hzb HB hl hbw
   go_wp2
   go_roundw
   case rel=>exact ⟨k+1,(by go_num),hlt,hid HQ.out.1,hid HQ.out.2⟩
   case measure=>simp [RowKit.intOf];omega
  ·obtain rfl:k=n:=by omega
   have HE:=hid (show BX wr g (splice zs a ys) by
    have:=HB.out
    rwa [List.take_of_length_le (by rw [HFL.out];exact Nat.le_refl _)] at this)
   clear HB
   go_wp2
   go_ret
   exact ⟨rfl,HE.out,HW.out⟩
end Go.Proofs.YtgbgngdakkiclaaGreatDoor.Hd

/-! KhHdNumsR -/
namespace Go.Proofs.YtgbgngdakkiclaaGreatDoor.Hd
open Go.RowKit Go.Lib
def fL (x:Int × Nat × Nat):Int:=x.1
def fT (x:Int × Nat × Nat):Int:=((x.2.1:Nat):Int)
def fD (x:Int × Nat × Nat):Int:=((x.2.2:Nat):Int)
def FitN (x:Int × Nat × Nat):Prop:=(-9223372036854775808≤x.1∧x.1≤9223372036854775807)∧x.2.1+x.2.2≤512∧x.2.2≤12
structure NS (w W:World) (h:M.Hdr) (pv vl va vd:Value) (N:Nat) (q:List (Int × Nat × Nat)):Prop where
 l:OwnI W (w.heap.size+1) vl (q.map fL)
 a:OwnI W (w.heap.size+1) va (q.map fT)
 d:OwnI W (w.heap.size+1) vd (q.map fD)
 la:Apt vl va
 ld:Apt vl vd
 ad:Apt va vd
 fit: ∀ x∈q,FitN x
 few:q.length≤N
 some_:0<q.length
 box:HB W w.heap.size h pv
 below:Below w.heap.size w W
theorem NS.base {w W:World} {h:M.Hdr} {pv vl va vd:Value} {N:Nat} {q:List (Int × Nat × Nat)} (s:NS w W h pv vl va vd N q):w.heap.size+1≤W.heap.size:=HB.lt s.box
theorem NS.mono {w W:World} {h:M.Hdr} {pv vl va vd:Value} {N N':Nat} {q:List (Int × Nat × Nat)} (s:NS w W h pv vl va vd N q) (hN:N≤N'):NS w W h pv vl va vd N' q:= { s with few:=Nat.le_trans s.few hN }
theorem NS.drew {w W:World} {h:M.Hdr} {pv vl va vd:Value} {N:Nat} {q:List (Int × Nat × Nat)} (s:NS w W h pv vl va vd N q):NS w W.drew h pv vl va vd N q:=
 ⟨s.l,s.a,s.d,s.la,s.ld,s.ad,s.fit,s.few,s.some_,s.box,⟨s.below.os,s.below.tape,s.below.output,s.below.size,s.below.block⟩⟩
theorem grown_low {B:Nat} {w w':World} {base:Nat} {v:Value} {zs:List Int} (hg:w.grownBy w' v.ownBlock) (ho:OwnI w base v zs) (hB:B≤base) (hW:B≤w.heap.size):Below B w w':=
 ⟨hg.os,hg.tape,hg.output,hg.size,fun k hk=>hg.block k (by omega) (fun e=>by have:=(World.ownsRow.lt ho k e.symm).1;omega)⟩
theorem below_al {B:Nat} {W:World} (o:Obj) (h:B≤W.heap.size):Below B W (W.alloc o):=(Below.refl _ _).alloc h o
section
variable {w W w1 w2 w3:World} {h:M.Hdr} {pv vl va vd v1 v2 v3:Value} {N:Nat} {q:List (Int × Nat × Nat)} {cs1 cs2 cs3:Array Value} {z1 z2 z3:List Int}
theorem NS.a1 (s:NS w W h pv vl va vd N q) (g1:(W.alloc (.cells cs1 3)).grownBy w1 vl.ownBlock):OwnI w1 (w.heap.size+1) va (q.map fT):=(s.a.alloc _).keep g1 s.la
theorem NS.b1 (s:NS w W h pv vl va vd N q) (g1:(W.alloc (.cells cs1 3)).grownBy w1 vl.ownBlock):w.heap.size+1≤w1.heap.size:=Nat.le_trans s.base (Nat.le_trans (by simp) g1.size)
theorem NS.d2 (s:NS w W h pv vl va vd N q) (g1:(W.alloc (.cells cs1 3)).grownBy w1 vl.ownBlock) (g2:(w1.alloc (.cells cs2 3)).grownBy w2 va.ownBlock):OwnI w2 (w.heap.size+1) vd (q.map fD):=
 (((s.d.alloc _).keep g1 s.ld).alloc _).keep g2 s.ad
theorem NS.b2 (s:NS w W h pv vl va vd N q) (g1:(W.alloc (.cells cs1 3)).grownBy w1 vl.ownBlock) (g2:(w1.alloc (.cells cs2 3)).grownBy w2 va.ownBlock):w.heap.size+1≤w2.heap.size:=Nat.le_trans (s.b1 g1) (Nat.le_trans (by simp) g2.size)
theorem NS.len (s:NS w W h pv vl va vd N q) (f:Int × Nat × Nat→Int) {m:Nat} (hm:N+m≤1048576):(q.map f).length+m≤1048576:=by rw [List.length_map];have:=s.few;omega
theorem NS.more (s:NS w W h pv vl va vd N q) (news:List (Int × Nat × Nat)) (e1:z1=news.map fL) (e2:z2=news.map fT) (e3:z3=news.map fD)
  (o1:OwnI w1 (w.heap.size+1) v1 (q.map fL++z1)) (g1:(W.alloc (.cells cs1 3)).grownBy w1 vl.ownBlock) (c1:v1.ownBlock=vl.ownBlock∨v1.ownBlock=some (W.heap.size+1))
  (o2:OwnI w2 (w.heap.size+1) v2 (q.map fT++z2)) (g2:(w1.alloc (.cells cs2 3)).grownBy w2 va.ownBlock) (c2:v2.ownBlock=va.ownBlock∨v2.ownBlock=some (w1.heap.size+1))
  (o3:OwnI w3 (w.heap.size+1) v3 (q.map fD++z3)) (g3:(w2.alloc (.cells cs3 3)).grownBy w3 vd.ownBlock) (c3:v3.ownBlock=vd.ownBlock∨v3.ownBlock=some (w2.heap.size+1))
  (hf: ∀ x∈news,FitN x):NS w w3 h pv v1 v2 v3 (N+news.length) (q++news):=by
 subst e1 e2 e3
 have la1:Apt v1 va:=Apt.next s.a c1 s.la
 have ld1:Apt v1 vd:=Apt.next s.d c1 s.ld
 have la2:Apt v2 v1:=Apt.next o1 c2 la1.swap
 have ad2:Apt v2 vd:=Apt.next (((s.d.alloc _).keep g1 s.ld)) c2 s.ad
 have o1':OwnI w2 (w.heap.size+1) v1 (q.map fL++news.map fL):=(o1.alloc _).keep g2 la1.swap
 have ld3:Apt v3 v1:=Apt.next o1' c3 ld1.swap
 have ad3:Apt v3 v2:=Apt.next o2 c3 ad2.swap
 have bs:=s.base
 have w1s:=s.b1 g1
 have w2s:w.heap.size+1≤w2.heap.size:=Nat.le_trans w1s (Nat.le_trans (by simp) g2.size)
 have bl:Below (w.heap.size+1) W w3:=
  (((((below_al _ bs).trans (grown_low g1 (s.l.alloc _) (Nat.le_refl _) (by simp;omega))).trans (below_al _ w1s)).trans (grown_low g2 ((s.a1 g1).alloc _) (Nat.le_refl _) (by simp;omega))).trans (below_al _ w2s)).trans (grown_low g3 ((s.d2 g1 g2).alloc _) (Nat.le_refl _) (by simp;omega))
 refine ⟨?_, ?_, ?_,la2.swap,ld3.swap,ad3.swap, ?_, ?_, ?_,HB.below s.box bl (Nat.lt_succ_self _),s.below.trans (bl.mono (Nat.le_succ _))⟩
 ·rw [List.map_append];exact (o1'.alloc _).keep g3 ld1.swap
 ·rw [List.map_append];exact (o2.alloc _).keep g3 ad2.swap
 ·rw [List.map_append];exact o3
 ·intro x hx
  rcases List.mem_append.1 hx with hx|hx
  ·exact s.fit x hx
  ·exact hf x hx
 ·rw [List.length_append];have:=s.few;omega
 ·rw [List.length_append];have:=s.some_;omega
end
theorem NS.forms {w W:World} {h:M.Hdr} {pv vl va vd:Value} {N:Nat} {q:List (Int × Nat × Nat)} (s:NS w W h pv vl va vd N q) (g:Nat) (hg:g<w.heap.size):
  ∃ gl cl ga ca gd cd,vl= .slice (some ⟨gl,0,none⟩) q.length cl∧va= .slice (some ⟨ga,0,none⟩) q.length ca∧vd= .slice (some ⟨gd,0,none⟩) q.length cd∧
    Hid (∀ V,But g W V→ ∀ (j:Nat) (x:Int × Nat × Nat),q[j]?=some x→V.cell? ⟨gl,j,none⟩=some (.int .i64 x.1)∧V.cell? ⟨ga,j,none⟩=some (.int .i64 ((x.2.1:Nat):Int))∧V.cell? ⟨gd,j,none⟩=some (.int .i64 ((x.2.2:Nat):Int))):=by
 obtain ⟨gl,cl,e1,l1,b1,h1⟩:=s.l.form (by rw [List.length_map];exact s.some_)
 obtain ⟨ga,ca,e2,l2,b2,h2⟩:=s.a.form (by rw [List.length_map];exact s.some_)
 obtain ⟨gd,cd,e3,l3,b3,h3⟩:=s.d.form (by rw [List.length_map];exact s.some_)
 rw [List.length_map] at e1 e2 e3
 refine ⟨gl,cl,ga,ca,gd,cd,e1,e2,e3,hid fun V hV j x hx=>⟨?_, ?_, ?_⟩⟩
 ·rw [World.cell?_of_block (hV.block gl l1 (by omega))];exact h1 j _ (by rw [List.getElem?_map,hx];rfl)
 ·rw [World.cell?_of_block (hV.block ga l2 (by omega))];exact h2 j _ (by rw [List.getElem?_map,hx];rfl)
 ·rw [World.cell?_of_block (hV.block gd l3 (by omega))];exact h3 j _ (by rw [List.getElem?_map,hx];rfl)
end Go.Proofs.YtgbgngdakkiclaaGreatDoor.Hd
