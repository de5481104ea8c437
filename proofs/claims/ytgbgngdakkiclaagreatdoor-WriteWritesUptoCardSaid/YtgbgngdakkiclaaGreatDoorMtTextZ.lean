/-
  Texts of one chapter, merged.
-/
import Derived.Test.YtgbgngdakkiclaaGreatDoorMtMathZ
import Derived.Test.YtgbgngdakkiclaaGreatDoorKS
import Derived.Test.YtgbgngdakkiclaaGreatDoorKX
import Derived.Lib.Hide
import Derived.Laws.Cover1
import Derived.Lib.MinMax
import Derived.Test.YtgbgngdakkiclaaGreatDoorShelf
import Derived.Deep.CutRange
import Derived.Deep.QuietTactic
set_option linter.unusedVariables false
set_option linter.unusedSimpArgs false
namespace Go.Proofs.YtgbgngdakkiclaaGreatDoor
open Go.RowKit Go.Lib
open Px (R2 tl)
def mcells (m:M.Met) (pv ev:Value):Array Value:=
 #[.string m.name, .string m.link, .int .u8 m.kind, .int .i64 m.mode, .int .i64 m.uid, .int .i64 m.gid, .string m.user, .string m.group, .int .i64 m.sec, .int .i64 m.nan, .int .i64 m.major, .int .i64 m.minor, .int .i64 m.size, .int .i64 m.real, .bool m.holes,pv,ev]
def hcells (h:M.Hdr) (pv:Value):Array Value:=
 #[.string h.name, .int .i64 h.mode, .int .i64 h.uid, .int .i64 h.gid, .int .i64 h.size, .int .i64 h.mtime, .int .u8 h.kind, .string h.link, .int .i64 h.way, .string h.user, .string h.group, .int .i64 h.major, .int .i64 h.minor, .string h.pre,pv, .bool h.more, .int .i64 h.real]
structure MIn (w:World) (m:M.Met) (pv ev:Value):Prop where
 parts: ∃ A c,pv= .slice A m.parts.length c∧Sp.RdP w w.heap.size A m.parts.length m.parts
 extra: ∃ A c,ev= .slice A m.extra.length c∧Px.RdR w w.heap.size A m.extra
 nparts:m.parts.length≤1048576
 nextra:m.extra.length≤500000
 i64s:Sp.M.i64s m.parts
 fits: ∀ r∈m.extra,r.1.size≤1048576∧r.2.size≤1048576
 kind:0≤m.kind∧m.kind≤255
 texts:m.name.size≤1048576∧m.link.size≤1048576∧m.user.size≤1048576∧m.group.size≤1048576
 ints:(-9223372036854775808≤m.mode∧m.mode≤9223372036854775807)∧(-9223372036854775808≤m.uid∧m.uid≤9223372036854775807)∧(-9223372036854775808≤m.gid∧m.gid≤9223372036854775807)∧
  (-9223372036854775808≤m.sec∧m.sec≤9223372036854775807)∧(-9223372036854775808≤m.nan∧m.nan≤9223372036854775807)∧(-9223372036854775808≤m.major∧m.major≤9223372036854775807)∧
  (-9223372036854775808≤m.minor∧m.minor≤9223372036854775807)∧(-9223372036854775808≤m.size∧m.size≤9223372036854775807)∧(-9223372036854775808≤m.real∧m.real≤9223372036854775807)
theorem MIn.later {w w':World} {m:M.Met} {pv ev:Value} (h:MIn w m pv ev) (hb:Below w.heap.size w w'):MIn w' m pv ev:=by
 obtain ⟨⟨A,c,h1,h2⟩,⟨A',c',h3,h4⟩,h5,h6,h7,h8,h9,h10,h11⟩:=h
 exact ⟨⟨A,c,h1,(h2.below hb).more hb.size⟩,⟨A',c',h3,(h4.below hb).more hb.size⟩,h5,h6,h7,h8,h9,h10,h11⟩
end Go.Proofs.YtgbgngdakkiclaaGreatDoor

namespace Go.Proofs.YtgbgngdakkiclaaGreatDoor
open Go.RowKit Go.Lib
open Px (R2 tl)
theorem within_any (n a b:Int) (w:World):Calls Tryz.prog 81 #[.int .i64 n, .int .i64 a, .int .i64 b] w fun e w'=>e= .returned (.bool (M.within n a b))∧w=w':=by
 unfold M.within
 have hg:decide (n≥a)=decide (a≤n):=rfl
 cases h:decide (a≤n) with
 |true=>
  go_enter Tryz.func81,Tryz.ntmps81
  go_wp2
  go_ret
  exact ⟨rfl,rfl⟩
 |false=>
  go_enter Tryz.func81,Tryz.ntmps81
  go_wp2
  go_ret
  exact ⟨rfl,rfl⟩
theorem isLink_any (k:Int) (w:World):Calls Tryz.prog 115 #[.int .u8 k] w fun e w'=>e= .returned (.bool (M.isLink k))∧w=w':=by
 unfold M.isLink
 cases h:k==49 with
 |true=>
  go_enter Tryz.func115,Tryz.ntmps115
  go_wp2
  go_ret
  exact ⟨rfl,rfl⟩
 |false=>
  go_enter Tryz.func115,Tryz.ntmps115
  go_wp2
  go_ret
  exact ⟨rfl,rfl⟩
theorem isDevice_any (k:Int) (w:World):Calls Tryz.prog 117 #[.int .u8 k] w fun e w'=>e= .returned (.bool (M.isDev k))∧w=w':=by
 unfold M.isDev
 cases h:k==51 with
 |true=>
  go_enter Tryz.func117,Tryz.ntmps117
  go_wp2
  go_ret
  exact ⟨rfl,rfl⟩
 |false=>
  go_enter Tryz.func117,Tryz.ntmps117
  go_wp2
  go_ret
  exact ⟨rfl,rfl⟩
theorem isEmpty_any (a b:Int) (w:World):Calls Tryz.prog 121 #[.agg #[.int .i64 a, .int .i64 b]] w fun e w'=>e= .returned (.bool (b==0))∧Below w.heap.size w w':=by
 go_enter Tryz.func121,Tryz.ntmps121
 go_wp2
 go_ret
 exact ⟨rfl,(Below.refl _ w).alloc (Nat.le_refl _) _⟩
end Go.Proofs.YtgbgngdakkiclaaGreatDoor

namespace Go.Proofs.YtgbgngdakkiclaaGreatDoor
open Go.RowKit Go.Lib
open Px (R2 tl)
theorem tl_inj {a b:ByteArray} (h:tl a=tl b):a=b:=Px.tl_inj h
theorem str_eq (a b:ByteArray):(a.toList==b.toList)=decide (tl a=tl b):=by
 rw [ByteArray.toList_eq,ByteArray.toList_eq]
 by_cases h:a.data.toList=b.data.toList
 ·rw [h];simp [tl,Px.tl,h]
 ·have h2:(a.data.toList==b.data.toList)=false:=by simpa using h
  rw [h2,decide_eq_false (show ¬ tl a=tl b from h)]
theorem beq_dec (x y:List UInt8):(x==y)=decide (x=y):=by
 by_cases h:x=y
 ·simp [h]
 ·simp [h]
theorem isKey_or (k:ByteArray):M.isKey (tl k)=((k.toList== [112,97,116,104])||(k.toList== [108,105,110,107,112,97,116,104])||(k.toList== [117,110,97,109,101])||(k.toList== [103,110,97,109,101])||(k.toList== [117,105,100])||(k.toList== [103,105,100])||(k.toList== [115,105,122,101])||(k.toList== [109,116,105,109,101])||(k.toList== [71,78,85,46,115,112,97,114,115,101,46,109,97,112])||(k.toList== [71,78,85,46,115,112,97,114,115,101,46,115,105,122,101])):=by
 unfold M.isKey M.keys
 rw [ByteArray.toList_eq]
 show decide (tl k∈ [[112,97,116,104], [108,105,110,107,112,97,116,104], [117,110,97,109,101], [103,110,97,109,101], [117,105,100], [103,105,100], [115,105,122,101], [109,116,105,109,101], [71,78,85,46,115,112,97,114,115,101,46,109,97,112], [71,78,85,46,115,112,97,114,115,101,46,115,105,122,101]])=_
 have e:k.data.toList=tl k:=rfl
 rw [e]
 generalize tl k=x
 simp [Bool.or_assoc,beq_dec]
set_option maxRecDepth 100000 in
set_option maxHeartbeats 1000000 in
theorem isKnown_any (k v:ByteArray) (w:World):Calls Tryz.prog 119 #[.agg #[.string k, .string v]] w fun e w'=>e= .returned (.bool (M.isKey (tl k)))∧Below w.heap.size w w':=by
 have HK:=hid (isKey_or k)
 go_enter Tryz.func119,Tryz.ntmps119
 go_wp2
 all_goals first
  |(exfalso;simp_all;done)
  |(go_ret
    refine ⟨?_,(Below.refl _ w).alloc (Nat.le_refl _) _⟩
    rw [HK.out]
    simp [*])
theorem dec_ok {t:List UInt8} {v:Int} (h:Lib.atoiAll t= .ok v) (most:Int):M.dec t most=if M.within v 0 most=true∧Lib.itoa v=t then some v else none:=by
 unfold M.dec;rw [h]
theorem dec_err {t:List UInt8} (h: ∀ v,Lib.atoiAll t≠ .ok v) (most:Int):M.dec t most=none:=by
 unfold M.dec
 cases hv:Lib.atoiAll t with
 |ok v=>exact absurd hv (h v)
 |_=>rfl
set_option maxRecDepth 100000 in
set_option maxHeartbeats 1000000 in
theorem decimal_any (s:ByteArray) (hs:s.size≤1048576) (most:Int) (B:Nat) (w:World) (hB:B≤w.heap.size) (ht:Sp.EV B w):
  Calls Tryz.prog 128 #[.string s, .int .i64 most] w fun e w'=>e= .returned (Sp.numV (M.dec (tl s) most))∧Below w.heap.size w w':=by
 have HT:=hid ht
 clear ht
 go_enter Tryz.func128,Tryz.ntmps128
 go_wp2_with fail
 (with_reducible refine (Sp.atoi_any s hs B w HT.out).mono ?_)
 rintro e w1 ⟨v,ev,rfl,hb1,v0,v1,h⟩
 have HB1:=hid hb1
 have HT1:=hid (HT.out.on (hb1.mono hB))
 rcases h with ⟨ha,rfl⟩|⟨ha,⟨x,y,rfl⟩,_⟩
 ·have HN:=hid (dec_ok (t:=tl s) ha most)
  clear ha hb1
  cases hv:M.within v 0 most with
  |false=>
   have HN2:=hid (show M.dec (tl s) most=none by rw [HN.out,hv,if_neg (by simp)])
   have HW:=hid (within_any v 0 most w1)
   rw [hv] at HW
   clear hv
   go_wp2_with (go_at_call 81;(with_reducible refine HW.out.mono ?_);rintro e w2 ⟨rfl,rfl⟩)
   go_ret2
   exact ⟨Sp.ret_num HN2.out.symm,HB1.out⟩
  |true=>
   have HW:=hid (within_any v 0 most w1)
   rw [hv] at HW
   have HI:=hid (Sp.itoa_any v v0 v1 B w1 HT1.out)
   by_cases he:Lib.itoa v=tl s
   ·have HN2:=hid (show M.dec (tl s) most=some v by rw [HN.out,if_pos ⟨hv,he⟩])
    have es:=Sp.str_eq_yes he
    rw [es] at HI
    clear he es hv
    go_wp2_with (first|(go_at_call 81;(with_reducible refine HW.out.mono ?_);rintro e w2 ⟨rfl,rfl⟩)|(go_at_call 54;(with_reducible refine HI.out.mono ?_);rintro e w2 ⟨rfl,hb2⟩))
    go_ret2
    exact ⟨Sp.ret_num HN2.out.symm,HB1.out.trans (hb2.mono HB1.out.size)⟩
   ·have HN2:=hid (show M.dec (tl s) most=none by rw [HN.out,if_neg (by intro h;exact he h.2)])
    have HE:=hid he
    clear he hv
    generalize hx:(⟨(Lib.itoa v).toArray⟩:ByteArray)=x at HI
    have d3:(x.toList==s.toList)=false:=by
     rw [beq_eq_false_iff_ne,Sp.tl_eq,Sp.tl_eq,←hx];exact HE.out
    go_wp2_with (first|(go_at_call 81;(with_reducible refine HW.out.mono ?_);rintro e w2 ⟨rfl,rfl⟩)|(go_at_call 54;(with_reducible refine HI.out.mono ?_);rintro e w2 ⟨rfl,hb2⟩))
    go_ret2
    exact ⟨Sp.ret_num HN2.out.symm,HB1.out.trans (hb2.mono HB1.out.size)⟩
 ·have HN:=hid (dec_err (t:=tl s) ha most)
  clear ha hb1
  go_wp2
  go_ret2
  exact ⟨Sp.ret_num HN.out.symm,HB1.out⟩
end Go.Proofs.YtgbgngdakkiclaaGreatDoor

namespace Go.Proofs.YtgbgngdakkiclaaGreatDoor
open Go.RowKit Go.Lib
open Px (R2 tl)
def MB (w:World) (g:Nat) (m:M.Met) (pv ev:Value):Prop:=w.heap[g]?=some (.cells (mcells m pv ev) 35 (0,0))
section
variable {w w':World} {g:Nat} {m:M.Met} {pv ev:Value}
theorem MB.lt (hb:MB w g m pv ev):g<w.heap.size:=(Array.getElem?_eq_some_iff.1 hb).1
theorem MB.cell (hb:MB w g m pv ev) {i:Nat} {v:Value} (hv:(mcells m pv ev)[i]?=some v):w.cell? ⟨g,i,none⟩=some v:=by
 rw [cell_of_row w g i _ _ (0,0) hb];exact hv
theorem MB.of_block (hb:MB w g m pv ev) (e:w'.heap[g]?=w.heap[g]?):MB w' g m pv ev:=e.trans hb
theorem MB.below {B:Nat} (hb:MB w g m pv ev) (hw:Below B w w') (hB:g<B):MB w' g m pv ev:=hb.of_block (hw.block g hB)
theorem MB.new (w:World) (m:M.Met) (pv ev:Value):MB (w.alloc (.cells (mcells m pv ev) 35)) w.heap.size m pv ev:=heap_alloc_new w _
end
theorem ret_bool {a b:Bool} (h:a=b):Ending.returned (.bool a)= .returned (.bool b):=by rw [h]
theorem isText_any (s:ByteArray) (a b:Int) (w:World):Calls Tryz.prog 116 #[.string s, .int .i64 a, .int .i64 b] w fun e w'=>e= .returned (.bool (M.isText s a b))∧w=w':=by
 have HI:=hid (Px.indexByte_all (tl s))
 unfold M.isText M.noNul
 have HW:=hid (within_any (s.size:Int) a b w)
 cases hv:M.within (s.size:Int) a b with
 |false=>
  rw [hv] at HW
  clear hv
  go_enter Tryz.func116,Tryz.ntmps116
  go_wp2_with (go_at_call 81;(with_reducible refine HW.out.mono ?_);rintro e w2 ⟨rfl,rfl⟩)
  go_ret
  exact ⟨rfl,rfl⟩
 |true=>
  rw [hv] at HW
  clear hv
  rcases HI.out with ⟨h1,h2⟩|⟨h1,h2⟩
  ·rw [h2]
   have HX:=Lib.hid h1
   clear h1 h2 HI
   go_enter Tryz.func116,Tryz.ntmps116
   go_wp2_with (first|(go_at_call 81;(with_reducible refine HW.out.mono ?_);rintro e w2 ⟨rfl,rfl⟩)|(go_at_call 140;refine (Tryz.strings_IndexByte _ _ _).mono ?_;rintro e w' ⟨rfl,rfl⟩;rw [show Lib.indexByte s.data.toList (0:Int).toNat.toUInt8= -1 from HX.out]))
   go_ret
   exact ⟨rfl,rfl⟩
  ·rw [h2]
   have hd:decide (Lib.indexByte s.data.toList (0:Int).toNat.toUInt8<0)=false:=by rw [decide_eq_false_iff_not];show ¬ Lib.indexByte (tl s) 0<0;omega
   obtain ⟨z,hz⟩: ∃ z,Lib.indexByte s.data.toList (0:Int).toNat.toUInt8=z:=⟨_,rfl⟩
   rw [hz] at hd
   have HX:=Lib.hid hz
   clear h1 h2 HI hz
   go_enter Tryz.func116,Tryz.ntmps116
   go_wp2_with (first|(go_at_call 81;(with_reducible refine HW.out.mono ?_);rintro e w2 ⟨rfl,rfl⟩)|(go_at_call 140;refine (Tryz.strings_IndexByte _ _ _).mono ?_;rintro e w' ⟨rfl,rfl⟩;rw [HX.out]))
   go_ret
   exact ⟨rfl,rfl⟩
end Go.Proofs.YtgbgngdakkiclaaGreatDoor

namespace Go.Proofs.YtgbgngdakkiclaaGreatDoor
open Go.RowKit Go.Lib
open Px (R2 tl)
theorem slash_suffix: ∀ l:List UInt8,Lib.hasSuffix l [47]=M.slash l:=by
 intro l
 unfold Lib.hasSuffix M.slash
 rcases List.eq_nil_or_concat l with rfl|⟨a,b,rfl⟩
 ·rfl
 ·rw [Bool.eq_iff_iff,List.isSuffixOf_iff_suffix,List.concat_eq_append,List.getLast?_append]
  simp only [List.getLast?_singleton,Option.some_or,beq_iff_eq,Option.some.injEq]
  constructor
  ·intro h
   obtain ⟨c,hc⟩:=h
   have:=congrArg List.getLast? hc
   simp at this
   exact this.symm
  ·rintro rfl
   exact ⟨a,rfl⟩
theorem suffix_any (s:ByteArray) (hs:s.size≤1048576) (w:World):Calls Tryz.prog 114 #[.string s, .string ⟨#[47]⟩] w fun e w'=>e= .returned (.bool (M.slash (tl s)))∧w=w':=by
 refine (Tryz.strings_HasSuffix s ⟨#[47]⟩ w (by omega)).mono ?_
 rintro e w' ⟨rfl,rfl⟩
 exact ⟨by rw [←slash_suffix];rfl,rfl⟩
def texts4 (m:M.Met):Bool:=M.isText m.name 1 4096&&(M.isText m.link (if M.isLink m.kind then 1 else 0) (if M.isLink m.kind then 4096 else 0)&&(M.isText m.user 0 4096&&M.isText m.group 0 4096))
theorem hasTexts_eq (m:M.Met):M.hasTexts m=(!(m.kind==48&&M.slash (tl m.name))&&texts4 m):=rfl
theorem ret_boolT {a b:Bool} (h:a=b):Ending.returned (.bool a)= .returned (.bool b):=by rw [h]
set_option maxRecDepth 100000 in
set_option maxHeartbeats 2000000 in
theorem hasTexts_any (m:M.Met) (pv ev:Value) (w:World) (hm:MIn w m pv ev):Calls Tryz.prog 82 #[.agg (mcells m pv ev)] w fun e w'=>e= .returned (.bool (M.hasTexts m))∧Below w.heap.size w w':=by
 have hb1:Below w.heap.size w (w.alloc (.cells (mcells m pv ev) 35)):=(Below.refl _ _).alloc (Nat.le_refl _) _
 have HW:=hid hb1
 have HE:=hid (hasTexts_eq m)
 have B1:=hid (MB.new w m pv ev)
 have hsz:=hm.texts.1
 clear hm hb1
 have k0:=MB.cell B1.out (i:=0) (v:= .string m.name) rfl
 have k1:=MB.cell B1.out (i:=1) (v:= .string m.link) rfl
 have k2:=MB.cell B1.out (i:=2) (v:= .int .u8 m.kind) rfl
 have k6:=MB.cell B1.out (i:=6) (v:= .string m.user) rfl
 have k7:=MB.cell B1.out (i:=7) (v:= .string m.group) rfl
 clear B1
 have HS:=hid (fun W=>suffix_any m.name hsz W)
 have HL:=hid (fun W=>isLink_any m.kind W)
 have H1:=hid (fun W=>isText_any m.name 1 4096 W)
 have H2:=hid (fun a b W=>isText_any m.link a b W)
 have H3:=hid (fun W=>isText_any m.user 0 4096 W)
 have H4:=hid (fun W=>isText_any m.group 0 4096 W)
 have HT:=hid (show texts4 m=(M.isText m.name 1 4096&&(M.isText m.link (if M.isLink m.kind then 1 else 0) (if M.isLink m.kind then 4096 else 0)&&(M.isText m.user 0 4096&&M.isText m.group 0 4096))) from rfl)
 cases hl:M.isLink m.kind with
 |_=>
  rw [hl] at HL HT
  simp only [if_true,if_false,Bool.false_eq_true] at HT
  clear hl
  go_enter Tryz.func82,Tryz.ntmps82
  go_upto_region 1 with fail
  generalize World.alloc w _=W at*
  go_cut [12] from 5 to 12 (fun v wx=>v= .bool (m.kind==48&&M.slash (tl m.name))∧W=wx)
  case first=>
   cases hk:(m.kind==48) with
   |false=>
    go_wp2_with fail
    go_meet
    case rel=>exact ⟨by rw [hk];rfl,rfl⟩
   |true=>
    go_wp2_with (go_at_call 114;(with_reducible refine (HS.out _).mono ?_);rintro e w2 ⟨rfl,rfl⟩)
    go_meet
    case rel=>exact ⟨by rw [hk];rfl,rfl⟩
  case rest=>
   obtain ⟨rfl,rfl⟩:=hcut
   obtain ⟨b,hb⟩: ∃ b,(m.kind==48&&M.slash (tl m.name))=b:=⟨_,rfl⟩
   rw [hb] at HE⊢
   clear hb
   cases b with
   |true=>
    go_wp2_with fail
    go_ret
    exact ⟨ret_boolT (by rw [HE.out];rfl),HW.out⟩
   |false=>
    go_upto_region 6 with (go_at_call 115;(with_reducible refine (HL.out _).mono ?_);rintro e w2 ⟨rfl,rfl⟩)
    go_cut [2] from 16 to 35 (fun v wx=>v= .bool (texts4 m)∧W=wx)
    case first=>
     go_wp2_with (first
      |(go_at_call 115;(with_reducible refine (HL.out _).mono ?_);rintro e w2 ⟨rfl,rfl⟩)
      |(go_at_call 116;(with_reducible refine (H1.out _).mono ?_);rintro e w2 ⟨rfl,rfl⟩)
      |(go_at_call 116;(with_reducible refine (H2.out _ _ _).mono ?_);rintro e w2 ⟨rfl,rfl⟩)
      |(go_at_call 116;(with_reducible refine (H3.out _).mono ?_);rintro e w2 ⟨rfl,rfl⟩)
      |(go_at_call 116;(with_reducible refine (H4.out _).mono ?_);rintro e w2 ⟨rfl,rfl⟩))
     all_goals
      go_meet
      case rel=>exact ⟨by rw [HT.out];simp [*],rfl⟩
    case rest=>
     obtain ⟨rfl,rfl⟩:=hcut
     go_wp2_with fail
     go_ret
     exact ⟨ret_boolT (by rw [HE.out];simp),HW.out⟩
end Go.Proofs.YtgbgngdakkiclaaGreatDoor

namespace Go.Proofs.YtgbgngdakkiclaaGreatDoor
open Go.RowKit Go.Lib
open Px (R2 tl)
namespace M
theorem cutPlace_at {l:List UInt8} {k:Nat} (h:cutsAt l k=true) (hk:k<l.length) (hn: ∀ j,j<k→cutsAt l j=false):cutPlace l=some k:=by
 unfold cutPlace
 rw [List.find?_range_eq_some]
 exact ⟨h,List.mem_range.2 hk,fun j hj=>by rw [hn j hj];rfl⟩
theorem cutPlace_no {l:List UInt8} (hn: ∀ j,cutsAt l j=false):cutPlace l=none:=by
 unfold cutPlace
 rw [List.find?_eq_none]
 intro j _
 rw [hn j];simp
end M
def splitV (s:ByteArray):Value:= .tuple #[.string (M.split s).1, .string (M.split s).2.1, .bool (M.split s).2.2]
theorem split_short {s:ByteArray} (h:s.size≤100):splitV s= .tuple #[.string ⟨#[]⟩, .string s, .bool true]:=by
 unfold splitV M.split
 rw [if_pos h]
theorem split_at {s:ByteArray} {k:Nat} (h:100<s.size) (hc:M.cutPlace (tl s)=some k):splitV s= .tuple #[.string (s.extract 0 k), .string (s.extract (k+1) s.size), .bool true]:=by
 unfold splitV M.split
 rw [if_neg (by omega),hc]
theorem split_no {s:ByteArray} (h:100<s.size) (hc:M.cutPlace (tl s)=none):splitV s= .tuple #[.string ⟨#[]⟩, .string (s.extract 0 100), .bool false]:=by
 unfold splitV M.split
 rw [if_neg (by omega),hc]
theorem ret_val {a b:Value} (h:a=b):Ending.returned a= .returned b:=by rw [h]
theorem at_tl (s:ByteArray) (k:Nat) (h:k<s.size):(tl s)[k]?=some (s[k]'h):=List.getElem?_eq_getElem (l:=tl s) (i:=k) h
set_option maxRecDepth 100000 in
set_option maxHeartbeats 1000000 in
theorem split_any (s:ByteArray) (hs:s.size≤1048576) (w:World):Calls Tryz.prog 125 #[.string s] w fun e w'=>e= .returned (splitV s)∧Below w.heap.size w w':=by
 by_cases h1:s.size≤100
 ·have d1:decide ((s.size:Int)≤100)=true:=by rw [decide_eq_true_eq];omega
  have HE:=hid (split_short h1)
  clear h1
  go_enter Tryz.func125,Tryz.ntmps125
  go_wp2
  go_ret3
  exact ⟨ret_val HE.out.symm,Below.refl _ _⟩
 ·have d1:decide ((s.size:Int)≤100)=false:=by rw [decide_eq_false_iff_not];omega
  have hw1:IntKind.i64.wrap ((s.size:Int) - 100)=(s.size:Int) - 100:=IntWalk.i64_in _ (by omega)
  have hw2:IntKind.i64.wrap ((s.size:Int) - 100 - 1)=((s.size - 101:Nat):Int):=by
   have:=IntWalk.i64_in ((s.size:Int) - 100 - 1) (by omega)
   rw [this];omega
  have hw3:IntKind.i64.wrap ((s.size:Int) - 1)=(s.size:Int) - 1:=IntWalk.i64_in _ (by omega)
  have H100:=hid (show 100<s.size by omega)
  clear h1
  have hlen:(tl s).length=s.size:=rfl
  go_enter Tryz.func125,Tryz.ntmps125
  go_wp2
  go_loopw [5] (fun iv wr=> ∃ (k:Nat),iv= .int .i64 k∧k≤s.size∧Hid (s.size≤k+101)∧Hid (∀ j,j<k→M.cutsAt (tl s) j=false)∧Hid (Below w.heap.size w wr)) (fun iv _=>s.size - (intOf iv).toNat)
  case atStart=>
   refine ⟨s.size - 101,rfl,by omega,hid (by omega),hid ?_,hid (Below.refl _ _)⟩
   intro j hj
   unfold M.cutsAt
   have:decide ((tl s).length≤j+101)=false:=by rw [decide_eq_false_iff_not,hlen];omega
   rw [this,Bool.and_false]
  case round=>
   obtain ⟨k,rfl,hk,HL,HN,HB⟩:=hrel
   have HL2:=hid (show s.size≤k+1+101 from Nat.le_trans HL.out (by omega))
   clear hw1 hw2
   by_cases hgo:k≤155∧k+1<s.size
   ·have e1:decide ((k:Int)≤155)=true:=by rw [decide_eq_true_eq];omega
    have e2:decide ((k:Int)<(s.size:Int) - 1)=true:=by rw [decide_eq_true_eq];omega
    have hks:k<s.size:=by omega
    by_cases h0:0<k
    ·have e3:decide ((k:Int)>0)=true:=by rw [decide_eq_true_eq];omega
     have hnx:=IntWalk.i64_in ((k:Int)+1) (by omega)
     go_wp2_with fail
     ·rename_i h47 K9 a9
      have hc:M.cutsAt (tl s) k=true:=by
       unfold M.cutsAt
       have h47':s[k].toNat=47:=by
        have:=eq_of_beq h47
        omega
       rw [at_tl s k hks,show s[k]=47 from UInt8.toNat_inj.1 h47',hlen]
       simp only [Bool.and_eq_true,decide_eq_true_eq]
       refine ⟨⟨⟨⟨by rfl,h0⟩,hgo.1⟩,by omega⟩, ?_⟩
       exact HL.out
      have HE:=hid (split_at H100.out (M.cutPlace_at hc (by rw [hlen];exact hks) HN.out))
      clear h47 hc HL
      go_quiet (fail)
      go_wp2
      go_ret3
      exact ⟨ret_val HE.out.symm,Px.below_drewN' HB.out _⟩
     ·rename_i h47
      have HN2:=hid (show ∀ j,j<k+1→M.cutsAt (tl s) j=false from fun j hj=>by
       by_cases e:j=k
       ·subst e
        unfold M.cutsAt
        rw [at_tl s j hks]
        have:(some s[j]==some (47:UInt8))=false:=by
         rw [beq_eq_false_iff_ne]
         intro h
         rw [Option.some.injEq] at h
         rw [h] at h47
         simp at h47
        rw [this];rfl
       ·exact HN.out j (by omega))
      clear h47
      go_roundw
      case rel=>exact ⟨k+1,by go_num,by omega,HL2,HN2,HB⟩
      case measure=>simp [intOf];omega
    ·obtain rfl:k=0:=by omega
     have e3:decide (((0:Nat):Int)>0)=false:=by decide
     have HN2:=hid (show ∀ j,j<0+1→M.cutsAt (tl s) j=false from fun j hj=>by
      obtain rfl:j=0:=by omega
      unfold M.cutsAt
      simp)
     go_wp2_with fail
     go_roundw
     case rel=>exact ⟨1,by go_num,by omega,HL2,HN2,HB⟩
     case measure=>simp [intOf];omega
   ·have HNO:=hid (show ∀ j,M.cutsAt (tl s) j=false from fun j=>by
     by_cases hj:j<k
     ·exact HN.out j hj
     ·unfold M.cutsAt
      rw [hlen]
      by_cases h5:k≤155
      ·have:decide (j+2≤s.size)=false:=by rw [decide_eq_false_iff_not];omega
       rw [this];simp
      ·have:decide (j≤155)=false:=by rw [decide_eq_false_iff_not];omega
       rw [this];simp)
    have HE:=hid (split_no H100.out (M.cutPlace_no HNO.out))
    clear HNO HN
    by_cases h5:k≤155
    ·have e1:decide ((k:Int)≤155)=true:=by rw [decide_eq_true_eq];omega
     have e2:decide ((k:Int)<(s.size:Int) - 1)=false:=by rw [decide_eq_false_iff_not];omega
     have h100:=H100.out
     clear hgo h5
     go_wp2_with fail
     go_quiet (fail)
     go_wp2
     go_ret3
     exact ⟨ret_val HE.out.symm,Px.below_drewN' HB.out _⟩
    ·have e1:decide ((k:Int)≤155)=false:=by rw [decide_eq_false_iff_not];omega
     have h100:=H100.out
     clear hgo h5
     go_wp2_with fail
     go_quiet (fail)
     go_wp2
     go_ret3
     exact ⟨ret_val HE.out.symm,Px.below_drewN' HB.out _⟩
end Go.Proofs.YtgbgngdakkiclaaGreatDoor

namespace Go.Proofs.YtgbgngdakkiclaaGreatDoor
open Go.RowKit Go.Lib
open Px (R2 tl)
theorem hdr_size:(Tryz.prog.info? 39).map (·.size)=some 17:=by kernel_rfl
theorem met_size:(Tryz.prog.info? 35).map (·.size)=some 17:=by kernel_rfl
theorem hcells_one (h:M.Hdr) {pv:Value} (hp:pv.oneCell'=true):(hcells h pv).all (·.oneCell')=true:=by simpa [hcells,Value.oneCell'] using hp
theorem mcells_one (m:M.Met) {pv ev:Value} (hp:pv.oneCell'=true) (he:ev.oneCell'=true):(mcells m pv ev).all (·.oneCell')=true:=by
 simp only [mcells,List.all_toArray,List.all_cons,List.all_nil,Bool.and_true,hp,he]
 rfl
def HB (w:World) (g:Nat) (h:M.Hdr) (pv:Value):Prop:=w.heap[g]?=some (.cells (hcells h pv) 39 (0,0))
section
variable {w w':World} {g:Nat} {h:M.Hdr} {pv:Value}
theorem HB.lt (hb:HB w g h pv):g<w.heap.size:=(Array.getElem?_eq_some_iff.1 hb).1
theorem HB.cell (hb:HB w g h pv) {i:Nat} {v:Value} (hv:(hcells h pv)[i]?=some v):w.cell? ⟨g,i,none⟩=some v:=by
 rw [cell_of_row w g i _ _ (0,0) hb];exact hv
theorem HB.frozen (hb:HB w g h pv) (i:Nat):w.frozen? ⟨g,i,none⟩=false:=frozen_of_row w g i _ _ hb
theorem HB.of_block (hb:HB w g h pv) (e:w'.heap[g]?=w.heap[g]?):HB w' g h pv:=e.trans hb
theorem HB.other (hb:HB w g h pv) {a:Addr} (hn:g≠a.block) (v:Value):HB (w.setCell a v) g h pv:=hb.of_block (heap_setCell_other w a g v hn)
theorem HB.alloc (hb:HB w g h pv) (o:Obj):HB (w.alloc o) g h pv:=hb.of_block (by show (w.heap.push o)[g]?=_;rw [Array.getElem?_push,if_neg (Nat.ne_of_lt hb.lt)])
theorem HB.drew (hb:HB w g h pv):HB w.drew g h pv:=hb
theorem HB.drewN (hb:HB w g h pv) (n:Nat):HB (w.drewN n) g h pv:=hb
theorem HB.below {B:Nat} (hb:HB w g h pv) (hw:Below B w w') (hB:g<B):HB w' g h pv:=hb.of_block (hw.block g hB)
theorem HB.new (w:World) (h:M.Hdr) (pv:Value):HB (w.alloc (.cells (hcells h pv) 39)) w.heap.size h pv:=heap_alloc_new w _
theorem HB.set (hb:HB w g h pv) (i:Nat) (v:Value) {h':M.Hdr} {pv':Value} (e:(hcells h pv).set! i v=hcells h' pv'):HB (w.setCell ⟨g,i,none⟩ v) g h' pv':=by
 unfold HB
 rw [heap_setCell_same w g i _ _ _ hb,←e]
 simp
theorem HB.load (hb:HB w g h pv):Sem.run Tryz.prog (loadVar 39 ⟨g,0,none⟩) w= .ok (.agg (hcells h pv)) w:=
 run_loadVar_row (P:=Tryz.prog) w g 39 39 (hcells h pv) (0,0) _ hb Tryz.underlying39 rfl hdr_size
end
section
variable {w w':World} {g:Nat} {m:M.Met} {pv ev:Value}
theorem MB.frozen (hb:MB w g m pv ev) (i:Nat):w.frozen? ⟨g,i,none⟩=false:=frozen_of_row w g i _ _ hb
theorem MB.other (hb:MB w g m pv ev) {a:Addr} (hn:g≠a.block) (v:Value):MB (w.setCell a v) g m pv ev:=hb.of_block (heap_setCell_other w a g v hn)
theorem MB.alloc (hb:MB w g m pv ev) (o:Obj):MB (w.alloc o) g m pv ev:=hb.of_block (by show (w.heap.push o)[g]?=_;rw [Array.getElem?_push,if_neg (Nat.ne_of_lt hb.lt)])
theorem MB.set (hb:MB w g m pv ev) (i:Nat) (v:Value) {m':M.Met} {pv' ev':Value} (e:(mcells m pv ev).set! i v=mcells m' pv' ev'):MB (w.setCell ⟨g,i,none⟩ v) g m' pv' ev':=by
 unfold MB
 rw [heap_setCell_same w g i _ _ _ hb,←e]
 simp
theorem MB.load (hb:MB w g m pv ev):Sem.run Tryz.prog (loadVar 35 ⟨g,0,none⟩) w= .ok (.agg (mcells m pv ev)) w:=
 run_loadVar_row (P:=Tryz.prog) w g 35 35 (mcells m pv ev) (0,0) _ hb Tryz.underlying35 rfl met_size
end
theorem below_setRow {B:Nat} {w0 w:World} (h:Below B w0 w) {g:Nat} (hg:B≤g) (cs:Array Value):Below B w0 (w.setRow g cs):=
 h.trans ⟨rfl,rfl,rfl,by simp,fun k hk=>setRow_other w g k cs (by omega)⟩
theorem store_row (w:World) (g:Nat) (C:Array Value) (t:TypeId) (D:List Value) (hb:w.heap[g]?=some (.cells C t (0,0))) (hs:D.length=C.size) (h1: ∀ v∈D,v.oneCell'=true):
  Sem.run Tryz.prog (storeCells ⟨g,0,none⟩ D) w= .ok () (w.setRow g D.toArray):=by
 have h:=run_storeCells_at Tryz.prog g 0 t D 0 C w hb (by omega) h1
 have e:C.toList.take (0+0)++D++C.toList.drop (0+0+D.length)=D:=by
  rw [show (0:Nat)+0=0 from rfl,List.take_zero,Nat.zero_add,hs,List.drop_of_length_le (by simp)]
  simp
 rw [e] at h
 exact h
theorem store_new (w:World) (h:M.Hdr) (A:Option Addr) (n c:Nat):
  Sem.run Tryz.prog (storeCells ⟨w.heap.size,0,none⟩ (hcells h (.slice A n c)).toList)
   (w.alloc (.cells #[.string ⟨#[]⟩, .int .i64 0, .int .i64 0, .int .i64 0, .int .i64 0, .int .i64 0, .int .u8 0, .string ⟨#[]⟩, .int .i64 0, .string ⟨#[]⟩, .string ⟨#[]⟩, .int .i64 0, .int .i64 0, .string ⟨#[]⟩, .slice none 0 0, .bool false, .int .i64 0] 39))=
   .ok () (w.alloc (.cells (hcells h (.slice A n c)) 39)):=by
 have e:=store_row (w.alloc (.cells (hcells {} (.slice none 0 0)) 39)) w.heap.size _ 39 (hcells h (.slice A n c)).toList (HB.new w {} (.slice none 0 0)) rfl (by
  intro v hv
  have:=hcells_one h (pv:= .slice A n c) rfl
  rw [Array.all_eq_true'] at this
  exact this v (by simpa using hv))
 rw [show (hcells h (.slice A n c)).toList.toArray=hcells h (.slice A n c) from rfl] at e
 rw [World.setRow_alloc_new] at e
 exact e
end Go.Proofs.YtgbgngdakkiclaaGreatDoor
