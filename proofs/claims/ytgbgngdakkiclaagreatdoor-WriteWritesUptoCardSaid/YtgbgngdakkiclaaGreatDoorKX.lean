import Derived.Test.YtgbgngdakkiclaaGreatDoorKXa
import Derived.Test.YtgbgngdakkiclaaGreatDoorIterLaw
import Derived.Test.YtgbgngdakkiclaaGreatDoorShelf
import Derived.Laws.RangeString
import Derived.Laws.RangeAny
import Derived.LoopTactic
import Derived.Lib.Bytealg
import Derived.Lib.AppendIntMem
import Derived.Lib.ItoaMem
import Derived.Deep.QuietTactic
import Derived.BigQuiet
import Derived.IntWalk
import Derived.Laws.StructEq
import Derived.RegionTactic
import Derived.ChangeAlike
import Derived.Test.YtgbgngdakkiclaaGreatDoorPaxIter
import Derived.Carry
set_option linter.unusedVariables false
set_option linter.unusedSimpArgs false
namespace Go.Proofs.YtgbgngdakkiclaaGreatDoor.Px
open Go.RowKit Go.Shelf
variable {P:Program}
end Go.Proofs.YtgbgngdakkiclaaGreatDoor.Px
namespace Go.Proofs.YtgbgngdakkiclaaGreatDoor.Px
open Go.RowKit Go.Shelf
theorem all_not {p:UInt8→Bool} {l:List UInt8} {k:Nat} (hk:k<l.length) (h:p l[k]=false):l.all p=false:=by
 rw [List.all_eq_false]
 exact ⟨l[k],List.getElem_mem hk,by rw [h];decide⟩
theorem all_take_succ {p:UInt8→Bool} {l:List UInt8} {k:Nat} (hk:k<l.length) (h:(l.take k).all p=true) (h2:p l[k]=true):(l.take (k+1)).all p=true:=by
 rw [List.take_succ_eq_append_getElem hk,List.all_append,h,Bool.true_and,List.all_cons,h2,List.all_nil];rfl
theorem keyOk_iff (c:UInt8):M.keyOk c=true↔33≤c.toNat∧c.toNat≤126∧c.toNat≠61:=by
 unfold M.keyOk
 simp [and_assoc]
theorem right_no_key {s t:ByteArray} (h:(tl s).all M.keyOk=false):M.right (rc (s,t))=false:=by
 unfold M.right rc;dsimp only;rw [h];rfl
theorem right_keys {s t:ByteArray} (h:(tl s).all M.keyOk=true):M.right (rc (s,t))=((tl t).all (fun c=> !(c==0))&& !(tl s).isEmpty):=by
 unfold M.right rc;dsimp only;rw [h];rfl
theorem decode_low (s:ByteArray) (pos:Nat) (h:pos<s.size) (hb:(s[pos]'h).toNat<128):Utf8.decode s pos=((s[pos]'h).toNat,1):=by
 unfold Utf8.decode
 simp only [get_at s pos h,if_pos hb]
theorem at_tl (s:ByteArray) (k:Nat) (h:k<s.size):(tl s)[k]'h=s[k]'h:=rfl
theorem indexByte_all: ∀ (l:List UInt8),(Lib.indexByte l 0= -1∧l.all (fun c=> !(c==0))=true)∨(0≤Lib.indexByte l 0∧l.all (fun c=> !(c==0))=false)
 | []=> .inl ⟨rfl,rfl⟩
 |b::l=>by
  have e:Lib.indexByte (b::l) 0=if b==0 then 0 else if Lib.indexByte l 0== -1 then -1 else Lib.indexByte l 0+1:=rfl
  rw [e,List.all_cons]
  clear e
  cases hb:(b==0) with
  |true=>exact .inr ⟨by simp,rfl⟩
  |false=>
   rcases indexByte_all l with ⟨h1,h2⟩|⟨h1,h2⟩
   ·rw [h1,h2];exact .inl ⟨rfl,rfl⟩
   ·rw [h2]
    have h3:(Lib.indexByte l 0== -1)=false:=by simp;omega
    rw [h3]
    exact .inr ⟨by simp;omega,by simp⟩
theorem riterPos (w:World) (o:Obj) (s:ByteArray) (p:Nat):((w.alloc o).iter s p).iterPos (w.heap.size+1)=p:=by
 have:=World.iterPos_iter (w.alloc o) s p
 rwa [World.size_alloc] at this
theorem riter_cell (w:World) (s t:ByteArray) (p j:Nat):((w.alloc (.cells #[.string s, .string t] 47)).iter s p).cell? ⟨w.heap.size,j,none⟩=(#[Value.string s, .string t]:Array Value)[j]?:=by
 unfold World.iter
 rw [World.cell?_alloc_lt _ _ _ (by simp)]
 exact cell_of_row _ _ _ _ _ _ (heap_alloc_new w _)
theorem rbelow_iter (w:World) (o:Obj) (s:ByteArray) (pos:Nat):Below w.heap.size w ((w.alloc o).iter s pos):=((Below.refl _ w).alloc (Nat.le_refl _) _).alloc (by simp) _
set_option maxRecDepth 100000 in
set_option maxHeartbeats 1000000 in
theorem right_any' (s t:ByteArray) (w:World):
  Calls Tryz.prog 98 #[.agg #[.string s, .string t]] w fun e w'=>e= .returned (.bool (M.right (rc (s,t))))∧Below w.heap.size w w':=by
 have HI:=Lib.hid (indexByte_all (tl t))
 go_enter Tryz.func98,Tryz.ntmps98
 go_wp2
 go_loopw [4] (fun _ w'=> ∃ pos:Nat,w'=(w.alloc (.cells #[.string s, .string t] 47)).iter s pos∧pos≤s.size∧((tl s).take pos).all M.keyOk=true) (fun _ w'=>s.size - w'.iterPos (w.heap.size+1))
 case atStart=>exact ⟨0,rfl,Nat.zero_le _,rfl⟩
 case round=>
  obtain ⟨pos,rfl,hle,hu⟩:=hrel
  have hbel:=rbelow_iter w (.cells #[.string s, .string t] 47) s
  by_cases hp:pos<s.size
  ·have hnx:=fun ty=>run_next_any (P:=Tryz.prog) (w.alloc (.cells #[.string s, .string t] 47)) s pos ty hp
   simp only [World.size_alloc] at hnx
   by_cases hb:(s[pos]'hp).toNat<128
   ·simp only [decode_low s pos hp hb] at hnx
    by_cases hk:M.keyOk ((tl s)[pos]'hp)=true
    ·have hs:=all_take_succ hp hu hk
     rw [keyOk_iff,at_tl] at hk
     obtain ⟨k1,k2,k3⟩:=hk
     have HS:=Lib.hid hs
     have e1:decide (((s[pos]'hp).toNat:Int)<33)=false:=by rw [decide_eq_false_iff_not];omega
     have e2:decide (((s[pos]'hp).toNat:Int)>126)=false:=by rw [decide_eq_false_iff_not];omega
     have e3:(((s[pos]'hp).toNat:Int)==61)=false:=by simp;omega
     clear hs hu
     go_wp2
     refine ⟨⟨pos+1,rfl,by omega,HS.out⟩, ?_⟩
     simp only [riterPos];omega
    ·have hk':M.keyOk ((tl s)[pos]'hp)=false:=by simpa using hk
     have hf:=right_no_key (t:=t) (all_not hp hk')
     rw [keyOk_iff,at_tl] at hk
     have HF:=Lib.hid hf
     clear hf hk' hu
     by_cases c1:(s[pos]'hp).toNat<33
     ·have e1:decide (((s[pos]'hp).toNat:Int)<33)=true:=by rw [decide_eq_true_eq];omega
      clear hk
      go_wp2
      go_ret
      exact ⟨ret_bool HF.out.symm,hbel _⟩
     ·have e1:decide (((s[pos]'hp).toNat:Int)<33)=false:=by rw [decide_eq_false_iff_not];omega
      by_cases c2:126<(s[pos]'hp).toNat
      ·have e2:decide (((s[pos]'hp).toNat:Int)>126)=true:=by rw [decide_eq_true_eq];omega
       clear hk
       go_wp2
       go_ret
       exact ⟨ret_bool HF.out.symm,hbel _⟩
      ·have e2:decide (((s[pos]'hp).toNat:Int)>126)=false:=by rw [decide_eq_false_iff_not];omega
       have e3:(((s[pos]'hp).toNat:Int)==61)=true:=by simp;omega
       clear hk
       go_wp2
       go_ret
       exact ⟨ret_bool HF.out.symm,hbel _⟩
   ·have hh:=(decode_high s pos hp (by omega)).1
    have hl:=decode_le s pos
    have hk':M.keyOk ((tl s)[pos]'hp)=false:=by
     rw [←Bool.not_eq_true,keyOk_iff,at_tl];omega
    have HF:=Lib.hid (right_no_key (t:=t) (all_not hp hk'))
    clear hk' hu
    generalize (Utf8.decode s pos).1=c at*
    generalize (Utf8.decode s pos).2=n at*
    have e1:decide ((c:Int)<33)=false:=by rw [decide_eq_false_iff_not];omega
    have e2:decide ((c:Int)>126)=true:=by rw [decide_eq_true_eq];omega
    go_wp2
    go_ret
    exact ⟨ret_bool HF.out.symm,hbel _⟩
  ·have hnx: ∀ ty,(Instr.next (.pointer (some ⟨w.heap.size+1,0,none⟩)) true ty).run Tryz.prog ((w.alloc (.cells #[.string s, .string t] 47)).iter s pos)=_:=fun ty=>by
    have:=run_next_end (P:=Tryz.prog) (w.alloc (.cells #[.string s, .string t] 47)) s pos ty hp
    simp only [World.size_alloc] at this
    exact this
   have hall:(tl s).all M.keyOk=true:=by
    rw [List.take_of_length_le (by rw [tl_len];omega)] at hu;exact hu
   have hr:=right_keys (t:=t) hall
   have hc1:=riter_cell w s t pos 1
   have hc0:=riter_cell w s t pos 0
   simp only [List.getElem?_toArray,List.getElem?_cons_zero,List.getElem?_cons_succ] at hc0 hc1
   by_cases h0:tl s= []
   ·obtain rfl:s=⟨#[]⟩:=tl_inj (by rw [h0];rfl)
    have hr2:M.right (rc ((⟨#[]⟩:ByteArray),t))=false:=by rw [hr];simp [tl]
    have HF:=Lib.hid hr2
    clear hr hr2 hall hu h0
    go_wp2
    go_ret
    exact ⟨ret_bool HF.out.symm,hbel _⟩
   ·have hne:(tl s).isEmpty=false:=by simpa using h0
    have hne2:(!s.toList.isEmpty)=true:=by
     rw [tl_eq,hne];rfl
    rw [hne] at hr
    rcases HI.out with ⟨h1,h2⟩|⟨h1,h2⟩
    ·rw [h2] at hr
     have HF:=Lib.hid hr
     have HX:=Lib.hid h1
     clear hr hall hu h0 hne h1 h2
     go_wp2_with (go_at_call 140;refine (Tryz.strings_IndexByte _ _ _).mono ?_;rintro e w' ⟨rfl,rfl⟩;rw [show Lib.indexByte t.data.toList (0:Int).toNat.toUInt8= -1 from HX.out])
     go_ret
     exact ⟨ret_bool HF.out.symm,hbel _⟩
    ·rw [h2] at hr
     have HF:=Lib.hid hr
     have hd:decide (Lib.indexByte t.data.toList (0:Int).toNat.toUInt8<0)=false:=by rw [decide_eq_false_iff_not];show ¬ Lib.indexByte (tl t) 0<0;omega
     obtain ⟨z,hz⟩: ∃ z,Lib.indexByte t.data.toList (0:Int).toNat.toUInt8=z:=⟨_,rfl⟩
     rw [hz] at hd
     have HZ:=Lib.hid hz
     clear hr hall hu h0 hne h1 h2 hz
     go_wp2_with (go_at_call 140;refine (Tryz.strings_IndexByte _ _ _).mono ?_;rintro e w' ⟨rfl,rfl⟩;rw [HZ.out])
     go_ret
     exact ⟨ret_bool HF.out.symm,hbel _⟩
end Go.Proofs.YtgbgngdakkiclaaGreatDoor.Px
namespace Go.Proofs.YtgbgngdakkiclaaGreatDoor.Px
open Go.RowKit Go.Shelf
def TB (B:Nat) (w:World):Prop:=Lib.TabBelow Tryz.prog B w "internal/strconv.uint64pow10" .u64 Lib.pow10Tab
theorem TB.on {B:Nat} {w w':World} (h:TB B w) (hb:Below B w w'):TB B w':=Lib.TabBelow.on h hb
namespace M
theorem wid_less {L d:Nat} (h1:1≤d) (h2:d<wid L):10^d≤L+d:=by
 have h8:d<8:=by
  refine Nat.lt_of_lt_of_le h2 ?_
  unfold wid
  repeat' split
  all_goals omega
 have:d=1∨d=2∨d=3∨d=4∨d=5∨d=6∨d=7:=by omega
 unfold wid at h2
 rcases this with rfl|rfl|rfl|rfl|rfl|rfl|rfl
 all_goals
  repeat' split at h2
  all_goals omega
theorem wid_more {L d:Nat} (h1:1≤d) (h2:d<wid L):d<Lib.nDigits (L+d):=nDigits_ge (wid_less h1 h2)
theorem wid_pos (L:Nat):1≤wid L∧wid L≤8:=by
 unfold wid
 repeat' split
 all_goals omega
end M
def DecIs (n:Nat) (w:World) (e:Ending) (w':World):Prop:= ∃ s:ByteArray,e= .returned (.string s)∧tl s=Lib.decDigits n∧s.size=Lib.nDigits n∧Below w.heap.size w w'
theorem itoa_any (n:Nat) (hn:n≤9223372036854775807) (B:Nat) (w:World) (ht:TB B w):
  Calls Tryz.prog 54 #[.int .i64 n] w (DecIs n w):=by
 refine (Tryz.strconv_Itoa (n:Int) (by omega) (by omega) w ht.here).mono ?_
 rintro e w' ⟨rfl,k,os,rfl⟩
 refine ⟨_,rfl, ?_, ?_,Lib.below_grow _ _ (Nat.le_refl _) _ _⟩
 ·rw [tl_mk,Lib.itoa_nonneg]
 ·show (Lib.itoa (n:Int)).toArray.size=_
  rw [Lib.itoa_nonneg,List.size_toArray,Lib.decDigits_length]
set_option maxRecDepth 100000 in
set_option maxHeartbeats 1000000 in
theorem width_any (r:R2) (hr:r.1.size+r.2.size≤10000000) (B:Nat) (w:World) (hB:B≤w.heap.size) (ht:TB B w):
  Calls Tryz.prog 99 #[.agg #[.string r.1, .string r.2]] w fun e w'=>e= .returned (.int .i64 (M.lineLen (rc r)))∧Below w.heap.size w w':=by
 obtain ⟨s,t⟩:=r
 dsimp only at hr⊢
 obtain ⟨L,hL⟩: ∃ L,L=s.size+t.size+3:=⟨_,rfl⟩
 have hbl:(M.body (rc (s,t))).length=L:=by rw [M.body_length];show s.size+t.size+3=L;omega
 have hll:M.lineLen (rc (s,t))=L+M.wid L:=by unfold M.lineLen;rw [hbl]
 rw [hll]
 have hw:=M.wid_pos L
 have hL2:L≤10000003:=by omega
 have hspec:=M.wid_spec (L:=L) (by omega)
 have HS:=Lib.hid hspec
 have HT:=Lib.hid ht
 have hsum:(3:Int)+(s.size:Int)+(t.size:Int)=(L:Int):=by omega
 have HSUM:=Lib.hid hsum
 clear hspec hsum hL hbl hll ht
 go_enter Tryz.func99,Tryz.ntmps99
 go_wp2
 rw [HSUM.out]
 go_loopw [4] (fun d wr=> ∃ dn:Nat,d= .int .i64 dn∧1≤dn∧dn≤M.wid L∧Below w.heap.size w wr) (fun d _=>M.wid L - (intOf d).toNat)
 case atStart=>exact ⟨1,rfl,Nat.le_refl _,hw.1,(Below.refl _ w).alloc (Nat.le_refl _) _⟩
 case round=>
  obtain ⟨d,rfl,hd1,hd2,hb⟩:=hrel
  have hbs:=hb.size
  have C:=fun (B':Nat) (w':World) (h2:TB B' w')=>itoa_any (L+d) (by omega) B' w' h2
  have e:((L+d:Nat):Int)=(L:Int)+(d:Int):=by omega
  rw [e] at C
  have HC:=Lib.hid (C B wr (HT.out.on (hb.mono hB)))
  clear C e
  rcases Nat.lt_or_ge d (M.wid L) with hlt|hge
  ·have hm:=M.wid_more hd1 hlt
   go_wp2_with (go_at_call 54;refine HC.out.mono ?_;rintro e w1 ⟨x,rfl,hx,hxs,hb1⟩;(have hxs2:d<x.size:=by rw [hxs];exact hm);clear hx hxs)
   go_roundw
   case rel=>exact ⟨d+1,by go_num,by omega,by omega,hb.trans (hb1.mono hbs)⟩
   case measure=>simp [intOf];omega
  ·obtain rfl:d=M.wid L:=by omega
   have h3:=HS.out.2.2.1
   have H3:=Lib.hid h3
   clear h3
   go_wp2_with (go_at_call 54;refine HC.out.mono ?_;rintro e w1 ⟨x,rfl,hx,hxs,hb1⟩;(have hxs2:x.size≤M.wid L:=by rw [hxs,H3.out];exact Nat.le_refl _);clear hx hxs)
   go_ret
   exact ⟨ret_int (by omega),hb.trans (hb1.mono hbs)⟩
end Go.Proofs.YtgbgngdakkiclaaGreatDoor.Px
namespace Go.Proofs.YtgbgngdakkiclaaGreatDoor.Px
open Go.RowKit Go.Shelf
theorem right_no_value {s t:ByteArray} (h:(tl t).all (fun c=> !(c==0))=false):M.right (rc (s,t))=false:=by
 unfold M.right rc;dsimp only;rw [h,Bool.and_false];rfl
set_option maxRecDepth 100000 in
set_option maxHeartbeats 1000000 in
theorem refRight_any' (s t:ByteArray) (hs:s.size+t.size≤10000000) (w:World):
  Calls Tryz.prog 43 #[.agg #[.string s, .string t]] w fun e w'=>e= .returned (.bool (M.right (rc (s,t))))∧Below w.heap.size w w':=by
 have hb:Below w.heap.size w (w.alloc (.cells #[.string s, .string t] 47)):=(Below.refl _ w).alloc (Nat.le_refl _) _
 go_enter Tryz.func43,Tryz.ntmps43
 go_wp2
 go_loop [3] (fun i=> ∃ k:Nat,i= .int .i64 k∧k≤s.size∧((tl s).take k).all M.keyOk=true) (fun i=>s.size - (intOf i).toNat)
 case atStart=>exact ⟨0,rfl,Nat.zero_le _,rfl⟩
 case round=>
  obtain ⟨k,rfl,hle,hu⟩:=hrel
  by_cases hp:k<s.size
  ·have hb256:(s[k]'hp).toNat<256:=UInt8.toNat_lt _
   by_cases hk:M.keyOk ((tl s)[k]'hp)=true
   ·have HS:=Lib.hid (all_take_succ hp hu hk)
    rw [keyOk_iff,at_tl] at hk
    obtain ⟨k1,k2,k3⟩:=hk
    have e1:decide (((s[k]'hp).toNat:Int)<33)=false:=by rw [decide_eq_false_iff_not];omega
    have e2:decide (((s[k]'hp).toNat:Int)>126)=false:=by rw [decide_eq_false_iff_not];omega
    have e3:(((s[k]'hp).toNat:Int)==61)=false:=by simp;omega
    clear hu
    go_wp2
    refine ⟨⟨k+1,by go_num,by omega,HS.out⟩, ?_⟩
    simp [intOf];omega
   ·have hk':M.keyOk ((tl s)[k]'hp)=false:=by simpa using hk
    have HF:=Lib.hid (right_no_key (t:=t) (all_not hp hk'))
    rw [keyOk_iff,at_tl] at hk
    clear hk' hu
    by_cases c1:(s[k]'hp).toNat<33
    ·have e1:decide (((s[k]'hp).toNat:Int)<33)=true:=by rw [decide_eq_true_eq];omega
     clear hk
     go_wp2
     go_ret
     exact ⟨ret_bool HF.out.symm,hb⟩
    ·have e1:decide (((s[k]'hp).toNat:Int)<33)=false:=by rw [decide_eq_false_iff_not];omega
     by_cases c2:126<(s[k]'hp).toNat
     ·have e2:decide (((s[k]'hp).toNat:Int)>126)=true:=by rw [decide_eq_true_eq];omega
      clear hk
      go_wp2
      go_ret
      exact ⟨ret_bool HF.out.symm,hb⟩
     ·have e2:decide (((s[k]'hp).toNat:Int)>126)=false:=by rw [decide_eq_false_iff_not];omega
      have e3:(((s[k]'hp).toNat:Int)==61)=true:=by simp;omega
      clear hk
      go_wp2
      go_ret
      exact ⟨ret_bool HF.out.symm,hb⟩
  ·obtain rfl:k=s.size:=by omega
   have hall:(tl s).all M.keyOk=true:=by rw [List.take_of_length_le (by rw [tl_len];exact Nat.le_refl _)] at hu;exact hu
   have HR:=Lib.hid (right_keys (t:=t) hall)
   clear hall hu hp
   go_wp2
   go_loop [4] (fun i=> ∃ k:Nat,i= .int .i64 k∧k≤t.size∧((tl t).take k).all (fun c=> !(c==0))=true) (fun i=>t.size - (intOf i).toNat)
   case atStart=>exact ⟨0,rfl,Nat.zero_le _,rfl⟩
   case round=>
    obtain ⟨k,rfl,hle,hu⟩:=hrel
    by_cases hp:k<t.size
    ·have hb256:(t[k]'hp).toNat<256:=UInt8.toNat_lt _
     by_cases hk:(t[k]'hp).toNat=0
     ·have hz:(fun c:UInt8=> !(c==0)) ((tl t)[k]'hp)=false:=by
       have:t[k]'hp=0:=UInt8.toNat_inj.1 hk
       simp [at_tl,this]
      have HF:=Lib.hid (right_no_value (s:=s) (all_not (p:=fun c:UInt8=> !(c==0)) hp hz))
      have e1:(((t[k]'hp).toNat:Int)==0)=true:=by simp;omega
      clear hz hk hu
      go_wp2
      go_ret
      exact ⟨ret_bool HF.out.symm,hb⟩
     ·have hz:(fun c:UInt8=> !(c==0)) ((tl t)[k]'hp)=true:=by
       have:t[k]'hp≠0:=fun e=>hk (by rw [e];rfl)
       simp [at_tl,this]
      have HS:=Lib.hid (all_take_succ (p:=fun c:UInt8=> !(c==0)) hp hu hz)
      have e1:(((t[k]'hp).toNat:Int)==0)=false:=by simp;omega
      clear hz hk hu
      go_wp2
      refine ⟨⟨k+1,by go_num,by omega,HS.out⟩, ?_⟩
      simp [intOf];omega
    ·obtain rfl:k=t.size:=by omega
     have hall:(tl t).all (fun c=> !(c==0))=true:=by rw [List.take_of_length_le (by rw [tl_len];exact Nat.le_refl _)] at hu;exact hu
     have HR2:=Lib.hid hall
     clear hall hu hp
     by_cases h0:s.size=0
     ·have hd:(tl s).isEmpty=true:=by rw [List.isEmpty_iff];exact List.eq_nil_of_length_eq_zero h0
      have HD:=Lib.hid hd
      have e0:decide ((s.size:Int)>0)=false:=by rw [decide_eq_false_iff_not];omega
      have e00:decide (0<s.size)=false:=by rw [decide_eq_false_iff_not];omega
      clear hd h0
      go_wp2
      go_ret
      refine ⟨ret_bool ?_,hb⟩
      rw [HR.out,HR2.out,HD.out];rfl
     ·have hd:(tl s).isEmpty=false:=by rw [List.isEmpty_eq_false_iff];intro e;exact h0 (by rw [←tl_len,e];rfl)
      have HD:=Lib.hid hd
      have e0:decide ((s.size:Int)>0)=true:=by rw [decide_eq_true_eq];omega
      have e00:decide (0<s.size)=true:=by rw [decide_eq_true_eq];omega
      clear hd h0
      go_wp2
      go_ret
      refine ⟨ret_bool ?_,hb⟩
      rw [HR.out,HR2.out,HD.out];rfl
def LineIs (r:R2) (w:World) (e:Ending) (w':World):Prop:= ∃ x:ByteArray,e= .returned (.string x)∧tl x=M.line (rc r)∧x.size=M.lineLen (rc r)∧Below w.heap.size w w'
set_option maxRecDepth 100000 in
set_option maxHeartbeats 1000000 in
theorem refLine_any (r:R2) (hr:r.1.size+r.2.size≤10000000) (B:Nat) (w:World) (hB:B≤w.heap.size) (ht:TB B w):
  Calls Tryz.prog 55 #[.agg #[.string r.1, .string r.2]] w (LineIs r w):=by
 obtain ⟨s,t⟩:=r
 dsimp only at hr⊢
 obtain ⟨x,hx⟩: ∃ x,(⟨#[32]⟩:ByteArray)++s++⟨#[61]⟩++t++⟨#[10]⟩=x:=⟨_,rfl⟩
 have hxl:tl x=M.body (rc (s,t)):=by
  rw [←hx,tl_append,tl_append,tl_append,tl_append]
  show [32]++tl s++ [61]++tl t++ [10]=32::(tl s++61::(tl t++ [10]))
  simp
 obtain ⟨L,hL⟩: ∃ L,L=s.size+t.size+3:=⟨_,rfl⟩
 have hbl:(M.body (rc (s,t))).length=L:=by rw [M.body_length];show s.size+t.size+3=L;omega
 have hxs:x.size=L:=by rw [←tl_len,hxl,hbl]
 have hll:M.lineLen (rc (s,t))=L+M.wid L:=by unfold M.lineLen;rw [hbl]
 have hw:=M.wid_pos L
 have hL2:L≤10000003:=by omega
 have HS:=Lib.hid (M.wid_spec (L:=L) (by omega))
 have HT:=Lib.hid ht
 have HX:=Lib.hid hx
 have HXL:=Lib.hid hxl
 have HXS:=Lib.hid hxs
 have hxs1:x.size≤L:=Nat.le_of_eq hxs
 have hxs2:L≤x.size:=Nat.le_of_eq hxs.symm
 have HLL:=Lib.hid hll
 clear hL hbl hll ht hx hxl hxs
 go_enter Tryz.func55,Tryz.ntmps55
 go_wp2
 rw [HX.out]
 go_loopw [4,5] (fun d _ wr=> ∃ dn:Nat,d= .int .i64 dn∧1≤dn∧dn≤M.wid L∧Below w.heap.size w wr) (fun d _ _=>M.wid L - (intOf d).toNat)
 case atStart=>exact ⟨1,rfl,Nat.le_refl _,hw.1,(Below.refl _ w).alloc (Nat.le_refl _) _⟩
 case round=>
  obtain ⟨d,rfl,hd1,hd2,hb⟩:=hrel
  have hbs:=hb.size
  have C:=fun (B':Nat) (w':World) (h2:TB B' w')=>itoa_any (x.size+d) (by omega) B' w' h2
  have e:((x.size+d:Nat):Int)=(x.size:Int)+(d:Int):=by omega
  rw [e] at C
  have HC:=Lib.hid (C B wr (HT.out.on (hb.mono hB)))
  clear C e
  rcases Nat.lt_or_ge d (M.wid L) with hlt|hge
  ·have HM:=Lib.hid (M.wid_more hd1 hlt)
   go_wp2_with (go_at_call 54;refine HC.out.mono ?_;rintro e w1 ⟨y,rfl,hy,hys,hb1⟩;(have hys2:d<y.size:=by rw [hys,HXS.out];exact HM.out);(have e1:((y.size:Int)==(d:Int))=false:=by simp;omega);(have e2:(y.size==d)=false:=by simp;omega);clear hy hys)
   go_roundw
   case rel=>exact ⟨d+1,by go_num,by omega,by omega,hb.trans (hb1.mono hbs)⟩
   case measure=>simp [intOf];omega
  ·obtain rfl:d=M.wid L:=by omega
   have H3:=Lib.hid HS.out.2.2.1
   go_wp2_with (go_at_call 54;refine HC.out.mono ?_;rintro e w1 ⟨y,rfl,hy,hys,hb1⟩;(have hys2:y.size=M.wid L:=by rw [hys,HXS.out,H3.out]);(have e1:((y.size:Int)==(M.wid L:Int))=true:=by simp;omega);(have e2:(y.size==M.wid L)=true:=by simp;omega);(have hys3:y.size≤8:=by omega);(have HY:=Lib.hid hy);(have HYS:=Lib.hid hys2);clear hy hys hys2)
   go_ret
   refine ⟨_,rfl, ?_, ?_,hb.trans (hb1.mono hbs)⟩
   ·rw [tl_append,HY.out,HXL.out,HXS.out,M.line_eq,HLL.out]
   ·rw [ByteArray.size_append,HYS.out,HXS.out,HLL.out,Nat.add_comm]
end Go.Proofs.YtgbgngdakkiclaaGreatDoor.Px
namespace Go.Proofs.YtgbgngdakkiclaaGreatDoor.Px
open Go.RowKit Go.Shelf
def allRight (l:List R2):Bool:=(rcs l).all M.right
theorem allRight_no {l:List R2} {k:Nat} (hk:k<l.length) (h:M.right (rc l[k])=false):allRight l=false:=by
 unfold allRight
 rw [List.all_eq_false]
 exact ⟨rc l[k],List.mem_map.2 ⟨l[k],List.getElem_mem hk,rfl⟩,by rw [h];decide⟩
theorem allRight_succ {l:List R2} {k:Nat} (hk:k<l.length) (h:allRight (l.take k)=true) (h2:M.right (rc l[k])=true):allRight (l.take (k+1))=true:=by
 unfold allRight at*
 rw [List.take_succ_eq_append_getElem hk,rcs_app,List.all_append,h]
 simp [rcs,h2]
theorem closure_any (r:R2) (w:World):Calls Tryz.prog 97 #[.agg #[.string r.1, .string r.2]] w fun e w'=>e= .returned (.bool (!M.right (rc r)))∧Below w.heap.size w w':=by
 obtain ⟨s,t⟩:=r
 dsimp only
 have hb: ∀ w',Below (w.alloc (.cells #[.string s, .string t] 47)).heap.size (w.alloc (.cells #[.string s, .string t] 47)) w'→Below w.heap.size w w':=fun w' h=>((Below.refl _ w).alloc (Nat.le_refl _) _).trans (h.mono (by simp))
 cases hr:M.right (rc (s,t)) with
 |true=>
  have C:=fun W=>right_any' s t W
  rw [hr] at C
  have HC:=Lib.hid C
  clear C hr
  go_enter Tryz.func97,Tryz.ntmps97
  go_wp2_with (go_at_call 98;refine (HC.out _).mono ?_;rintro e w1 ⟨rfl,hb1⟩)
  go_ret
  exact ⟨rfl,hb _ hb1⟩
 |false=>
  have C:=fun W=>right_any' s t W
  rw [hr] at C
  have HC:=Lib.hid C
  clear C hr
  go_enter Tryz.func97,Tryz.ntmps97
  go_wp2_with (go_at_call 98;refine (HC.out _).mono ?_;rintro e w1 ⟨rfl,hb1⟩)
  go_ret
  exact ⟨rfl,hb _ hb1⟩
def IndexIs (l:List R2) (w:World) (e:Ending) (w':World):Prop:= ∃ i:Int,e= .returned (.int .i64 i)∧ -1≤i∧(0≤i↔allRight l=false)∧Below w.heap.size w w'
set_option maxRecDepth 100000 in
set_option maxHeartbeats 1000000 in
theorem index_any (A:Option Addr) (c:Nat) (l:List R2) (hl:l.length≤1048576) (w:World) (h:RdR w w.heap.size A l):
  Calls Tryz.prog 139 #[.slice A l.length c, .func (.func 97) #[] #[]] w (IndexIs l w):=by
 go_enter Tryz.func139,Tryz.ntmps139
 go_wp2
 go_loopw [8,5] (fun i _ wr=> ∃ k:Nat,i= .int .i64 k∧k≤l.length∧allRight (l.take k)=true∧Below w.heap.size w wr) (fun i _ _=>l.length - (intOf i).toNat)
 case atStart=>exact ⟨0,rfl,Nat.zero_le _,rfl,Below.refl _ _⟩
 case round=>
  obtain ⟨k,rfl,hk,hall,hb⟩:=hrel
  have hbs:=hb.size
  by_cases hlt:k<l.length
  ·obtain ⟨b,off,rfl,hbb,hc1,hc2⟩:=(h.below hb).at_ hlt
   have hs:=allRight_succ hlt hall
   have hn:=allRight_no hlt
   obtain ⟨r,hr⟩: ∃ r,l[k]=r:=⟨_,rfl⟩
   rw [hr] at hc1 hc2 hs hn
   have C:=closure_any r wr
   cases hq:M.right (rc r) with
   |true=>
    rw [hq] at C
    have HS:=Lib.hid (hs hq)
    have HC:=Lib.hid C
    clear C hq hs hn hr hall h
    by_cases hk0:k=0
    ·subst hk0
     simp only [Nat.zero_mul,Nat.add_zero] at hc1 hc2
     go_wp2_with (go_at_call 97;refine HC.out.mono ?_;rintro e w1 ⟨rfl,hb1⟩)
     go_roundw
     case rel=>exact ⟨1,by go_num,by omega,HS.out,hb.trans (hb1.mono hbs)⟩
     case measure=>simp [intOf];omega
    ·have hk1:0<k:=by omega
     clear hk0
     go_wp2_with (go_at_call 97;refine HC.out.mono ?_;rintro e w1 ⟨rfl,hb1⟩)
     go_roundw
     case rel=>exact ⟨k+1,by go_num,by omega,HS.out,hb.trans (hb1.mono hbs)⟩
     case measure=>simp [intOf];omega
   |false=>
    rw [hq] at C
    have HN:=Lib.hid (hn hq)
    have HC:=Lib.hid C
    clear C hq hs hn hr hall h
    by_cases hk0:k=0
    ·subst hk0
     simp only [Nat.zero_mul,Nat.add_zero] at hc1 hc2
     go_wp2_with (go_at_call 97;refine HC.out.mono ?_;rintro e w1 ⟨rfl,hb1⟩)
     go_ret
     exact ⟨0,rfl,by omega,⟨fun _=>HN.out,fun _=>by omega⟩,hb.trans (hb1.mono hbs)⟩
    ·have hk1:0<k:=by omega
     clear hk0
     go_wp2_with (go_at_call 97;refine HC.out.mono ?_;rintro e w1 ⟨rfl,hb1⟩)
     go_ret
     exact ⟨k,rfl,by omega,⟨fun _=>HN.out,fun _=>by omega⟩,hb.trans (hb1.mono hbs)⟩
  ·obtain rfl:k=l.length:=by omega
   rw [List.take_length] at hall
   have HA:=Lib.hid hall
   clear hall hlt h
   go_wp2
   go_ret
   exact ⟨-1,rfl,by omega,⟨fun h=>by omega,fun h=>by rw [HA.out] at h;cases h⟩,hb⟩
set_option maxRecDepth 100000 in
theorem contains_any (A:Option Addr) (c:Nat) (l:List R2) (hl:l.length≤1048576) (w:World) (h:RdR w w.heap.size A l):
  Calls Tryz.prog 96 #[.slice A l.length c, .func (.func 97) #[] #[]] w fun e w'=>e= .returned (.bool (!allRight l))∧Below w.heap.size w w':=by
 have HC:=Lib.hid (index_any A c l hl w h)
 clear h
 cases ha:allRight l with
 |true=>
  have HA:=Lib.hid ha
  clear ha
  go_enter Tryz.func96,Tryz.ntmps96
  go_wp2_with (go_at_call 139;refine HC.out.mono ?_;rintro e w1 ⟨i,rfl,h1,h2,hb1⟩;(have hd:decide (i≥0)=false:=by rw [decide_eq_false_iff_not,ge_iff_le,h2,HA.out];decide);(have hd2:i<0:=by have:=of_decide_eq_false hd;omega);clear h2)
  go_ret
  exact ⟨rfl,hb1⟩
 |false=>
  have HA:=Lib.hid ha
  clear ha
  go_enter Tryz.func96,Tryz.ntmps96
  go_wp2_with (go_at_call 139;refine HC.out.mono ?_;rintro e w1 ⟨i,rfl,h1,h2,hb1⟩;(have hd:decide (i≥0)=true:=by rw [decide_eq_true_eq,ge_iff_le,h2,HA.out]);(have hd2:0≤i:=by have:=of_decide_eq_true hd;omega);clear h2)
  go_ret
  exact ⟨rfl,hb1⟩
end Go.Proofs.YtgbgngdakkiclaaGreatDoor.Px
namespace Go.Proofs.YtgbgngdakkiclaaGreatDoor.Px
open Go.RowKit Go.Shelf
namespace M
def printE (l:List Rc):Nat:=if l.all right=false then 34 else if 1000<l.length∨1048576<(lines l).length then 3 else 0
def printB (l:List Rc):List UInt8:=if printE l=0 then lines l else []
theorem printE_34 {l:List Rc} (h:l.all right=false):printE l=34:=by unfold printE;rw [if_pos h]
theorem printE_3 {l:List Rc} (h:l.all right=true) (h2:1000<l.length∨1048576<(lines l).length):printE l=3:=by unfold printE;rw [if_neg (by rw [h];decide),if_pos h2]
theorem printE_0 {l:List Rc} (h:l.all right=true) (h2: ¬ (1000<l.length∨1048576<(lines l).length)):printE l=0:=by unfold printE;rw [if_neg (by rw [h];decide),if_neg h2]
theorem printB_no {l:List Rc} (h:printE l≠0):printB l= []:=by unfold printB;rw [if_neg h]
theorem printB_0 {l:List Rc} (h:printE l=0):printB l=lines l:=by unfold printB;rw [if_pos h]
theorem lines_one (r:Rc):lines [r]=line r:=by simp [lines]
end M
theorem take_rcs_succ {l:List R2} {k:Nat} (hk:k<l.length):rcs (l.take (k+1))=rcs (l.take k)++ [rc l[k]]:=by
 rw [List.take_succ_eq_append_getElem hk,rcs_app];rfl
theorem lines_take_succ {l:List R2} {k:Nat} (hk:k<l.length):M.lines (rcs (l.take (k+1)))=M.lines (rcs (l.take k))++M.line (rc l[k]):=by
 rw [take_rcs_succ hk,M.lines_app,M.lines_one]
theorem lines_take_le {l:List R2} {k:Nat} :(M.lines (rcs (l.take k))).length≤(M.lines (rcs l)).length:=by
 conv=>rhs;rw [←List.take_append_drop k l,rcs_app,M.lines_app,List.length_append]
 omega
def PrintIs (k:IntKind) (l:List R2) (w:World) (e:Ending) (w':World):Prop:=
 ∃ v,e= .returned (.tuple #[v, .int k (M.printE (rcs l))])∧OwnB w' w.heap.size v (M.printB (rcs l))∧Below w.heap.size w w'
theorem PrintIs.no {k:IntKind} {l:List R2} {w w':World} {n:Nat} (h:M.printE (rcs l)=n) (hn:n≠0) (hb:Below w.heap.size w w'):PrintIs k l w (.returned (.tuple #[.slice none 0 0, .int k n])) w':=by
 refine ⟨_,by rw [h], ?_,hb⟩
 rw [M.printB_no (by rw [h];exact hn)]
 exact OwnB.nil _ _
theorem nDigits_le9 {n:Nat} (h:n<10^9):Lib.nDigits n≤9:=by
 rcases Nat.lt_or_ge n 10 with h1|h1
 ·rw [Lib.nDigits_small h1];omega
 rcases Nat.lt_or_ge n (10^2) with h2|h2
 ·rw [Lib.nDigits_unique 1 n (by omega) (by omega)];omega
 rcases Nat.lt_or_ge n (10^3) with h3|h3
 ·rw [Lib.nDigits_unique 2 n (by omega) (by omega)];omega
 rcases Nat.lt_or_ge n (10^4) with h4|h4
 ·rw [Lib.nDigits_unique 3 n (by omega) (by omega)];omega
 rcases Nat.lt_or_ge n (10^5) with h5|h5
 ·rw [Lib.nDigits_unique 4 n (by omega) (by omega)];omega
 rcases Nat.lt_or_ge n (10^6) with h6|h6
 ·rw [Lib.nDigits_unique 5 n (by omega) (by omega)];omega
 rcases Nat.lt_or_ge n (10^7) with h7|h7
 ·rw [Lib.nDigits_unique 6 n (by omega) (by omega)];omega
 rcases Nat.lt_or_ge n (10^8) with h8|h8
 ·rw [Lib.nDigits_unique 7 n (by omega) (by omega)];omega
 ·rw [Lib.nDigits_unique 8 n (by omega) (by omega)];omega
def Short (l:List R2):Prop:= ∀ r∈l,r.1.size+r.2.size≤10000000
set_option maxRecDepth 100000 in
set_option maxHeartbeats 4000000 in
theorem print_any (A:Option Addr) (c:Nat) (l:List R2) (hl:l.length≤1048576) (hsh:Short l) (B:Nat) (w:World) (hB:B≤w.heap.size) (ht:TB B w) (h:RdR w w.heap.size A l):
  Calls Tryz.prog 70 #[.slice A l.length c] w (PrintIs .u16 l w):=by
 have ht':TB w.heap.size w:=fun w' hb=>ht w' (hb.mono hB)
 have HT:=Lib.hid ht'
 have HSH:=Lib.hid hsh
 have HC:=Lib.hid (contains_any A c l hl w h)
 have HR:=Lib.hid h
 clear ht ht' hsh h
 cases ha:allRight l with
 |false=>
  have HE:=Lib.hid (M.printE_34 ha)
  rw [ha] at HC
  clear ha
  go_enter Tryz.func70,Tryz.ntmps70
  go_wp2_with (go_at_call 96;refine HC.out.mono ?_;rintro e w1 ⟨rfl,hb1⟩)
  go_ret2
  exact PrintIs.no HE.out (by decide) hb1
 |true=>
  rw [ha] at HC
  have HA:=Lib.hid ha
  clear ha
  by_cases hm:1000<l.length
  ·have HE:=Lib.hid (M.printE_3 HA.out (.inl (by rw [rcs_len];exact hm)))
   go_enter Tryz.func70,Tryz.ntmps70
   go_wp2_with (go_at_call 96;refine HC.out.mono ?_;rintro e w1 ⟨rfl,hb1⟩)
   go_ret2
   exact PrintIs.no HE.out (by decide) hb1
  ·have hm':l.length≤1000:=by omega
   clear hm
   go_enter Tryz.func70,Tryz.ntmps70
   go_wp2_with (go_at_call 96;refine HC.out.mono ?_;rintro e w1 ⟨rfl,hb1⟩)
   go_loopw [15,4,6,7] (fun i v _ _ wr=> ∃ k:Nat,i= .int .i64 k∧k≤l.length∧OwnB wr w.heap.size v (M.lines (rcs (l.take k)))∧(M.lines (rcs (l.take k))).length≤1048576∧Below w.heap.size w wr) (fun i _ _ _ _=>l.length - (intOf i).toNat)
   case atStart=>exact ⟨0,rfl,Nat.zero_le _,OwnB.nil _ _,by simp [rcs,M.lines],hb1⟩
   case round=>
    obtain ⟨k,rfl,hk,hown,hlen,hb⟩:=hrel
    have hbs:=hb.size
    by_cases hlt:k<l.length
    ·obtain ⟨b,off,rfl,hbb,hc1,hc2⟩:=(HR.out.below hb).at_ hlt
     have hrs:=HSH.out _ (List.getElem_mem hlt)
     have hnx:=lines_take_succ hlt
     have hle:=lines_take_le (l:=l) (k:=k+1)
     rw [hnx,List.length_append] at hle
     obtain ⟨r,hr⟩: ∃ r,l[k]=r:=⟨_,rfl⟩
     rw [hr] at hc1 hc2 hrs hnx hle
     obtain ⟨P,hP⟩: ∃ P,M.lines (rcs (l.take k))=P:=⟨_,rfl⟩
     rw [hP] at hown hlen hnx hle
     have hll:(M.line (rc r)).length=M.lineLen (rc r):=M.line_length (by rw [M.body_length];show r.1.size+r.2.size+3+8<_;omega)
     rw [hll] at hle
     obtain ⟨LL,hLL⟩: ∃ LL,M.lineLen (rc r)=LL:=⟨_,rfl⟩
     have hLb:LL≤10000100:=by
      rw [←hLL];unfold M.lineLen;rw [M.body_length]
      have:=M.wid_pos (M.body (rc r)).length
      rw [M.body_length] at this
      show r.1.size+r.2.size+3+M.wid (r.1.size+r.2.size+3)≤_
      have e:(rc r).1.length+(rc r).2.length+3=r.1.size+r.2.size+3:=rfl
      rw [e] at this
      omega
     have hline:M.line (rc r)=Lib.decDigits LL++M.body (rc r):=by rw [M.line_eq,hLL]
     rw [hLL] at hle hll
     have HLN:=Lib.hid hll
     have hwd: ∀ W,w.heap.size≤W.heap.size→TB w.heap.size W→Calls Tryz.prog 99 #[.agg #[.string r.1, .string r.2]] W fun e w'=>e= .returned (.int .i64 LL)∧Below W.heap.size W w':=by
      intro W h1 h2
      have:=width_any r hrs w.heap.size W h1 h2
      rwa [hLL] at this
     have HW:=Lib.hid hwd
     have HN:=Lib.hid hnx
     have HL:=Lib.hid hline
     have HP:=Lib.hid hP
     have HO:=Lib.hid hown
     have HLE:=Lib.hid hle
     clear hwd hnx hline hP hown hr hLL hll hle
     obtain ⟨s,t⟩:=r
     dsimp only at hc1 hc2 hrs HW
     have hb2:=hb.alloc (by omega) (.cells #[.string s, .string t] 47)
     have hbx:=BoxR.new wr s t
     have hw1:=HW.out (wr.alloc (.cells #[.string s, .string t] 47)) hb2.size (HT.out.on hb2)
     rcases Nat.lt_or_ge 1048576 (P.length+LL) with hbig|hfit
     ·have HE:=Lib.hid (M.printE_3 (l:=rcs l) HA.out (.inr (by have:=HLE.out;omega)))
      have HW1:=Lib.hid hw1
      have HL1:=Lib.hid (hlen)
      obtain ⟨A',c',rfl,_⟩:=HO.out.rd
      clear hw1
      by_cases hk0:k=0
      ·subst hk0
       simp only [Nat.zero_mul,Nat.add_zero] at hc1 hc2
       go_wp2_with (go_at_call 99;refine HW1.out.mono ?_;rintro e w2 ⟨rfl,hb3⟩)
       go_ret2
       exact PrintIs.no HE.out (by decide) (hb2.trans (hb3.mono hb2.size))
      ·have hk1:0<k:=by omega
       clear hk0
       go_wp2_with (go_at_call 99;refine HW1.out.mono ?_;rintro e w2 ⟨rfl,hb3⟩)
       go_ret2
       exact PrintIs.no HE.out (by decide) (hb2.trans (hb3.mono hb2.size))
     ·have HW1:=Lib.hid hw1
      obtain ⟨A',c',rfl,_⟩:=HO.out.rd
      have hD:(Lib.decDigits LL).length≤100:=by
       rw [Lib.decDigits_length]
       have h9:LL<10^8:=by omega
       rcases Nat.lt_or_ge 100 (Lib.nDigits LL) with hc|hc
       ·exact absurd (nDigits_le9 (n:=LL) (by omega)) (by omega)
       ·exact hc
      obtain ⟨D,hDD⟩: ∃ D,Lib.decDigits LL=D:=⟨_,rfl⟩
      rw [hDD] at HL hD
      have HD:=Lib.hid hDD
      clear hw1 hDD
      have hbxs:wr.heap.size<(wr.alloc (.cells #[.string s, .string t] 47)).heap.size:=by simp
      by_cases hk0:k=0
      case' pos=>
       subst hk0
       simp only [Nat.zero_mul,Nat.add_zero] at hc1 hc2
      case' neg=>
       have hk1:0<k:=by omega
       clear hk0
      all_goals
       go_wp2_with (go_at_call 99;refine HW1.out.mono ?_;rintro e w2 ⟨rfl,hb3⟩;refine Hid.out ?_)
       refine Lib.hid ?_
       have b2:=hb2.trans (hb3.mono hb2.size)
       have bx2:=hbx.below hb3 hbxs
       have o2:OwnB w2 w.heap.size (.slice A' P.length c') P:=(HO.out.alloc _).below hb3
       clear hbx hb3 hb2 hc1 hc2
       go_wp2_with (go_at_call 100;refine (Tryz.strconv_AppendInt_10 w.heap.size P.length LL (by omega) (by omega) _ _ w2 o2 b2.size (by omega) (HT.out.on b2)).mono ?_;rintro e w3 ⟨v3,rfl,ho3,hb3,hk3⟩;refine Hid.out ?_)
       refine Lib.hid ?_
       obtain ⟨P3,hP3⟩: ∃ P3,P3=P++D:=⟨_,rfl⟩
       have hn3:P3.length≤P.length+100:=by rw [hP3,List.length_append];omega
       have bx3:=bx2.kept hk3
       have b3:=b2.trans hb3
       have o3:OwnB w3 w.heap.size v3 P3:=by
        rw [Lib.itoa_nonneg,HD.out] at ho3
        rw [hP3]
        unfold OwnB
        rw [List.length_append]
        have e:Lib.byteCells (P++D)=Lib.byteCells P++Lib.byteCells D:=by simp [Lib.byteCells]
        rw [e]
        exact ho3
       have HP3:=Lib.hid hP3
       clear bx2 hk3 hb3 ho3 b2 o2 hP3
       go_wp2_with (at_builtin;refine wpList_app1 rfl (.tmp 29) (.tmp 30) rfl w.heap.size v3 P3 32 rfl rfl o3 b3.size rfl (by omega) ?_)
       intro v4 w4 P4 HP4 hn4 o4 hb4 hx4
       have bx4:=hx4 _ _ _ bx3
       have b4:=b3.trans hb4
       have c40:=bx4.cell0
       clear o3 bx3 hb4 hx4 b3
       go_wp2_with (at_builtin;refine wpList_appS rfl (.tmp 32) (.tmp 34) rfl w.heap.size v4 P4 s rfl o4 b4.size rfl (by omega) (by omega) ?_)
       intro v5 w5 P5 HP5 hn5 o5 hb5 hx5
       have bx5:=hx5 _ _ _ bx4
       have b5:=b4.trans hb5
       clear o4 bx4 hb5 hx5 b4 c40
       go_wp2_with (at_builtin;refine wpList_app1 rfl (.tmp 36) (.tmp 37) rfl w.heap.size v5 P5 61 rfl rfl o5 b5.size rfl (by omega) ?_)
       intro v6 w6 P6 HP6 hn6 o6 hb6 hx6
       have bx6:=hx6 _ _ _ bx5
       have b6:=b5.trans hb6
       have c61:=bx6.cell1
       clear o5 bx5 hb6 hx6 b5
       go_wp2_with (at_builtin;refine wpList_appS rfl (.tmp 39) (.tmp 41) rfl w.heap.size v6 P6 t rfl o6 b6.size rfl (by omega) (by omega) ?_)
       intro v7 w7 P7 HP7 hn7 o7 hb7 hx7
       have b7:=b6.trans hb7
       clear o6 bx6 hb7 hx7 b6 c61
       go_wp2_with (at_builtin;refine wpList_app1 rfl (.tmp 43) (.tmp 44) rfl w.heap.size v7 P7 10 rfl rfl o7 b7.size rfl (by omega) ?_)
       intro v8 w8 P8 HP8 hn8 o8 hb8 hx8
       have b8:=b7.trans hb8
       clear o7 hb8 hx8 b7
       go_wp2
       go_roundw
       case rel=>
        refine ⟨_,(show Value.int .i64 _=Value.int .i64 ((_+1:Nat):Int) by go_num),by omega, ?_, ?_,b8⟩
        ·rw [HN.out,HL.out]
         have e:P++(D++M.body (rc (s,t)))=P++D++ [32]++tl s++ [61]++tl t++ [10]:=by
          show P++(D++32::(tl s++61::(tl t++ [10])))=_
          simp
         rw [e,←HP3.out,←HP4.out,←HP5.out,←HP6.out,←HP7.out,←HP8.out]
         exact o8
        ·rw [HN.out,List.length_append]
         have:=HLN.out
         omega
       case measure=>simp [intOf];omega
    ·obtain rfl:k=l.length:=by omega
     rw [List.take_length] at hown hlen
     have HE:=Lib.hid (M.printE_0 (l:=rcs l) HA.out (by rw [rcs_len];omega))
     have HO:=Lib.hid hown
     clear hown hlt hlen
     go_wp2
     go_ret2
     refine ⟨_,by rw [HE.out];rfl, ?_,hb⟩
     rw [M.printB_0 HE.out];exact HO.out
end Go.Proofs.YtgbgngdakkiclaaGreatDoor.Px
namespace Go.Proofs.YtgbgngdakkiclaaGreatDoor.Px
open Go.RowKit Go.Shelf
end Go.Proofs.YtgbgngdakkiclaaGreatDoor.Px
namespace Go.Proofs.YtgbgngdakkiclaaGreatDoor.Px
open Go.RowKit Go.Shelf Go.Maps
def Fits (l:List R2):Prop:= ∀ r∈l,r.1.size≤maxLen∧r.2.size≤maxLen
theorem OwnR.lower {w:World} {b b2:Nat} {v:Value} {l:List R2} (h:OwnR w b v l) (hb:b2≤b):OwnR w b2 v l:=by
 refine ⟨h.1, ?_⟩
 rcases h.2 with hn|⟨g,cap,cur,hv,hb2,rest⟩
 ·exact .inl hn
 ·exact .inr ⟨g,cap,cur,hv,Nat.le_trans hb hb2,rest⟩
theorem zero_string (w:World):(zeroValue 9).run Tryz.prog w= .ok (.string ⟨#[]⟩) w:=by
 obtain ⟨i0,hi,hz0,hz1,hz2⟩:=info_parts infoS
 simp [zeroValue,typeInfo,hi,hz0]
def MapOf (w:World) (b n:Nat) (D:DataW Unit):Prop:=w.ownsMap Tryz.prog 9 (plainElem Tryz.prog 9) b n D
theorem look_string {w:World} {b n:Nat} {D:DataW Unit} {p:List R2} (h:MapOf w b n D) (hD:DF D p) (x:List UInt8) (hx:x.length≤maxLen):
  ∃ s:ByteArray,(Instr.lookup 145 (.map (some b)) (.string ⟨x.toArray⟩) false).run Tryz.prog w= .ok (.string s) w∧tl s=((M.find (rcs p) x).getD [])∧s.size≤maxLen:=by
 obtain ⟨v,ps,hrun,hv⟩:=World.ownsMap.lookup h (string_keyed Tryz.underlying9) Tryz.underlying145 (zero_string w) (plainElem_string Tryz.underlying9 (s:=⟨#[]⟩) (Nat.zero_le _)) (WideMaps.keyOf_string_mk Tryz.underlying9 (s:=⟨x.toArray⟩) hx)
 obtain ⟨s,rfl,hs,hl⟩:=plainString_inv Tryz.underlying9 hv
 refine ⟨s,hrun, ?_,hl⟩
 have h2:=hD.2.1 x
 dsimp only at hs
 have e:(DataW.atKey D (.string x) (.lit (.string [])))= .lit (.string (tl s)):=hs
 rw [h2] at e
 exact (Lit.string.inj (DataW.lit.inj e)).symm
set_option maxRecDepth 100000 in
set_option maxHeartbeats 8000000 in
theorem merge_own (A1:Option Addr) (c1:Nat) (l:List R2) (A2:Option Addr) (c2:Nat) (m:List R2) (hl:l.length≤1048576) (hm:m.length≤1048576) (fl:Fits l) (fm:Fits m) (w:World) (h1:RdR w w.heap.size A1 l) (h2:RdR w w.heap.size A2 m):
  Calls Tryz.prog 69 #[.slice A1 l.length c1, .slice A2 m.length c2] w (fun e w'=> ∃ A c rs,e= .returned (.slice A rs.length c)∧RdR w' w'.heap.size A rs∧rs.length≤c∧c≤maxLen∧rcs rs=M.merge ltB (rcs l) (rcs m)∧rs.length≤l.length+m.length∧Below w.heap.size w w'∧OwnR w' w.heap.size (.slice A rs.length c) rs):=by
 have HR1:=Lib.hid h1
 have HR2:=Lib.hid h2
 have HF1:=Lib.hid fl
 have HF2:=Lib.hid fm
 have hmm:= @run_makeMap Tryz.prog
 clear h1 h2 fl fm
 go_enter Tryz.func69,Tryz.ntmps69
 go_wp2
 clear hmm
 go_loopw [17,7] (fun i _ wr=> ∃ (k:Nat) (D:DataW Unit),i= .int .i64 k∧k≤l.length∧MapOf wr w.heap.size k D∧Hid (DF D (l.take k))∧Below w.heap.size w wr) (fun i _ _=>l.length - (intOf i).toNat)
 case atStart=>exact ⟨0, .map [],rfl,Nat.zero_le _,World.ownsMap_made _ _ _ _,Lib.hid DF.nil,(Below.refl _ w).alloc (Nat.le_refl _) _⟩
 case round=>
  obtain ⟨k,D,rfl,hk,hown,hdf,hb⟩:=hrel
  have hbs:=hb.size
  by_cases hlt:k<l.length
  ·obtain ⟨b,off,rfl,hbb,hc1,hc2⟩:=(HR1.out.below hb).at_ hlt
   have hrs:=HF1.out _ (List.getElem_mem hlt)
   have HD2:=Lib.hid (show DF _ (l.take (k+1)) by rw [List.take_succ_eq_append_getElem hlt];exact hdf.out.put _)
   obtain ⟨r,hr⟩: ∃ r,l[k]=r:=⟨_,rfl⟩
   rw [hr] at hc1 hc2 hrs HD2
   obtain ⟨s,t⟩:=r
   dsimp only at hc1 hc2 hrs HD2
   have hb2:=hb.alloc (by omega) (.cells #[.string s, .string t] 47)
   have hbx:=BoxR.new wr s t
   have HO:=Lib.hid hown
   have HS:=Lib.hid hrs
   clear hr hown hrs
   by_cases hk0:k=0
   case' pos=>
    subst hk0
    simp only [Nat.zero_mul,Nat.add_zero] at hc1 hc2
   case' neg=>
    have hk1:0<k:=by omega
    clear hk0
   all_goals
    go_wp2_with (at_mapUpdate;refine wpList_mapUpdate_own _ rfl _ _ _ 145 rfl 9 9 (string_keyed Tryz.underlying9) Tryz.underlying145 (plainElem Tryz.prog 9) w.heap.size _ D rfl (HO.out.alloc _) (by unfold maxLen;omega) (.string s) (.string t) (.string (tl s)) rfl rfl (WideMaps.keyOf_string_mk Tryz.underlying9 HS.out.1) (.lit (.string (tl t))) [] (plainElem_string Tryz.underlying9 HS.out.2) ?_;intro w1 hown1 hgrow1)
    have hb3:=hb2.grown hgrow1 hb2.size (fun g hg=>by injection hg with hg;omega)
    go_wp2
    go_roundw
    case rel=>exact ⟨_,_,(show Value.int .i64 _=Value.int .i64 ((_+1:Nat):Int) by go_num),by omega,hown1,HD2,hb3⟩
    case measure=>simp [intOf];omega
  ·have hke:k=l.length:=by omega
   subst hke
   have HD1:=Lib.hid (show DF D l by have:=hdf.out;rwa [List.take_length] at this)
   have HO1:=Lib.hid hown
   have hb1:=hb
   have W1:=hbs
   clear hdf hown hb hbs hlt hk
   go_wp2
   go_loopw [29,9] (fun i _ wr=> ∃ (k:Nat) (D:DataW Unit),i= .int .i64 k∧k≤m.length∧MapOf wr w.heap.size (l.length+k) D∧Hid (DF D (l++m.take k))∧Below w.heap.size w wr) (fun i _ _=>m.length - (intOf i).toNat)
   case atStart=>exact ⟨0,D,rfl,Nat.zero_le _,HO1.out,Lib.hid (by rw [List.take_zero,List.append_nil];exact HD1.out),hb1⟩
   case round=>
    obtain ⟨k,D,rfl,hk,hown,hdf,hb⟩:=hrel
    have hbs:=hb.size
    by_cases hlt:k<m.length
    ·obtain ⟨b,off,rfl,hbb,hc1,hc2⟩:=(HR2.out.below hb).at_ hlt
     have hrs:=HF2.out _ (List.getElem_mem hlt)
     have HD2:=Lib.hid (show DF _ (l++m.take (k+1)) by rw [List.take_succ_eq_append_getElem hlt,←List.append_assoc];exact hdf.out.put _)
     obtain ⟨r,hr⟩: ∃ r,m[k]=r:=⟨_,rfl⟩
     rw [hr] at hc1 hc2 hrs HD2
     obtain ⟨s,t⟩:=r
     dsimp only at hc1 hc2 hrs HD2
     have hb2:=hb.alloc (by omega) (.cells #[.string s, .string t] 47)
     have hbx:=BoxR.new wr s t
     have HO:=Lib.hid hown
     have HS:=Lib.hid hrs
     clear hr hown hrs
     by_cases hk0:k=0
     case' pos=>
      subst hk0
      simp only [Nat.zero_mul,Nat.add_zero] at hc1 hc2
     case' neg=>
      have hk1:0<k:=by omega
      clear hk0
     all_goals
      go_wp2_with (at_mapUpdate;refine wpList_mapUpdate_own _ rfl _ _ _ 145 rfl 9 9 (string_keyed Tryz.underlying9) Tryz.underlying145 (plainElem Tryz.prog 9) w.heap.size _ D rfl (HO.out.alloc _) (by unfold maxLen;omega) (.string s) (.string t) (.string (tl s)) rfl rfl (WideMaps.keyOf_string_mk Tryz.underlying9 HS.out.1) (.lit (.string (tl t))) [] (plainElem_string Tryz.underlying9 HS.out.2) ?_;intro w1 hown1 hgrow1)
      have hb3:=hb2.grown hgrow1 hb2.size (fun g hg=>by injection hg with hg;omega)
      go_wp2
      go_roundw
      case rel=>exact ⟨_,_,(show Value.int .i64 _=Value.int .i64 ((_+1:Nat):Int) by go_num),by omega,hown1,HD2,hb3⟩
      case measure=>simp [intOf];omega
    ·have hke:k=m.length:=by omega
     subst hke
     have HD3:=Lib.hid (show DF D (l++m) by have:=hdf.out;rwa [List.take_length] at this)
     have HO3:=Lib.hid hown
     clear hdf hown hlt hk HD1 HO1 hb1 W1
     have hkeys:=fun W=>(callsIn_wide (n:=5)).1 (Tryz.maps_keys (some w.heap.size) W)
     have hsorted:=(callsIn_wide (n:=5)).1 (Tryz.sorted_keys w.heap.size _ D _ _ HO3.out (Nat.le_trans (size_le HO3.out) (by unfold maxLen;omega)) (by have:=size_le HO3.out;omega))
     have HSO:=Lib.hid hsorted
     clear hsorted
     go_wp2_with (first
      |(go_at_call 95;refine (hkeys _).mono ?_;rintro e w4 ⟨rfl,rfl⟩)
      |(go_at_call 94;refine HSO.out.mono ?_;rintro e w5 ⟨v,ss,rfl,hperm,hrow,_,hb5⟩;obtain ⟨A5,c5,rfl,hrs5,hkl5,hlc5,hcm5⟩:=row_rd hrow))
     have hmap5:MapOf w5 w.heap.size (l.length+m.length) D:=ownsMap_below (World.ownsMap.alloc HO3.out _) hb5 (by have:=World.ownsMap.lt HO3.out;rw [World.size_alloc];omega)
     have hmb:w.heap.size<w5.heap.size:=World.ownsMap.lt hmap5
     have hnd:=(hperm.nodup_iff).2 (nodup_strKeys HO3.out Tryz.underlying9)
     have hpw:=sorted_lt hnd
     have hmem: ∀ k,k∈ss.mergeSort leB↔(M.find (rcs (l++m)) k).isSome=true:=fun k=>by
      rw [(List.mergeSort_perm ss leB).mem_iff,hperm.mem_iff,mem_strKeys HO3.out Tryz.underlying9,HD3.out.2.2 k]
     have hmerge:=merge_keys hpw hmem
     have hlen5: ∀ x∈ss.mergeSort leB,x.length≤maxLen:=fun x hx=>strKeys_le HO3.out Tryz.underlying9 x (hperm.mem_iff.1 ((List.mergeSort_perm ss leB).mem_iff.1 hx))
     have hcount:ss.length≤l.length+m.length:=by
      rw [hperm.length_eq]
      refine Nat.le_trans ?_ (size_le HO3.out)
      obtain ⟨es,rfl⟩:=HD3.out.1
      show (es.map _).length≤es.length
      rw [List.length_map];exact Nat.le_refl _
     have hb6:Below w.heap.size w w5:=(hb.alloc hbs _).trans (hb5.mono (by rw [World.size_alloc];omega))
     have hLm:M.merge ltB (rcs (l++m)) []=M.merge ltB (rcs l) (rcs m):=by rw [rcs_app,M.merge_app]
     rw [hLm] at hmerge
     obtain ⟨ks,hks⟩: ∃ ks,ss.mergeSort leB=ks:=⟨_,rfl⟩
     have hrsK:RdS w5 w5.heap.size A5 ks:=by rw [←hks];exact hrs5
     have hkl:ss.length=ks.length:=by rw [←hks];exact hkl5.symm
     rw [hks] at hlen5 hmerge
     rw [hkl] at hlc5 hcount⊢
     have HK:=Lib.hid hrsK
     have HM5:=Lib.hid hmap5
     have HL5:=Lib.hid hlen5
     have HME:=Lib.hid hmerge
     clear hrsK hmap5 hlen5 hmerge hrs5 hrow hkl5 hperm hnd hpw hmem hks hkl hLm HSO hkeys HO3
     go_wp2
     go_loopw [43,10,12,13] (fun i v _ _ wy=> ∃ (k:Nat) (rs:List R2),i= .int .i64 k∧k≤ks.length∧OwnR wy w5.heap.size v rs∧Hid (rcs rs=((ks.take k).map (pick (rcs (l++m)))).filter M.hasValue)∧rs.length≤k∧Below w5.heap.size w5 wy) (fun i _ _ _ _=>ks.length - (intOf i).toNat)
     case atStart=>exact ⟨0, [],rfl,Nat.zero_le _,OwnR.nil _ _,Lib.hid rfl,Nat.zero_le _,Below.refl _ _⟩
     case round=>
      obtain ⟨k,rs,rfl,hk,hown,hrs,hrk,hby⟩:=hrel
      have hbys:=hby.size
      by_cases hlt:k<ks.length
      ·obtain ⟨b,off,rfl,hbb,hc1⟩:=(HK.out.below hby).at_ hlt
       have hx:=HL5.out _ (List.getElem_mem hlt)
       obtain ⟨s,hrun,hs,hsl⟩:=look_string (ownsMap_below HM5.out hby hmb) HD3.out ks[k] hx
       have htk:(ks.take (k+1)).map (pick (rcs (l++m)))=(ks.take k).map (pick (rcs (l++m)))++ [(ks[k],tl s)]:=by
        rw [List.take_succ_eq_append_getElem hlt,List.map_append,hs];rfl
       have HT:=Lib.hid htk
       have HO:=Lib.hid hown
       have HRS:=Lib.hid hrs
       obtain ⟨x,hxe⟩: ∃ x,ks[k]=x:=⟨_,rfl⟩
       rw [hxe] at hc1 hrun HT
       clear htk hown hrs hs hxe hx
       have hfl:(((ks.take k).map (pick (rcs (l++m)))++ [(x,tl s)]).filter M.hasValue)=rcs rs++(if s.toList.isEmpty=true then [] else [(x,tl s)]):=by
        rw [List.filter_append,←HRS.out]
        congr 1
        rw [tl_eq]
        unfold M.hasValue
        cases he:(tl s).isEmpty<;>simp [he]
       rw [←HT.out] at hfl
       have HFL:=Lib.hid hfl
       have hk9:rs.length≤100000000:=by omega
       clear hfl
       cases hE:s.toList.isEmpty with
       |true=>
        have hE2:(!s.toList.isEmpty)=false:=by rw [hE];rfl
        rw [hE] at HFL
        have HN:=Lib.hid (show rcs rs=_ from (by rw [HFL.out,if_pos rfl,List.append_nil]:((ks.take (k+1)).map (pick (rcs (l++m)))).filter M.hasValue=rcs rs).symm)
        clear HFL HT hE
        by_cases hk0:k=0
        case' pos=>
         subst hk0
         simp only [Nat.add_zero] at hc1
        case' neg=>
         have hk1:0<k:=by omega
         clear hk0
        all_goals
         go_wp2
         go_roundw
         case rel=>exact ⟨_,rs,(show Value.int .i64 _=Value.int .i64 ((_+1:Nat):Int) by go_num),by omega,HO.out,HN,by omega,hby⟩
         case measure=>simp [intOf];omega
       |false=>
        have hE2:(!s.toList.isEmpty)=true:=by rw [hE];rfl
        rw [hE] at HFL
        have HN:=Lib.hid (show ((ks.take (k+1)).map (pick (rcs (l++m)))).filter M.hasValue=rcs (rs++ [(⟨x.toArray⟩,s)]) by rw [HFL.out,rcs_app];rfl)
        clear HFL HT hE
        by_cases hk0:k=0
        case' pos=>
         subst hk0
         simp only [Nat.add_zero] at hc1
        case' neg=>
         have hk1:0<k:=by omega
         clear hk0
        all_goals
         go_wp2_with (at_builtin;refine wpList_appR rfl (.tmp 52) (.tmp 56) rfl w5.heap.size u10 rs (⟨x.toArray⟩,s) rfl rfl rfl HO.out hbys rfl hk9 ?_)
         intro v6 w6 rs' HRS' hn6 o6 hb7 hg7
         have b6:=hby.trans hb7
         have HN2:=Lib.hid ((congrArg rcs HRS'.out).trans HN.out.symm)
         clear hb7 hg7 HRS'
         go_wp2
         go_roundw
         case rel=>exact ⟨_,rs',(show Value.int .i64 _=Value.int .i64 ((_+1:Nat):Int) by go_num),by omega,o6,HN2,by omega,b6⟩
         case measure=>simp [intOf];omega
      ·have hke:k=ks.length:=by omega
       subst hke
       have HRS:=Lib.hid (show rcs rs=M.merge ltB (rcs l) (rcs m) by have:=hrs.out;rwa [List.take_length,HME.out] at this)
       have HOW:=Lib.hid (OwnR.lower hown hb6.size)
       obtain ⟨A7,c7,rfl,hr7,hc7,hm7⟩:=hown.rd
       have HR7:=Lib.hid hr7
       clear hown hr7 hrs hlt hk
       go_wp2
       go_ret
       exact ⟨A7,c7,rs,rfl,HR7.out,hc7,hm7,HRS.out,by omega,hb6.trans (hby.mono hb6.size),HOW.out⟩
end Go.Proofs.YtgbgngdakkiclaaGreatDoor.Px
namespace Go.Proofs.YtgbgngdakkiclaaGreatDoor.Px
open Go.RowKit Go.Shelf
attribute [local go_sem] Oper.semAt_some
end Go.Proofs.YtgbgngdakkiclaaGreatDoor.Px
namespace Go.Proofs.YtgbgngdakkiclaaGreatDoor.Px
open Go.RowKit Go.Shelf
attribute [local go_sem] Oper.semAt_some
def NoKey (key:ByteArray) (pre:List (Nat × R2)):Prop:= ∀ x∈pre,tl x.2.1≠tl key
theorem NoKey.snoc {key:ByteArray} {pre:List (Nat × R2)} {x:Nat × R2} (h:NoKey key pre) (hx:tl x.2.1≠tl key):NoKey key (pre++ [x]):=fun y hy=>by
 rcases List.mem_append.1 hy with hy|hy
 ·exact h y hy
 ·rw [List.mem_singleton] at hy
  subst hy
  exact hx
end Go.Proofs.YtgbgngdakkiclaaGreatDoor.Px
