import Derived.Test.YtgbgngdakkiclaaGreatDoorMtTextZ
import Derived.Test.YtgbgngdakkiclaaGreatDoorMtMathZ
import Derived.Test.YtgbgngdakkiclaaGreatDoorKN
import Derived.Test.YtgbgngdakkiclaaGreatDoorKT
import Derived.Test.YtgbgngdakkiclaaGreatDoorKS
set_option linter.unusedVariables false
set_option linter.unusedSimpArgs false
namespace Go.Proofs.YtgbgngdakkiclaaGreatDoor
open Go.RowKit Go.Lib
open Px (R2 tl)
structure Fg (g:Nat) (w w':World):Prop where
 os:w'.os=w.os
 tape:w'.tape=w.tape
 output:w'.output=w.output
 size:w.heap.size≤w'.heap.size
 block: ∀ k,k<w.heap.size→k≠g→w'.heap[k]?=w.heap[k]?
section
variable {g:Nat} {w w' w'':World}
theorem Fg.refl (g:Nat) (w:World):Fg g w w:=⟨rfl,rfl,rfl,Nat.le_refl _,fun _ _ _=>rfl⟩
theorem Fg.trans (h:Fg g w w') (h':Fg g w' w''):Fg g w w'':=⟨h'.os.trans h.os,h'.tape.trans h.tape,h'.output.trans h.output,Nat.le_trans h.size h'.size,fun k hk hn=>(h'.block k (Nat.lt_of_lt_of_le hk h.size) hn).trans (h.block k hk hn)⟩
theorem Fg.of_below (h:Below w.heap.size w w'):Fg g w w':=⟨h.os,h.tape,h.output,h.size,fun k hk _=>h.block k hk⟩
theorem Fg.set (w:World) (g i:Nat) (v:Value):Fg g w (w.setCell ⟨g,i,none⟩ v):=by
 have h:=(Below.refl g w).setCell (p:=⟨g,i,none⟩) (Nat.le_refl _) v
 exact ⟨h.os,h.tape,h.output,h.size,fun k _ hn=>heap_setCell_other w ⟨g,i,none⟩ k v hn⟩
theorem Fg.drew (h:Fg g w w'):Fg g w w'.drew:=⟨h.os,h.tape,h.output,h.size,h.block⟩
theorem Fg.below {B:Nat} {w0:World} (h:Fg g w w') (hb:Below B w0 w) (hg:B≤g) (hB:B≤w.heap.size):Below B w0 w':=
 hb.trans ⟨h.os,h.tape,h.output,h.size,fun k hk=>h.block k (Nat.lt_of_lt_of_le hk hB) (by omega)⟩
end
def BoxP (w:World) (b g i:Nat):Prop:=w.cell? ⟨b,0,none⟩=some (.pointer (some ⟨g,i,none⟩))
theorem hset0 (h:M.Hdr) (pv:Value) (s:ByteArray):(hcells h pv).set! 0 (.string s)=hcells { h with name:=s } pv:=rfl
theorem hset13 (h:M.Hdr) (pv:Value) (s:ByteArray):(hcells h pv).set! 13 (.string s)=hcells { h with pre:=s } pv:=rfl
set_option maxRecDepth 100000 in
set_option maxHeartbeats 2000000 in
theorem giveName_any (b g:Nat) (h:M.Hdr) (pv:Value) (w:World) (hb:BoxP w b g 0) (hne:b≠g) (hh:HB w g h pv) (hs:h.name.size≤1048576):
  Calls Tryz.prog 124 #[.pointer (some ⟨b,0,none⟩)] w fun e w'=>e= .returned (.tuple #[.string h.name, .bool (!(M.split h.name).2.2)])∧HB w' g { h with pre:=(M.split h.name).1,name:=(M.split h.name).2.1 } pv∧Fg g w w':=by
 have HH:=hid hh
 have hbc:w.cell? ⟨b,0,none⟩=some (.pointer (some ⟨g,0,none⟩)):=hb
 have c0:=hh.cell (i:=0) (v:= .string h.name) rfl
 have HS:=hid (fun W=>split_any h.name hs W)
 unfold splitV at HS
 have hbl:b<w.heap.size:=World.block_lt_of_cell? _ _ hbc
 clear hb hh
 generalize (M.split h.name).1=p at*
 generalize (M.split h.name).2.1=n at*
 generalize (M.split h.name).2.2=ok at*
 go_enter Tryz.func124,Tryz.ntmps124
 go_wp2_with fail
 refine (HS.out _).mono ?_
 rintro e w1 ⟨rfl,hb1⟩
 have H1:=hid (HB.below HH.out hb1 HH.out.lt)
 have b1:w1.cell? ⟨b,0,none⟩=some (.pointer (some ⟨g,0,none⟩)):=(hb1.cell (p:=⟨b,0,none⟩) hbl).trans hbc
 have F1:=hid (Fg.of_below (g:=g) hb1)
 have z0:=H1.out.cell (i:=0) (v:= .string h.name) rfl
 have z13:=H1.out.cell (i:=13) (v:= .string h.pre) rfl
 have f0:=H1.out.frozen 0
 have f13:=H1.out.frozen 13
 clear hbc c0 hb1 HH HS
 go_upto_region 3 with fail
 go_region
 have HX:=hid (show HB ((w1.setCell ⟨g,13,none⟩ (.string p)).setCell ⟨g,0,none⟩ (.string n)).drew g { h with pre:=p,name:=n } pv from ((H1.out.set 13 (.string p) (hset13 h pv p)).set 0 (.string n) (hset0 _ pv n)))
 have HY:=hid (show Fg g w ((w1.setCell ⟨g,13,none⟩ (.string p)).setCell ⟨g,0,none⟩ (.string n)).drew from ((F1.out.trans (Fg.set _ g 13 _)).trans (Fg.set _ g 0 _)).drew)
 go_wp2
 go_ret2
 exact ⟨rfl,HX.out,HY.out⟩
def TextPost (w:World) (g i:Nat) (s:ByteArray) (wide:Nat) (e:Ending) (w':World):Prop:=
 e= .returned (.tuple #[.string s, .bool (decide (wide<s.size))])∧w'.heap[g]?=(w.setCell ⟨g,i,none⟩ (.string (s.extract 0 wide))).heap[g]?∧Fg g w w'
theorem extract_min (s:ByteArray) (n:Nat):s.extract 0 (min s.size n)=s.extract 0 n:=by
 apply Px.tl_inj
 show Px.tl _=Px.tl _
 have e:=M.size_ext s 0 (min s.size n)
 have e2:=M.size_ext s 0 n
 rw [e,e2]
 rw [List.drop_zero,List.drop_zero]
 by_cases h:s.size≤n
 ·rw [Nat.min_eq_left h,List.take_of_length_le (by rw [Px.tl_len];exact Nat.le_refl _),List.take_of_length_le (by rw [Px.tl_len];exact h)]
 ·rw [Nat.min_eq_right (by omega)]
theorem extract_ne (s:ByteArray) (n:Nat):((s.extract 0 n).toList==s.toList)= !decide (n<s.size):=by
 rw [ByteArray.toList_eq,ByteArray.toList_eq]
 by_cases h:n<s.size
 ·have:((s.extract 0 n).data.toList==s.data.toList)=false:=by
   rw [beq_eq_false_iff_ne]
   intro e
   have:=congrArg List.length e
   rw [show (s.extract 0 n).data.toList.length=(s.extract 0 n).size from rfl,show s.data.toList.length=s.size from rfl,ByteArray.size_extract] at this
   omega
  rw [this,decide_eq_true h];rfl
 ·rw [M.extract_all (by omega),decide_eq_false h];simp
set_option maxRecDepth 100000 in
set_option maxHeartbeats 2000000 in
theorem giveText_any (b k g i:Nat) (s:ByteArray) (wide:Nat) (w:World) (hb:BoxP w b g i) (hk:w.cell? ⟨k,0,none⟩=some (.int .i64 wide)) (hbg:b≠g) (hkg:k≠g) (hc:w.cell? ⟨g,i,none⟩=some (.string s)) (hf:w.frozen? ⟨g,i,none⟩=false) (hs:s.size≤1048576) (hw:wide≤1000):
  Calls Tryz.prog 126 #[.pointer (some ⟨b,0,none⟩), .pointer (some ⟨k,0,none⟩)] w (TextPost w g i s wide):=by
 have hbc:w.cell? ⟨b,0,none⟩=some (.pointer (some ⟨g,i,none⟩)):=hb
 clear hb
 have hmin:min (s.size:Int) (wide:Int)=((min s.size wide:Nat):Int):=by omega
 have hE:=extract_min s wide
 have HNE:=hid (extract_ne s wide)
 have h1:min s.size wide≤s.size:=Nat.min_le_left _ _
 generalize min s.size wide=mn at*
 obtain ⟨x,hx⟩: ∃ x,s.extract 0 wide=x:=⟨_,rfl⟩
 rw [hx] at hE HNE
 have HX:=hid hx
 clear hx
 go_enter Tryz.func126,Tryz.ntmps126
 go_wp2_with fail
 go_region
 go_wp2_with fail
 go_quiet (fail)
 go_wp2
 go_ret2
 refine ⟨by rw [HNE.out,Bool.not_not];rfl,by rw [HX.out];rfl, ?_⟩
 have F:=Fg.set w g i (.string x)
 exact ⟨F.os,F.tape,F.output,F.size,F.block⟩
def NumPost (w:World) (g i:Nat) (n:Int) (ok:Bool) (t:List UInt8) (e:Ending) (w':World):Prop:=
 e= .returned (.tuple #[.string (if ok then ⟨#[]⟩ else ⟨t.toArray⟩), .bool (!ok)])∧w'.heap[g]?=(if ok then w else w.setCell ⟨g,i,none⟩ (.int .i64 0)).heap[g]?∧Fg g w w'
theorem Fg.kept {g:Nat} {w w1 w2:World} (hg:g<w.heap.size) (h1:Below w.heap.size w w1) (v:Value) (i:Nat) {cs:Array Value} {t:TypeId} (hc:w.heap[g]?=some (.cells cs t (0,0))) (h2:Below (w1.setCell ⟨g,i,none⟩ v).heap.size (w1.setCell ⟨g,i,none⟩ v) w2):
  w2.heap[g]?=(w.setCell ⟨g,i,none⟩ v).heap[g]?∧Fg g w w2:=by
 have e1:w1.heap[g]?=some (.cells cs t (0,0)):=(h1.block g hg).trans hc
 refine ⟨?_, ?_⟩
 ·rw [h2.block g (by have:=h1.size;simp;omega),heap_setCell_same w1 g i _ _ v e1,heap_setCell_same w g i _ _ v hc]
 ·refine (Fg.of_below (g:=g) h1).trans ((Fg.set w1 g i v).trans ⟨h2.os,h2.tape,h2.output,h2.size,fun k hk _=>h2.block k hk⟩)
set_option maxRecDepth 100000 in
set_option maxHeartbeats 2000000 in
theorem giveNumber_any (b k g i:Nat) (n:Int) (wide:Int) (cs:Array Value) (t:TypeId) (B:Nat) (w:World) (hb:BoxP w b g i) (hk:w.cell? ⟨k,0,none⟩=some (.int .i64 wide)) (hbg:b≠g) (hkg:k≠g) (hh:w.heap[g]?=some (.cells cs t (0,0))) (hc:w.cell? ⟨g,i,none⟩=some (.int .i64 n))
  (hn: -9223372036854775808≤n∧n≤9223372036854775807) (hB:B≤w.heap.size) (hBg:B≤g) (ht:Sp.EV B w):
  Calls Tryz.prog 129 #[.pointer (some ⟨b,0,none⟩), .pointer (some ⟨k,0,none⟩)] w (NumPost w g i n (M.fits n wide) (Lib.itoa n)):=by
 have hbc:w.cell? ⟨b,0,none⟩=some (.pointer (some ⟨g,i,none⟩)):=hb
 have hbl:b<w.heap.size:=World.block_lt_of_cell? _ _ hbc
 have hgl:g<w.heap.size:=World.block_lt_of_cell? _ _ hc
 have HP:=hid (fun W=>Nm.putOctal_any n wide W)
 have HT:=hid ht
 have HH:=hid hh
 clear hb ht hh
 unfold M.fits
 generalize Nm.M.octR n wide=rr at HP
 cases hok:Nm.M.octFits n wide with
 |true=>
  rw [hok] at HP
  clear hok
  go_enter Tryz.func129,Tryz.ntmps129
  go_wp2_with fail
  refine (HP.out _).mono ?_
  rintro e w1 ⟨A,N,rfl,_,hb1⟩
  have HB1:=hid hb1
  clear hb1
  go_wp2
  go_ret2
  exact ⟨rfl,HB1.out.block g hgl,Fg.of_below HB1.out⟩
 |false=>
  rw [hok] at HP
  clear hok
  go_enter Tryz.func129,Tryz.ntmps129
  go_wp2_with fail
  refine (HP.out _).mono ?_
  rintro e w1 ⟨A,N,rfl,_,hb1⟩
  have HB1:=hid hb1
  have c1:w1.cell? ⟨b,0,none⟩=some (.pointer (some ⟨g,i,none⟩)):=(hb1.cell (p:=⟨b,0,none⟩) hbl).trans hbc
  have c2:w1.cell? ⟨g,i,none⟩=some (.int .i64 n):=(hb1.cell (p:=⟨g,i,none⟩) hgl).trans hc
  have f1:w1.frozen? ⟨g,i,none⟩=false:=frozen_of_row w1 g i _ _ ((hb1.block g hgl).trans HH.out)
  have HT1:=hid (show Sp.EV B (w1.setCell ⟨g,i,none⟩ (.int .i64 0)) from HT.out.on ((hb1.mono hB).setCell (p:=⟨g,i,none⟩) hBg _))
  clear hb1 hbc hc
  go_wp2_with fail
  refine (Sp.itoa_any n hn.1 hn.2 B _ HT1.out).mono ?_
  rintro e w2 ⟨rfl,hb2⟩
  have HK:=hid (Fg.kept hgl HB1.out (.int .i64 0) i HH.out hb2)
  clear hb2
  go_wp2
  go_ret2
  exact ⟨rfl,HK.out.1,HK.out.2⟩
def TimePost (w:World) (g i:Nat) (ok:Bool) (t:List UInt8) (e:Ending) (w':World):Prop:=
 e= .returned (.tuple #[.string (if ok then ⟨#[]⟩ else ⟨t.toArray⟩), .bool (!ok)])∧w'.heap[g]?=(if ok then w else w.setCell ⟨g,i,none⟩ (.int .i64 0)).heap[g]?∧Fg g w w'
set_option maxRecDepth 100000 in
set_option maxHeartbeats 2000000 in
theorem giveTime_any (b k g i:Nat) (n S na:Int) (cs:Array Value) (t:TypeId) (B:Nat) (w:World) (hb:BoxP w b g i) (hk0:w.cell? ⟨k,0,none⟩=some (.int .i64 S)) (hk1:w.cell? ⟨k,1,none⟩=some (.int .i64 na)) (hbg:b≠g) (hkg:k≠g) (hh:w.heap[g]?=some (.cells cs t (0,0))) (hc:w.cell? ⟨g,i,none⟩=some (.int .i64 n))
  (hB:B≤w.heap.size) (hBg:B≤g) (ht:Sp.EV B w):
  Calls Tryz.prog 133 #[.pointer (some ⟨b,0,none⟩), .pointer (some ⟨k,0,none⟩)] w (TimePost w g i (M.fits n 12&&na==0) (St.M.pr (St.M.norm (S,na)))):=by
 have hbc:w.cell? ⟨b,0,none⟩=some (.pointer (some ⟨g,i,none⟩)):=hb
 have hbl:b<w.heap.size:=World.block_lt_of_cell? _ _ hbc
 have hgl:g<w.heap.size:=World.block_lt_of_cell? _ _ hc
 have hkl:k<w.heap.size:=World.block_lt_of_cell? _ _ hk0
 have HP:=hid (fun W=>Nm.putOctal_any n 12 W)
 have HT:=hid ht
 have HH:=hid hh
 clear hb ht hh
 unfold M.fits
 generalize Nm.M.octR n 12=rr at HP
 cases hok:(Nm.M.octFits n 12&&na==0) with
 |true=>
  rw [Bool.and_eq_true] at hok
  rw [hok.1] at HP
  have hz:=hok.2
  clear hok
  go_enter Tryz.func133,Tryz.ntmps133
  go_wp2_with fail
  refine (HP.out _).mono ?_
  rintro e w1 ⟨A,N,rfl,_,hb1⟩
  have d1:w1.cell? ⟨k,1,none⟩=some (.int .i64 na):=(hb1.cell (p:=⟨k,1,none⟩) hkl).trans hk1
  have HB1:=hid hb1
  clear hb1
  go_wp2
  go_ret2
  exact ⟨rfl,HB1.out.block g hgl,Fg.of_below HB1.out⟩
 |false=>
  obtain ⟨fo,hfo⟩: ∃ fo,Nm.M.octFits n 12=fo:=⟨_,rfl⟩
  rw [hfo] at HP hok
  have HK:=hid hok
  clear hok hfo
  go_enter Tryz.func133,Tryz.ntmps133
  go_wp2_with fail
  refine (HP.out _).mono ?_
  rintro e w1 ⟨A,N,rfl,_,hb1⟩
  have HB1:=hid hb1
  have c1:w1.cell? ⟨b,0,none⟩=some (.pointer (some ⟨g,i,none⟩)):=(hb1.cell (p:=⟨b,0,none⟩) hbl).trans hbc
  have c2:w1.cell? ⟨g,i,none⟩=some (.int .i64 n):=(hb1.cell (p:=⟨g,i,none⟩) hgl).trans hc
  have d0:w1.cell? ⟨k,0,none⟩=some (.int .i64 S):=(hb1.cell (p:=⟨k,0,none⟩) hkl).trans hk0
  have d1:w1.cell? ⟨k,1,none⟩=some (.int .i64 na):=(hb1.cell (p:=⟨k,1,none⟩) hkl).trans hk1
  have f1:w1.frozen? ⟨g,i,none⟩=false:=frozen_of_row w1 g i _ _ ((hb1.block g hgl).trans HH.out)
  have HT1:=hid (show Sp.EV B (w1.setCell ⟨g,i,none⟩ (.int .i64 0)) from HT.out.on ((hb1.mono hB).setCell (p:=⟨g,i,none⟩) hBg _))
  have HBS:=hid (show B≤(w1.setCell ⟨g,i,none⟩ (.int .i64 0)).heap.size by have:=hb1.size;simp;omega)
  have HPR:=hid (St.print_any S na B (w1.setCell ⟨g,i,none⟩ (.int .i64 0)) HBS.out HT1.out.tens)
  clear hb1 hbc hc hk0 hk1
  cases fo with
  |true=>
   have hz:(na==0)=false:=by simpa using HK.out
   go_wp2_with fail
   refine HPR.out.mono ?_
   rintro e w2 ⟨rfl,hb2⟩
   have HKK:=hid (Fg.kept hgl HB1.out (.int .i64 0) i HH.out hb2)
   clear hb2
   go_wp2
   go_ret2
   exact ⟨rfl,HKK.out.1,HKK.out.2⟩
  |false=>
   go_wp2_with fail
   refine HPR.out.mono ?_
   rintro e w2 ⟨rfl,hb2⟩
   have HKK:=hid (Fg.kept hgl HB1.out (.int .i64 0) i HH.out hb2)
   clear hb2
   go_wp2
   go_ret2
   exact ⟨rfl,HKK.out.1,HKK.out.2⟩
end Go.Proofs.YtgbgngdakkiclaaGreatDoor
