import Derived.Test.YtgbgngdakkiclaaGreatDoorStepZ
import Derived.Test.YtgbgngdakkiclaaGreatDoorMtTakeZ
set_option linter.unusedVariables false
set_option linter.unusedSimpArgs false
namespace Go.Proofs.YtgbgngdakkiclaaGreatDoor
open Go.RowKit Go.Lib
open Px (R2 tl)
def zeroF:Array Value:= #[.string ⟨#[]⟩, .nilFunc, .nilFunc, .string ⟨#[]⟩, .nilFunc, .nilFunc, .string ⟨#[]⟩, .nilFunc, .nilFunc, .string ⟨#[]⟩, .nilFunc, .nilFunc, .string ⟨#[]⟩, .nilFunc, .nilFunc, .string ⟨#[]⟩, .nilFunc, .nilFunc, .string ⟨#[]⟩, .nilFunc, .nilFunc, .string ⟨#[]⟩, .nilFunc, .nilFunc]
def fieldCells (x0 y0 x1 y1 x2 y2 x3 y3 x4 y4 x5 y5 x6 y6 x7 y7:Value):Array Value:=
 #[.string ⟨#[112,97,116,104]⟩,x0,y0, .string ⟨#[108,105,110,107,112,97,116,104]⟩,x1,y1, .string ⟨#[117,110,97,109,101]⟩,x2,y2, .string ⟨#[103,110,97,109,101]⟩,x3,y3, .string ⟨#[117,105,100]⟩,x4,y4, .string ⟨#[103,105,100]⟩,x5,y5, .string ⟨#[115,105,122,101]⟩,x6,y6, .string ⟨#[109,116,105,109,101]⟩,x7,y7]
theorem fields_size:(Tryz.prog.info? 119).map (·.size)=some 24:=by kernel_rfl
def FieldsIs (g h B:Nat) (m:M.Met) (w:World) (e:Ending) (w':World):Prop:=
 ∃ x0 y0 x1 y1 x2 y2 x3 y3 x4 y4 x5 y5 x6 y6 x7 y7:Value,e= .returned (.agg (fieldCells x0 y0 x1 y1 x2 y2 x3 y3 x4 y4 x5 y5 x6 y6 x7 y7))∧Below w.heap.size w w'∧
   (TakeC w.heap.size w'.heap.size g B w' 0 x0∧TakeC w.heap.size w'.heap.size g B w' 1 x1∧TakeC w.heap.size w'.heap.size g B w' 2 x2∧TakeC w.heap.size w'.heap.size g B w' 3 x3∧TakeC w.heap.size w'.heap.size g B w' 4 x4∧TakeC w.heap.size w'.heap.size g B w' 5 x5∧TakeC w.heap.size w'.heap.size g B w' 6 x6∧TakeC w.heap.size w'.heap.size g B w' 7 x7)∧
   (GiveC w.heap.size w'.heap.size h B w' m 0 y0∧GiveC w.heap.size w'.heap.size h B w' m 1 y1∧GiveC w.heap.size w'.heap.size h B w' m 2 y2∧GiveC w.heap.size w'.heap.size h B w' m 3 y3∧GiveC w.heap.size w'.heap.size h B w' m 4 y4∧GiveC w.heap.size w'.heap.size h B w' m 5 y5∧GiveC w.heap.size w'.heap.size h B w' m 6 y6∧GiveC w.heap.size w'.heap.size h B w' m 7 y7)
theorem results_fields {f:Func} {k:Nat} (hf:f.results= #[ResultVar.cell k 119]) {tmps:Array Value} {g:Nat} {cs:Array Value} {w:World} (hk:tmps.getD k undef= .pointer (some ⟨g,0,none⟩)) (hb:w.heap[g]?=some (.cells cs 119 (0,0))) (hs:cs.size=24):
  (results f tmps).run Tryz.prog w= .ok (.agg cs) w:=
 results_cell_row hf tmps w g 119 _ (0,0) _ hk hb Tryz.underlying119 rfl (by rw [hs];exact fields_size)
theorem below_set0 {w W:World} (h:Below w.heap.size w W) (cs:Array Value):Below w.heap.size w (W.setRow w.heap.size cs):=below_setRow h (Nat.le_refl _) cs
theorem box_end {w V W:World} {b g i:Nat} (hb:BoxP V b g i) (hm:b<V.heap.size) (hd:Below V.heap.size V W) (hn:b≠w.heap.size) (cs:Array Value):BoxP (W.setRow w.heap.size cs) b g i:=by
 unfold BoxP at*
 rw [cell_setRow_other _ _ _ _ hn,hd.cell (p:=⟨b,0,none⟩) hm,hb]
theorem cell_end {w V W:World} {k j:Nat} {v:Value} (hb:V.cell? ⟨k,j,none⟩=some v) (hm:k<V.heap.size) (hd:Below V.heap.size V W) (hn:k≠w.heap.size) (cs:Array Value):(W.setRow w.heap.size cs).cell? ⟨k,j,none⟩=some v:=by
 rw [cell_setRow_other _ _ _ _ hn,hd.cell (p:=⟨k,j,none⟩) hm,hb]
theorem lt_end {V W:World} {b:Nat} (hm:b<V.heap.size) (hd:Below V.heap.size V W) (g:Nat) (cs:Array Value):b<(W.setRow g cs).heap.size:=by
 have h:=Nat.lt_of_lt_of_le hm hd.size
 simpa using h
structure Res (w V:World):Prop where
 below:Below w.heap.size w V
 row: ∃ C,V.heap[w.heap.size]?=some (.cells C 119 (0,0))∧C.size=24
theorem Res.lt {w V:World} (h:Res w V):w.heap.size<V.heap.size:=by
 obtain ⟨C,h1,_⟩:=h.row
 exact (Array.getElem?_eq_some_iff.1 h1).1
theorem Res.later {w V V':World} (h:Res w V) (hb:Below V.heap.size V V'):Res w V':=by
 obtain ⟨C,h1,h2⟩:=h.row
 exact ⟨h.below.trans (hb.mono h.below.size),C,(hb.block _ h.lt).trans h1,h2⟩
theorem Res.set {w V:World} (h:Res w V) {cs:Array Value} (hc:cs.size=24):Res w (V.setRow w.heap.size cs):=by
 obtain ⟨C,h1,h2⟩:=h.row
 exact ⟨below_setRow h.below (Nat.le_refl _) cs,cs,setRow_heap V _ _ _ _ _ h1,hc⟩
set_option maxRecDepth 100000 in
set_option maxHeartbeats 8000000 in
theorem fields_any (g h B:Nat) (m:M.Met) (pv ev:Value) (w:World) (hm:MB w g m pv ev) (hh:h<w.heap.size) (hBg:B≤g) (hBh:B≤h) (hs:m.name.size≤1048576∧m.link.size≤1048576∧m.user.size≤1048576∧m.group.size≤1048576)
  (hi:(-9223372036854775808≤m.uid∧m.uid≤9223372036854775807)∧(-9223372036854775808≤m.gid∧m.gid≤9223372036854775807)∧(-9223372036854775808≤m.size∧m.size≤9223372036854775807)):
  Calls Tryz.prog 67 #[.pointer (some ⟨g,0,none⟩), .pointer (some ⟨h,0,none⟩)] w (FieldsIs g h B m w):=by
 have hgl:=hm.lt
 have hbw:=(Below.refl w.heap.size w).alloc (Nat.le_refl _) (.cells zeroF 119)
 have hn:=heap_alloc_new w (.cells zeroF 119)
 have hsz:=World.size_alloc w (.cells zeroF 119)
 go_enter Tryz.func67,Tryz.ntmps67
 go_upto_region 1 with fail
 change Code.wp _ _ _ _ (w.alloc (.cells zeroF 119))
 generalize World.alloc w _=W at*
 have HF:=hid (show ∀ V,Res w V→V.cell? ⟨g,8,none⟩=some (.int .i64 m.sec)∧V.cell? ⟨g,9,none⟩=some (.int .i64 m.nan) from fun V hV=>by
  have hB:MB V g m pv ev:=hm.below hV.below hgl
  exact ⟨hB.cell (i:=8) rfl,hB.cell (i:=9) rfl⟩)
 have HR0:=hid (show Res w W.drew from ⟨⟨hbw.os,hbw.tape,hbw.output,hbw.size,hbw.block⟩,_,hn,rfl⟩)
 have HSZ:=hid (show W.drew.heap.size=w.heap.size+1 from hsz)
 clear hn hbw hm hsz
 refine wp_region_held_drew (S:=Res w) (by kernel_rfl) HR0.out (fun hS=> ?_)
 refine tkH 0 hS ?_
 refine tkH 1 hS ?_
 refine tkH 2 hS ?_
 refine tkH 4 hS ?_
 refine tkH 7 hS ?_
 refine tkH 8 hS ?_
 refine tkH 9 hS ?_
 refine tkH 11 hS ?_
 refine tkH 12 hS ?_
 refine tkH 13 hS ?_
 refine tkH 16 hS ?_
 refine tkH 17 hS ?_
 refine tkH 18 hS ?_
 refine tkH 20 hS ?_
 refine tkH 21 hS ?_
 refine tkH 22 hS ?_
 refine tkH 25 hS ?_
 refine tkH 26 hS ?_
 refine tkH 27 hS ?_
 refine tkH 29 hS ?_
 refine tkH 30 hS ?_
 refine tkH 31 hS ?_
 refine tkH 34 hS ?_
 refine tkH 35 hS ?_
 refine tkH 36 hS ?_
 refine tkH 38 hS ?_
 refine tkH 39 hS ?_
 refine tkH 40 hS ?_
 refine tkH 43 hS ?_
 refine tkH 44 hS ?_
 refine tkH 45 hS ?_
 refine tkH 47 hS ?_
 refine tkH 48 hS ?_
 refine tkH 49 hS ?_
 refine tkH 52 hS ?_
 refine tkH 53 hS ?_
 refine tkH 54 hS ?_
 refine tkH 56 hS ?_
 refine tkH 57 hS ?_
 refine tkH 58 hS ?_
 refine tkH 61 hS ?_
 refine tkH 62 hS ?_
 refine tkH 63 hS ?_
 refine tkH 65 hS ?_
 refine tkH 66 hS ?_
 refine tkH 67 hS ?_
 refine tkH 68 hS ?_
 refine tkH 69 hS ?_
 refine tkH 70 hS ?_
 refine tfH 71 hS HF.out ?_
 refine loneH (i:=3) 8 rfl rfl (by kernel_rfl) (by rfl) (fun K hK=> ?_)
 go_simp
 refine (takeText_new g 0 _).mono ?_
 rintro e w0 ⟨b0,rfl,x0,m0⟩
 have X0:=hid x0
 have M0:=hid m0
 clear x0 m0
 refine hK.out _ _ (hS.later M0.out.below) (fun hS=> ?_)
 clear hK K
 try simp only [NM]
 refine loneH (i:=5) 10 rfl rfl (by kernel_rfl) (by rfl) (fun K hK=> ?_)
 go_simp
 refine (giveName_new h _).mono ?_
 rintro e w1 ⟨b1,rfl,x1,m1⟩
 have X1:=hid x1
 have M1:=hid m1
 clear x1 m1
 refine hK.out _ _ (hS.later M1.out.below) (fun hS=> ?_)
 clear hK K
 try simp only [NM]
 refine tkH 6 hS ?_
 refine loneH (i:=10) 15 rfl rfl (by kernel_rfl) (by rfl) (fun K hK=> ?_)
 go_simp
 refine (takeText_new g 1 _).mono ?_
 rintro e w2 ⟨b2,rfl,x2,m2⟩
 have X2:=hid x2
 have M2:=hid m2
 clear x2 m2
 refine hK.out _ _ (hS.later M2.out.below) (fun hS=> ?_)
 clear hK K
 try simp only [NM]
 refine loneH (i:=14) 19 rfl rfl (by kernel_rfl) (by rfl) (fun K hK=> ?_)
 go_simp
 refine (giveText_new h 7 100 _).mono ?_
 rintro e w3 ⟨b3,k3,rfl,x3,y3,m3,l3⟩
 have X3:=hid x3
 have M3:=hid m3
 have Y3:=hid y3
 have L3:=hid l3
 clear x3 m3 y3 l3
 refine hK.out _ _ (hS.later M3.out.below) (fun hS=> ?_)
 clear hK K
 try simp only [NM]
 refine tkH 15 hS ?_
 refine loneH (i:=19) 24 rfl rfl (by kernel_rfl) (by rfl) (fun K hK=> ?_)
 go_simp
 refine (takeText_new g 6 _).mono ?_
 rintro e w4 ⟨b4,rfl,x4,m4⟩
 have X4:=hid x4
 have M4:=hid m4
 clear x4 m4
 refine hK.out _ _ (hS.later M4.out.below) (fun hS=> ?_)
 clear hK K
 try simp only [NM]
 refine loneH (i:=23) 28 rfl rfl (by kernel_rfl) (by rfl) (fun K hK=> ?_)
 go_simp
 refine (giveText_new h 9 32 _).mono ?_
 rintro e w5 ⟨b5,k5,rfl,x5,y5,m5,l5⟩
 have X5:=hid x5
 have M5:=hid m5
 have Y5:=hid y5
 have L5:=hid l5
 clear x5 m5 y5 l5
 refine hK.out _ _ (hS.later M5.out.below) (fun hS=> ?_)
 clear hK K
 try simp only [NM]
 refine tkH 24 hS ?_
 refine loneH (i:=28) 33 rfl rfl (by kernel_rfl) (by rfl) (fun K hK=> ?_)
 go_simp
 refine (takeText_new g 7 _).mono ?_
 rintro e w6 ⟨b6,rfl,x6,m6⟩
 have X6:=hid x6
 have M6:=hid m6
 clear x6 m6
 refine hK.out _ _ (hS.later M6.out.below) (fun hS=> ?_)
 clear hK K
 try simp only [NM]
 refine loneH (i:=32) 37 rfl rfl (by kernel_rfl) (by rfl) (fun K hK=> ?_)
 go_simp
 refine (giveText_new h 10 32 _).mono ?_
 rintro e w7 ⟨b7,k7,rfl,x7,y7,m7,l7⟩
 have X7:=hid x7
 have M7:=hid m7
 have Y7:=hid y7
 have L7:=hid l7
 clear x7 m7 y7 l7
 refine hK.out _ _ (hS.later M7.out.below) (fun hS=> ?_)
 clear hK K
 try simp only [NM]
 refine tkH 33 hS ?_
 refine loneH (i:=37) 42 rfl rfl (by kernel_rfl) (by rfl) (fun K hK=> ?_)
 go_simp
 refine (takeNumber_new g 4 4611686018427387904 _).mono ?_
 rintro e w8 ⟨b8,k8,rfl,x8,y8,m8,l8⟩
 have X8:=hid x8
 have M8:=hid m8
 have Y8:=hid y8
 have L8:=hid l8
 clear x8 m8 y8 l8
 refine hK.out _ _ (hS.later M8.out.below) (fun hS=> ?_)
 clear hK K
 try simp only [NM]
 refine loneH (i:=41) 46 rfl rfl (by kernel_rfl) (by rfl) (fun K hK=> ?_)
 go_simp
 refine (giveNumber_new h 2 8 _).mono ?_
 rintro e w9 ⟨b9,k9,rfl,x9,y9,m9,l9⟩
 have X9:=hid x9
 have M9:=hid m9
 have Y9:=hid y9
 have L9:=hid l9
 clear x9 m9 y9 l9
 refine hK.out _ _ (hS.later M9.out.below) (fun hS=> ?_)
 clear hK K
 try simp only [NM]
 refine tkH 42 hS ?_
 refine loneH (i:=46) 51 rfl rfl (by kernel_rfl) (by rfl) (fun K hK=> ?_)
 go_simp
 refine (takeNumber_new g 5 4611686018427387904 _).mono ?_
 rintro e w10 ⟨b10,k10,rfl,x10,y10,m10,l10⟩
 have X10:=hid x10
 have M10:=hid m10
 have Y10:=hid y10
 have L10:=hid l10
 clear x10 m10 y10 l10
 refine hK.out _ _ (hS.later M10.out.below) (fun hS=> ?_)
 clear hK K
 try simp only [NM]
 refine loneH (i:=50) 55 rfl rfl (by kernel_rfl) (by rfl) (fun K hK=> ?_)
 go_simp
 refine (giveNumber_new h 3 8 _).mono ?_
 rintro e w11 ⟨b11,k11,rfl,x11,y11,m11,l11⟩
 have X11:=hid x11
 have M11:=hid m11
 have Y11:=hid y11
 have L11:=hid l11
 clear x11 m11 y11 l11
 refine hK.out _ _ (hS.later M11.out.below) (fun hS=> ?_)
 clear hK K
 try simp only [NM]
 refine tkH 51 hS ?_
 refine loneH (i:=55) 60 rfl rfl (by kernel_rfl) (by rfl) (fun K hK=> ?_)
 go_simp
 refine (takeNumber_new g 12 1099511627776 _).mono ?_
 rintro e w12 ⟨b12,k12,rfl,x12,y12,m12,l12⟩
 have X12:=hid x12
 have M12:=hid m12
 have Y12:=hid y12
 have L12:=hid l12
 clear x12 m12 y12 l12
 refine hK.out _ _ (hS.later M12.out.below) (fun hS=> ?_)
 clear hK K
 try simp only [NM]
 refine loneH (i:=59) 64 rfl rfl (by kernel_rfl) (by rfl) (fun K hK=> ?_)
 go_simp
 refine (giveNumber_new h 4 12 _).mono ?_
 rintro e w13 ⟨b13,k13,rfl,x13,y13,m13,l13⟩
 have X13:=hid x13
 have M13:=hid m13
 have Y13:=hid y13
 have L13:=hid l13
 clear x13 m13 y13 l13
 refine hK.out _ _ (hS.later M13.out.below) (fun hS=> ?_)
 clear hK K
 try simp only [NM]
 refine tkH 60 hS ?_
 refine loneH (i:=64) 69 rfl rfl (by kernel_rfl) (by rfl) (fun K hK=> ?_)
 go_simp
 refine (takeTime_new g 8 _).mono ?_
 rintro e w14 ⟨b14,rfl,x14,m14⟩
 have X14:=hid x14
 have M14:=hid m14
 clear x14 m14
 refine hK.out _ _ (hS.later M14.out.below) (fun hS=> ?_)
 clear hK K
 try simp only [NM]
 refine loneH (i:=72) 77 rfl rfl (by kernel_rfl) (by rfl) (fun K hK=> ?_)
 go_simp
 refine (giveTime_new h 5 m.sec m.nan _).mono ?_
 rintro e w15 ⟨b15,k15,rfl,x15,y15,z15,m15,l15⟩
 have X15:=hid x15
 have M15:=hid m15
 have Y15:=hid y15
 have L15:=hid l15
 have Z15:=hid z15
 clear x15 m15 y15 l15 z15
 refine hK.out _ _ (hS.later M15.out.below) (fun hS=> ?_)
 clear hK K
 try simp only [NM]
 refine tkH 73 hS ?_
 refine tkH 74 hS ?_
 refine loneN (i:=75) rfl rfl (by kernel_rfl) (by rfl) (fun K hK=> ?_)
 obtain ⟨C0,hC0,hC1⟩:=hS.row
 refine wp_store_row 119 (.tmp 4) (.tmp 79) rfl w.heap.size (fieldCells (.func (.func 123) #[] #[.pointer (some ⟨b0,0,none⟩)]) (.func (.func 124) #[] #[.pointer (some ⟨b1,0,none⟩)]) (.func (.func 123) #[] #[.pointer (some ⟨b2,0,none⟩)]) (.func (.func 126) #[] #[.pointer (some ⟨b3,0,none⟩), .pointer (some ⟨k3,0,none⟩)]) (.func (.func 123) #[] #[.pointer (some ⟨b4,0,none⟩)]) (.func (.func 126) #[] #[.pointer (some ⟨b5,0,none⟩), .pointer (some ⟨k5,0,none⟩)]) (.func (.func 123) #[] #[.pointer (some ⟨b6,0,none⟩)]) (.func (.func 126) #[] #[.pointer (some ⟨b7,0,none⟩), .pointer (some ⟨k7,0,none⟩)]) (.func (.func 127) #[] #[.pointer (some ⟨k8,0,none⟩), .pointer (some ⟨b8,0,none⟩)]) (.func (.func 129) #[] #[.pointer (some ⟨b9,0,none⟩), .pointer (some ⟨k9,0,none⟩)]) (.func (.func 127) #[] #[.pointer (some ⟨k10,0,none⟩), .pointer (some ⟨b10,0,none⟩)]) (.func (.func 129) #[] #[.pointer (some ⟨b11,0,none⟩), .pointer (some ⟨k11,0,none⟩)]) (.func (.func 127) #[] #[.pointer (some ⟨k12,0,none⟩), .pointer (some ⟨b12,0,none⟩)]) (.func (.func 129) #[] #[.pointer (some ⟨b13,0,none⟩), .pointer (some ⟨k13,0,none⟩)]) (.func (.func 131) #[] #[.pointer (some ⟨b14,0,none⟩)]) (.func (.func 133) #[] #[.pointer (some ⟨b15,0,none⟩), .pointer (some ⟨k15,0,none⟩)])) (by rfl) (by rfl) 119 C0 hC0 fields_size hC1 (by simp [fieldCells,Value.oneCell']) ?_
 have HRow:=hid (setRow_heap w15 w.heap.size C0 (fieldCells (.func (.func 123) #[] #[.pointer (some ⟨b0,0,none⟩)]) (.func (.func 124) #[] #[.pointer (some ⟨b1,0,none⟩)]) (.func (.func 123) #[] #[.pointer (some ⟨b2,0,none⟩)]) (.func (.func 126) #[] #[.pointer (some ⟨b3,0,none⟩), .pointer (some ⟨k3,0,none⟩)]) (.func (.func 123) #[] #[.pointer (some ⟨b4,0,none⟩)]) (.func (.func 126) #[] #[.pointer (some ⟨b5,0,none⟩), .pointer (some ⟨k5,0,none⟩)]) (.func (.func 123) #[] #[.pointer (some ⟨b6,0,none⟩)]) (.func (.func 126) #[] #[.pointer (some ⟨b7,0,none⟩), .pointer (some ⟨k7,0,none⟩)]) (.func (.func 127) #[] #[.pointer (some ⟨k8,0,none⟩), .pointer (some ⟨b8,0,none⟩)]) (.func (.func 129) #[] #[.pointer (some ⟨b9,0,none⟩), .pointer (some ⟨k9,0,none⟩)]) (.func (.func 127) #[] #[.pointer (some ⟨k10,0,none⟩), .pointer (some ⟨b10,0,none⟩)]) (.func (.func 129) #[] #[.pointer (some ⟨b11,0,none⟩), .pointer (some ⟨k11,0,none⟩)]) (.func (.func 127) #[] #[.pointer (some ⟨k12,0,none⟩), .pointer (some ⟨b12,0,none⟩)]) (.func (.func 129) #[] #[.pointer (some ⟨b13,0,none⟩), .pointer (some ⟨k13,0,none⟩)]) (.func (.func 131) #[] #[.pointer (some ⟨b14,0,none⟩)]) (.func (.func 133) #[] #[.pointer (some ⟨b15,0,none⟩), .pointer (some ⟨k15,0,none⟩)])) _ _ hC0)
 have HBel:=hid hS.below
 refine hK.out _ _ (hS.set rfl) (fun hS=> ?_)
 clear hK K HF HR0
 try simp only [NM]
 refine wpAnyH_done (by kernel_rfl) ?_ _
 try simp only [NM]
 have s0:=M0.out.below.size
 rw [HSZ.out] at s0
 have s1:=Nat.le_trans s0 M1.out.below.size
 have s2:=Nat.le_trans s1 M2.out.below.size
 have s3:=Nat.le_trans s2 M3.out.below.size
 have s4:=Nat.le_trans s3 M4.out.below.size
 have s5:=Nat.le_trans s4 M5.out.below.size
 have s6:=Nat.le_trans s5 M6.out.below.size
 have s7:=Nat.le_trans s6 M7.out.below.size
 have s8:=Nat.le_trans s7 M8.out.below.size
 have s9:=Nat.le_trans s8 M9.out.below.size
 have s10:=Nat.le_trans s9 M10.out.below.size
 have s11:=Nat.le_trans s10 M11.out.below.size
 have s12:=Nat.le_trans s11 M12.out.below.size
 have s13:=Nat.le_trans s12 M13.out.below.size
 have s14:=Nat.le_trans s13 M14.out.below.size
 have s15:=Nat.le_trans s14 M15.out.below.size
 have a0:=M0.out.lo
 rw [HSZ.out] at a0
 have a1:=Nat.le_trans s0 M1.out.lo
 have a2:=Nat.le_trans s1 M2.out.lo
 have a3:=Nat.le_trans s2 M3.out.lo
 have a4:=Nat.le_trans s3 M4.out.lo
 have a5:=Nat.le_trans s4 M5.out.lo
 have a6:=Nat.le_trans s5 M6.out.lo
 have a7:=Nat.le_trans s6 M7.out.lo
 have a8:=Nat.le_trans s7 M8.out.lo
 have a9:=Nat.le_trans s8 M9.out.lo
 have a10:=Nat.le_trans s9 M10.out.lo
 have a11:=Nat.le_trans s10 M11.out.lo
 have a12:=Nat.le_trans s11 M12.out.lo
 have a13:=Nat.le_trans s12 M13.out.lo
 have a14:=Nat.le_trans s13 M14.out.lo
 have a15:=Nat.le_trans s14 M15.out.lo
 have c3:=Nat.le_trans s2 L3.out.lo
 have c5:=Nat.le_trans s4 L5.out.lo
 have c7:=Nat.le_trans s6 L7.out.lo
 have c8:=Nat.le_trans s7 L8.out.lo
 have c9:=Nat.le_trans s8 L9.out.lo
 have c10:=Nat.le_trans s9 L10.out.lo
 have c11:=Nat.le_trans s10 L11.out.lo
 have c12:=Nat.le_trans s11 L12.out.lo
 have c13:=Nat.le_trans s12 L13.out.lo
 have c15:=Nat.le_trans s14 L15.out.lo
 have D15:=Below.refl w15.heap.size w15
 have D14:=M15.out.below.trans (D15.mono M15.out.below.size)
 have D13:=M14.out.below.trans (D14.mono M14.out.below.size)
 have D12:=M13.out.below.trans (D13.mono M13.out.below.size)
 have D11:=M12.out.below.trans (D12.mono M12.out.below.size)
 have D10:=M11.out.below.trans (D11.mono M11.out.below.size)
 have D9:=M10.out.below.trans (D10.mono M10.out.below.size)
 have D8:=M9.out.below.trans (D9.mono M9.out.below.size)
 have D7:=M8.out.below.trans (D8.mono M8.out.below.size)
 have D6:=M7.out.below.trans (D7.mono M7.out.below.size)
 have D5:=M6.out.below.trans (D6.mono M6.out.below.size)
 have D4:=M5.out.below.trans (D5.mono M5.out.below.size)
 have D3:=M4.out.below.trans (D4.mono M4.out.below.size)
 have D2:=M3.out.below.trans (D3.mono M3.out.below.size)
 have D1:=M2.out.below.trans (D2.mono M2.out.below.size)
 have D0:=M1.out.below.trans (D1.mono M1.out.below.size)
 have h0:=lt_end M0.out.hi D0
 have E0:=box_end (w:=w) X0.out M0.out.hi D0 (by omega)
 have h1:=lt_end M1.out.hi D1
 have E1:=box_end (w:=w) X1.out M1.out.hi D1 (by omega)
 have h2:=lt_end M2.out.hi D2
 have E2:=box_end (w:=w) X2.out M2.out.hi D2 (by omega)
 have h3:=lt_end M3.out.hi D3
 have E3:=box_end (w:=w) X3.out M3.out.hi D3 (by omega)
 have i3:=lt_end L3.out.hi D3
 have F3:=cell_end (w:=w) Y3.out L3.out.hi D3 (by omega)
 have h4:=lt_end M4.out.hi D4
 have E4:=box_end (w:=w) X4.out M4.out.hi D4 (by omega)
 have h5:=lt_end M5.out.hi D5
 have E5:=box_end (w:=w) X5.out M5.out.hi D5 (by omega)
 have i5:=lt_end L5.out.hi D5
 have F5:=cell_end (w:=w) Y5.out L5.out.hi D5 (by omega)
 have h6:=lt_end M6.out.hi D6
 have E6:=box_end (w:=w) X6.out M6.out.hi D6 (by omega)
 have h7:=lt_end M7.out.hi D7
 have E7:=box_end (w:=w) X7.out M7.out.hi D7 (by omega)
 have i7:=lt_end L7.out.hi D7
 have F7:=cell_end (w:=w) Y7.out L7.out.hi D7 (by omega)
 have h8:=lt_end M8.out.hi D8
 have E8:=box_end (w:=w) X8.out M8.out.hi D8 (by omega)
 have i8:=lt_end L8.out.hi D8
 have F8:=cell_end (w:=w) Y8.out L8.out.hi D8 (by omega)
 have h9:=lt_end M9.out.hi D9
 have E9:=box_end (w:=w) X9.out M9.out.hi D9 (by omega)
 have i9:=lt_end L9.out.hi D9
 have F9:=cell_end (w:=w) Y9.out L9.out.hi D9 (by omega)
 have h10:=lt_end M10.out.hi D10
 have E10:=box_end (w:=w) X10.out M10.out.hi D10 (by omega)
 have i10:=lt_end L10.out.hi D10
 have F10:=cell_end (w:=w) Y10.out L10.out.hi D10 (by omega)
 have h11:=lt_end M11.out.hi D11
 have E11:=box_end (w:=w) X11.out M11.out.hi D11 (by omega)
 have i11:=lt_end L11.out.hi D11
 have F11:=cell_end (w:=w) Y11.out L11.out.hi D11 (by omega)
 have h12:=lt_end M12.out.hi D12
 have E12:=box_end (w:=w) X12.out M12.out.hi D12 (by omega)
 have i12:=lt_end L12.out.hi D12
 have F12:=cell_end (w:=w) Y12.out L12.out.hi D12 (by omega)
 have h13:=lt_end M13.out.hi D13
 have E13:=box_end (w:=w) X13.out M13.out.hi D13 (by omega)
 have i13:=lt_end L13.out.hi D13
 have F13:=cell_end (w:=w) Y13.out L13.out.hi D13 (by omega)
 have h14:=lt_end M14.out.hi D14
 have E14:=box_end (w:=w) X14.out M14.out.hi D14 (by omega)
 have h15:=lt_end M15.out.hi D15
 have E15:=box_end (w:=w) X15.out M15.out.hi D15 (by omega)
 have i15:=lt_end L15.out.hi D15
 have F15:=cell_end (w:=w) Y15.out L15.out.hi D15 (by omega)
 have G15:=cell_end (w:=w) Z15.out L15.out.hi D15 (by omega)
 go_wp2
 refine bodyPost_ret (results_fields rfl rfl HRow.out rfl) rfl ⟨_,_,_,_,_,_,_,_,_,_,_,_,_,_,_,_,rfl,below_set0 HBel.out _,⟨takeC_text (i:=0) (j:=0) (E0 _) (by omega) (h0 _ _) hgl (fun _=>rfl) (fun _ _ _=>⟨_,rfl⟩) (fun _ _ _ _=>rfl),
  takeC_text (i:=1) (j:=1) (E2 _) (by omega) (h2 _ _) hgl (fun _=>rfl) (fun _ _ _=>⟨_,rfl⟩) (fun _ _ _ _=>rfl),
  takeC_text (i:=2) (j:=6) (E4 _) (by omega) (h4 _ _) hgl (fun _=>rfl) (fun _ _ _=>⟨_,rfl⟩) (fun _ _ _ _=>rfl),
  takeC_text (i:=3) (j:=7) (E6 _) (by omega) (h6 _ _) hgl (fun _=>rfl) (fun _ _ _=>⟨_,rfl⟩) (fun _ _ _ _=>rfl),
  takeC_num (i:=4) (j:=4) (E8 _) (F8 _) (by omega) (h8 _ _) (by omega) (i8 _ _) hgl (fun _=>rfl) (fun _ _ _=>⟨_,rfl⟩) (fun _ _ _ _=>rfl),
  takeC_num (i:=5) (j:=5) (E10 _) (F10 _) (by omega) (h10 _ _) (by omega) (i10 _ _) hgl (fun _=>rfl) (fun _ _ _=>⟨_,rfl⟩) (fun _ _ _ _=>rfl),
  takeC_num (i:=6) (j:=12) (E12 _) (F12 _) (by omega) (h12 _ _) (by omega) (i12 _ _) hgl (fun _=>rfl) (fun _ _ _=>⟨_,rfl⟩) (fun _ _ _ _=>rfl),
  takeC_time (E14 _) (by omega) (h14 _ _) hgl⟩,⟨giveC_name (E1 _) (by omega) (h1 _ _) hh hs.1,
  giveC_text (i:=1) (j:=7) (wide:=100) (s:=m.link) (E3 _) (F3 _) (by omega) (h3 _ _) (by omega) (i3 _ _) hh hs.2.1 (by omega) rfl rfl rfl,
  giveC_text (i:=2) (j:=9) (wide:=32) (s:=m.user) (E5 _) (F5 _) (by omega) (h5 _ _) (by omega) (i5 _ _) hh hs.2.2.1 (by omega) rfl rfl rfl,
  giveC_text (i:=3) (j:=10) (wide:=32) (s:=m.group) (E7 _) (F7 _) (by omega) (h7 _ _) (by omega) (i7 _ _) hh hs.2.2.2 (by omega) rfl rfl rfl,
  giveC_num (i:=4) (j:=2) (n:=m.uid) (wide:=8) (E9 _) (F9 _) (by omega) (h9 _ _) (by omega) (i9 _ _) hh hBh hi.1 rfl rfl rfl,
  giveC_num (i:=5) (j:=3) (n:=m.gid) (wide:=8) (E11 _) (F11 _) (by omega) (h11 _ _) (by omega) (i11 _ _) hh hBh hi.2.1 rfl rfl rfl,
  giveC_num (i:=6) (j:=4) (n:=m.size) (wide:=12) (E13 _) (F13 _) (by omega) (h13 _ _) (by omega) (i13 _ _) hh hBh hi.2.2 rfl rfl rfl,
  giveC_time (E15 _) (F15 _) (G15 _) (by omega) (h15 _ _) (by omega) (i15 _ _) hh hBh⟩⟩
end Go.Proofs.YtgbgngdakkiclaaGreatDoor
