/-
  Texts of one chapter, merged.
-/
import Derived.Test.YtjpmpjbembhldaaGreatDoorKhF0
import Derived.Test.YtjpmpjbembhldaaGreatDoorStepZ
import Derived.Deep.CutRange
set_option linter.unusedVariables false
set_option linter.unusedSimpArgs false
/-! KhHdHeader -/
namespace Go.Proofs.YtjpmpjbembhldaaGreatDoor.Hd
open Go.RowKit Go.Lib
theorem below_drw {B:Nat} {a w:World} (h:Below B a w):Below B a w.drew:=⟨h.os,h.tape,h.output,h.size,h.block⟩
structure HD (w0 w:World) (g:Nat) (h:M.Hdr) (pv:Value):Prop where
 box:HB w g h pv
 res:HB w w0.heap.size {} (.slice none 0 0)
 apart:w0.heap.size<g
 own:PartsIs w (g+1) pv h.parts
 few:h.parts.length≤1000
 way:0≤h.way∧h.way≤2
 nums:i64p h.parts
 kind:0≤h.kind∧h.kind≤255
 ints:(-9223372036854775808≤h.mode∧h.mode≤9223372036854775807)∧(-9223372036854775808≤h.uid∧h.uid≤9223372036854775807)∧(-9223372036854775808≤h.gid∧h.gid≤9223372036854775807)∧(-9223372036854775808≤h.size∧h.size≤9223372036854775807)∧(-9223372036854775808≤h.mtime∧h.mtime≤9223372036854775807)∧
  (-9223372036854775808≤h.major∧h.major≤9223372036854775807)∧(-9223372036854775808≤h.minor∧h.minor≤9223372036854775807)∧(-9223372036854775808≤h.real∧h.real≤9223372036854775807)
 texts:h.name.size≤100000∧h.link.size≤100000∧h.user.size≤100000∧h.group.size≤100000∧h.pre.size≤100000
 below:Below w0.heap.size w0 w
theorem HD.set {w0 w:World} {g:Nat} {h h':M.Hdr} {pv:Value} (p:HD w0 w g h pv) (i:Nat) (v:Value) (e:(hcells h pv).set! i v=hcells h' pv) (hp:h'.parts=h.parts) (hw:0≤h'.way∧h'.way≤2) (hk:0≤h'.kind∧h'.kind≤255)
  (hi:(-9223372036854775808≤h'.mode∧h'.mode≤9223372036854775807)∧(-9223372036854775808≤h'.uid∧h'.uid≤9223372036854775807)∧(-9223372036854775808≤h'.gid∧h'.gid≤9223372036854775807)∧(-9223372036854775808≤h'.size∧h'.size≤9223372036854775807)∧(-9223372036854775808≤h'.mtime∧h'.mtime≤9223372036854775807)∧
   (-9223372036854775808≤h'.major∧h'.major≤9223372036854775807)∧(-9223372036854775808≤h'.minor∧h'.minor≤9223372036854775807)∧(-9223372036854775808≤h'.real∧h'.real≤9223372036854775807))
  (ht:h'.name.size≤100000∧h'.link.size≤100000∧h'.user.size≤100000∧h'.group.size≤100000∧h'.pre.size≤100000):HD w0 (w.setCell ⟨g,i,none⟩ v) g h' pv:=
 ⟨p.box.set i v e,HB.other p.res (by have:=p.apart;show w0.heap.size≠g;omega) v,p.apart,by rw [hp];exact p.own.set _ (Nat.lt_succ_self _) v,by rw [hp];exact p.few,hw,by rw [hp];exact p.nums,hk,hi,ht,p.below.setCell (p:=⟨g,i,none⟩) (by have:=p.apart;show w0.heap.size≤g;omega) v⟩
theorem HD.later {w0 w w':World} {g:Nat} {h:M.Hdr} {pv:Value} (p:HD w0 w g h pv) (hb:Below w.heap.size w w'):HD w0 w' g h pv:=
 ⟨HB.below p.box hb (HB.lt p.box),HB.below p.res hb (HB.lt p.res),p.apart,p.own.later hb,p.few,p.way,p.nums,p.kind,p.ints,p.texts,p.below.trans (hb.mono p.below.size)⟩
theorem HD.cell {w0 w:World} {g:Nat} {h:M.Hdr} {pv:Value} (p:HD w0 w g h pv) {i:Nat} {v:Value} (hv:(hcells h pv)[i]?=some v):w.cell? ⟨g,i,none⟩=some v:=HB.cell p.box hv
theorem HD.next {w0 w w':World} {g:Nat} {h:M.Hdr} {pv:Value} {p q:Int} {A:Option Addr} {n c:Nat} (d:HD w0 w g h pv) (ho:OwnP w' (g+1) (.slice A n c) (h.parts++ [(p,q)])) (hb:Below (g+1) w w') (hl:h.parts.length≤900)
  (hp: -9223372036854775808≤p∧p≤9223372036854775807) (hq: -9223372036854775808≤q∧q≤9223372036854775807):
  HD w0 (w'.setCell ⟨g,14,none⟩ (.slice A n c)) g { h with parts:=h.parts++ [(p,q)] } (.slice A n c)∧OwnP (w'.setCell ⟨g,14,none⟩ (.slice A n c)) (g+1) (.slice A n c) (h.parts++ [(p,q)]):=by
 have hog:w0.heap.size≤g:=Nat.le_of_lt d.apart
 have hor:OwnP (w'.setCell ⟨g,14,none⟩ (.slice A n c)) (g+1) (.slice A n c) (h.parts++ [(p,q)]):=ownsRow_setCell_below ho (Nat.lt_succ_self _) _
 have hb1:HB w' g h pv:=HB.below d.box hb (Nat.lt_succ_self _)
 have hr1:HB w' w0.heap.size {} (.slice none 0 0):=HB.below d.res hb (by have:=d.apart;omega)
 refine ⟨⟨HB.set hb1 14 _ rfl,HB.other hr1 (by have:=d.apart;show w0.heap.size≠g;omega) _,d.apart,hor.parts,by show (h.parts++ [(p,q)]).length≤1000;rw [List.length_append];simp;omega,d.way, ?_,d.kind,d.ints,d.texts,(d.below.trans (hb.mono (by omega))).setCell (p:=⟨g,14,none⟩) hog _⟩,hor⟩
 intro x hx
 rw [List.mem_append] at hx
 rcases hx with hx|hx
 ·exact d.nums x hx
 ·rw [List.mem_singleton] at hx
  subst hx
  exact ⟨hp,hq⟩
def HeaderIs (w0:World) (e:Ending) (w':World):Prop:=
 ∃ h pv,e= .returned (.agg (hcells h pv))∧HIn w' h pv∧h.parts.length≤1000∧(0≤h.way∧h.way≤2)∧Below w0.heap.size w0 w'
theorem kinds_at (j:Nat) (hj:j<13): ∃ kk:Int,(0≤kk∧kk≤255)∧(#[.int .u8 48, .int .u8 49, .int .u8 50, .int .u8 51, .int .u8 52, .int .u8 53, .int .u8 54, .int .u8 55, .int .u8 120, .int .u8 103, .int .u8 76, .int .u8 75, .int .u8 83, .int .u8 122]:Array Value)[j]?=some (.int .u8 kk):=by
 have:j=0∨j=1∨j=2∨j=3∨j=4∨j=5∨j=6∨j=7∨j=8∨j=9∨j=10∨j=11∨j=12:=by omega
 rcases this with rfl|rfl|rfl|rfl|rfl|rfl|rfl|rfl|rfl|rfl|rfl|rfl|rfl<;>exact ⟨_,by decide,rfl⟩
set_option maxRecDepth 100000 in
set_option maxHeartbeats 4000000 in
theorem header_any (A:Option Addr) (n c:Nat) (zs:List Int) (w:World) (hr:Rd w w.heap.size A n zs) (hc:n≤c) (hcm:c≤maxLen):
  Calls Tryz.prog 5 #[.slice A n c] w (HeaderIs w):=by
 obtain ⟨x0,hx0,G0⟩: ∃ x:Int,(0≤x∧x≤255)∧Hid (∀ W,Below w.heap.size w W→Calls Tryz.prog 13 #[.slice A n c, .int .i64 0] W fun e w'=>e= .returned (.int .u8 x)∧W=w'):=
  ⟨M.gz zs 0,M.gz_bd hr.2.1 _,hid fun W hW=>g_any A n c 0 zs W w.heap.size (hr.below hW) (by decide)⟩
 obtain ⟨x1,hx1,G1⟩: ∃ x:Int,(0≤x∧x≤255)∧Hid (∀ W,Below w.heap.size w W→Calls Tryz.prog 13 #[.slice A n c, .int .i64 1] W fun e w'=>e= .returned (.int .u8 x)∧W=w'):=
  ⟨M.gz zs 1,M.gz_bd hr.2.1 _,hid fun W hW=>g_any A n c 1 zs W w.heap.size (hr.below hW) (by decide)⟩
 obtain ⟨x2,hx2,G2⟩: ∃ x:Int,(0≤x∧x≤255)∧Hid (∀ W,Below w.heap.size w W→Calls Tryz.prog 13 #[.slice A n c, .int .i64 2] W fun e w'=>e= .returned (.int .u8 x)∧W=w'):=
  ⟨M.gz zs 2,M.gz_bd hr.2.1 _,hid fun W hW=>g_any A n c 2 zs W w.heap.size (hr.below hW) (by decide)⟩
 obtain ⟨x3,hx3,G3⟩: ∃ x:Int,(0≤x∧x≤255)∧Hid (∀ W,Below w.heap.size w W→Calls Tryz.prog 13 #[.slice A n c, .int .i64 3] W fun e w'=>e= .returned (.int .u8 x)∧W=w'):=
  ⟨M.gz zs 3,M.gz_bd hr.2.1 _,hid fun W hW=>g_any A n c 3 zs W w.heap.size (hr.below hW) (by decide)⟩
 obtain ⟨x4,hx4,G4⟩: ∃ x:Int,(0≤x∧x≤255)∧Hid (∀ W,Below w.heap.size w W→Calls Tryz.prog 13 #[.slice A n c, .int .i64 4] W fun e w'=>e= .returned (.int .u8 x)∧W=w'):=
  ⟨M.gz zs 4,M.gz_bd hr.2.1 _,hid fun W hW=>g_any A n c 4 zs W w.heap.size (hr.below hW) (by decide)⟩
 obtain ⟨x5,hx5,G5⟩: ∃ x:Int,(0≤x∧x≤255)∧Hid (∀ W,Below w.heap.size w W→Calls Tryz.prog 13 #[.slice A n c, .int .i64 5] W fun e w'=>e= .returned (.int .u8 x)∧W=w'):=
  ⟨M.gz zs 5,M.gz_bd hr.2.1 _,hid fun W hW=>g_any A n c 5 zs W w.heap.size (hr.below hW) (by decide)⟩
 obtain ⟨x6,hx6,G6⟩: ∃ x:Int,(0≤x∧x≤255)∧Hid (∀ W,Below w.heap.size w W→Calls Tryz.prog 13 #[.slice A n c, .int .i64 6] W fun e w'=>e= .returned (.int .u8 x)∧W=w'):=
  ⟨M.gz zs 6,M.gz_bd hr.2.1 _,hid fun W hW=>g_any A n c 6 zs W w.heap.size (hr.below hW) (by decide)⟩
 obtain ⟨x7,hx7,G7⟩: ∃ x:Int,(0≤x∧x≤255)∧Hid (∀ W,Below w.heap.size w W→Calls Tryz.prog 13 #[.slice A n c, .int .i64 7] W fun e w'=>e= .returned (.int .u8 x)∧W=w'):=
  ⟨M.gz zs 7,M.gz_bd hr.2.1 _,hid fun W hW=>g_any A n c 7 zs W w.heap.size (hr.below hW) (by decide)⟩
 obtain ⟨x8,hx8,G8⟩: ∃ x:Int,(0≤x∧x≤255)∧Hid (∀ W,Below w.heap.size w W→Calls Tryz.prog 13 #[.slice A n c, .int .i64 8] W fun e w'=>e= .returned (.int .u8 x)∧W=w'):=
  ⟨M.gz zs 8,M.gz_bd hr.2.1 _,hid fun W hW=>g_any A n c 8 zs W w.heap.size (hr.below hW) (by decide)⟩
 obtain ⟨x9,hx9,G9⟩: ∃ x:Int,(0≤x∧x≤255)∧Hid (∀ W,Below w.heap.size w W→Calls Tryz.prog 13 #[.slice A n c, .int .i64 9] W fun e w'=>e= .returned (.int .u8 x)∧W=w'):=
  ⟨M.gz zs 9,M.gz_bd hr.2.1 _,hid fun W hW=>g_any A n c 9 zs W w.heap.size (hr.below hW) (by decide)⟩
 obtain ⟨x14,hx14,G14⟩: ∃ x:Int,(0≤x∧x≤255)∧Hid (∀ W,Below w.heap.size w W→Calls Tryz.prog 13 #[.slice A n c, .int .i64 14] W fun e w'=>e= .returned (.int .u8 x)∧W=w'):=
  ⟨M.gz zs 14,M.gz_bd hr.2.1 _,hid fun W hW=>g_any A n c 14 zs W w.heap.size (hr.below hW) (by decide)⟩
 obtain ⟨x15,hx15,G15⟩: ∃ x:Int,(0≤x∧x≤255)∧Hid (∀ W,Below w.heap.size w W→Calls Tryz.prog 13 #[.slice A n c, .int .i64 15] W fun e w'=>e= .returned (.int .u8 x)∧W=w'):=
  ⟨M.gz zs 15,M.gz_bd hr.2.1 _,hid fun W hW=>g_any A n c 15 zs W w.heap.size (hr.below hW) (by decide)⟩
 obtain ⟨x16,hx16,G16⟩: ∃ x:Int,(0≤x∧x≤255)∧Hid (∀ W,Below w.heap.size w W→Calls Tryz.prog 13 #[.slice A n c, .int .i64 16] W fun e w'=>e= .returned (.int .u8 x)∧W=w'):=
  ⟨M.gz zs 16,M.gz_bd hr.2.1 _,hid fun W hW=>g_any A n c 16 zs W w.heap.size (hr.below hW) (by decide)⟩
 obtain ⟨x17,hx17,G17⟩: ∃ x:Int,(0≤x∧x≤255)∧Hid (∀ W,Below w.heap.size w W→Calls Tryz.prog 13 #[.slice A n c, .int .i64 17] W fun e w'=>e= .returned (.int .u8 x)∧W=w'):=
  ⟨M.gz zs 17,M.gz_bd hr.2.1 _,hid fun W hW=>g_any A n c 17 zs W w.heap.size (hr.below hW) (by decide)⟩
 obtain ⟨x18,hx18,G18⟩: ∃ x:Int,(0≤x∧x≤255)∧Hid (∀ W,Below w.heap.size w W→Calls Tryz.prog 13 #[.slice A n c, .int .i64 18] W fun e w'=>e= .returned (.int .u8 x)∧W=w'):=
  ⟨M.gz zs 18,M.gz_bd hr.2.1 _,hid fun W hW=>g_any A n c 18 zs W w.heap.size (hr.below hW) (by decide)⟩
 obtain ⟨x19,hx19,G19⟩: ∃ x:Int,(0≤x∧x≤255)∧Hid (∀ W,Below w.heap.size w W→Calls Tryz.prog 13 #[.slice A n c, .int .i64 19] W fun e w'=>e= .returned (.int .u8 x)∧W=w'):=
  ⟨M.gz zs 19,M.gz_bd hr.2.1 _,hid fun W hW=>g_any A n c 19 zs W w.heap.size (hr.below hW) (by decide)⟩
 obtain ⟨s0,hs0,N0⟩: ∃ s:ByteArray,s.size≤100000∧Hid (∀ W,Calls Tryz.prog 12 #[.int .u8 x0] W fun e w'=>e= .returned (.string s)∧Below W.heap.size W w'):=
  ⟨M.nm x0,M.nm_size _,hid fun W=>name_any x0 hx0 W⟩
 obtain ⟨s7,hs7,N7⟩: ∃ s:ByteArray,s.size≤100000∧Hid (∀ W,Calls Tryz.prog 12 #[.int .u8 x7] W fun e w'=>e= .returned (.string s)∧Below W.heap.size W w'):=
  ⟨M.nm x7,M.nm_size _,hid fun W=>name_any x7 hx7 W⟩
 obtain ⟨s15,hs15,N15⟩: ∃ s:ByteArray,s.size≤100000∧Hid (∀ W,Calls Tryz.prog 12 #[.int .u8 x15] W fun e w'=>e= .returned (.string s)∧Below W.heap.size W w'):=
  ⟨M.nm x15,M.nm_size _,hid fun W=>name_any x15 hx15 W⟩
 obtain ⟨s16,hs16,N16⟩: ∃ s:ByteArray,s.size≤100000∧Hid (∀ W,Calls Tryz.prog 12 #[.int .u8 x16] W fun e w'=>e= .returned (.string s)∧Below W.heap.size W w'):=
  ⟨M.nm x16,M.nm_size _,hid fun W=>name_any x16 hx16 W⟩
 obtain ⟨s19,hs19,N19⟩: ∃ s:ByteArray,s.size≤100000∧Hid (∀ W,Calls Tryz.prog 12 #[.int .u8 x19] W fun e w'=>e= .returned (.string s)∧Below W.heap.size W w'):=
  ⟨M.nm x19,M.nm_size _,hid fun W=>name_any x19 hx19 W⟩
 obtain ⟨y1,hy1,Y1⟩: ∃ y:Int,(-1≤y∧y≤4611686018427387904)∧Hid (∀ W,Calls Tryz.prog 14 #[.int .u8 x1] W fun e w'=>e= .returned (.int .i64 y)∧Below W.heap.size W w'):=
  ⟨M.nr x1,M.nr_bd hx1,hid fun W=>number_any x1 hx1 W⟩
 obtain ⟨y2,hy2,Y2⟩: ∃ y:Int,(-1≤y∧y≤4611686018427387904)∧Hid (∀ W,Calls Tryz.prog 14 #[.int .u8 x2] W fun e w'=>e= .returned (.int .i64 y)∧Below W.heap.size W w'):=
  ⟨M.nr x2,M.nr_bd hx2,hid fun W=>number_any x2 hx2 W⟩
 obtain ⟨y3,hy3,Y3⟩: ∃ y:Int,(-1≤y∧y≤4611686018427387904)∧Hid (∀ W,Calls Tryz.prog 14 #[.int .u8 x3] W fun e w'=>e= .returned (.int .i64 y)∧Below W.heap.size W w'):=
  ⟨M.nr x3,M.nr_bd hx3,hid fun W=>number_any x3 hx3 W⟩
 obtain ⟨y4,hy4,Y4⟩: ∃ y:Int,(-1≤y∧y≤4611686018427387904)∧Hid (∀ W,Calls Tryz.prog 14 #[.int .u8 x4] W fun e w'=>e= .returned (.int .i64 y)∧Below W.heap.size W w'):=
  ⟨M.nr x4,M.nr_bd hx4,hid fun W=>number_any x4 hx4 W⟩
 obtain ⟨y5,hy5,Y5⟩: ∃ y:Int,(-1≤y∧y≤4611686018427387904)∧Hid (∀ W,Calls Tryz.prog 14 #[.int .u8 x5] W fun e w'=>e= .returned (.int .i64 y)∧Below W.heap.size W w'):=
  ⟨M.nr x5,M.nr_bd hx5,hid fun W=>number_any x5 hx5 W⟩
 obtain ⟨y14,hy14,Y14⟩: ∃ y:Int,(-1≤y∧y≤4611686018427387904)∧Hid (∀ W,Calls Tryz.prog 14 #[.int .u8 x14] W fun e w'=>e= .returned (.int .i64 y)∧Below W.heap.size W w'):=
  ⟨M.nr x14,M.nr_bd hx14,hid fun W=>number_any x14 hx14 W⟩
 obtain ⟨y17,hy17,Y17⟩: ∃ y:Int,(-1≤y∧y≤4611686018427387904)∧Hid (∀ W,Calls Tryz.prog 14 #[.int .u8 x17] W fun e w'=>e= .returned (.int .i64 y)∧Below W.heap.size W w'):=
  ⟨M.nr x17,M.nr_bd hx17,hid fun W=>number_any x17 hx17 W⟩
 have GI:=hid (fun (i:Nat) (hi:i≤1000)=>(⟨M.gz zs i,M.gz_bd hr.2.1 _,fun W hW=>g_any A n c i zs W w.heap.size (hr.below hW) hi⟩: ∃ x:Int,(0≤x∧x≤255)∧ ∀ W,Below w.heap.size w W→Calls Tryz.prog 13 #[.slice A n c, .int .i64 i] W fun e w'=>e= .returned (.int .u8 x)∧W=w'))
 have HY:=hid (fun (x:Int) (hx:0≤x∧x≤255)=>(⟨M.nr x,M.nr_bd hx,fun W=>number_any x hx W⟩: ∃ y:Int,(-1≤y∧y≤4611686018427387904)∧ ∀ W,Calls Tryz.prog 14 #[.int .u8 x] W fun e w'=>e= .returned (.int .i64 y)∧Below W.heap.size W w'))
 obtain ⟨j,hj⟩: ∃ j:Nat,(j:Int)=x6%13:=⟨(x6%13).toNat,by omega⟩
 have hj13:j<13:=by omega
 obtain ⟨kk,hkk,hkj⟩:=kinds_at j hj13
 obtain ⟨m8,hm8⟩: ∃ m:Int,m=x8%3:=⟨_,rfl⟩
 have hm8b:0≤m8∧m8≤2:=by omega
 have E13:=hid (show x6.tmod 13=(j:Int) by rw [Int.tmod_eq_emod_of_nonneg hx6.1];exact hj.symm)
 obtain ⟨m9,hm9⟩: ∃ m:Nat,(m:Int)=x9%5:=⟨(x9%5).toNat,by omega⟩
 have HM9:=hid (show m9≤4 by omega)
 have E5:=hid (show x9.tmod 5=(m9:Int) by rw [Int.tmod_eq_emod_of_nonneg hx9.1];exact hm9.symm)
 have EW5:=hid (show IntKind.u8.wrap (m9:Int)=m9 from IntWalk.u8_in _ (by omega))
 have EI5:=hid (show IntKind.i64.wrap (m9:Int)=m9 from IntWalk.i64_in _ (by omega))
 clear hm9
 obtain ⟨t17,ht17⟩: ∃ t:Int,t=y17.tmod 4000000:=⟨_,rfl⟩
 have hb17: -4000000≤t17∧t17≤4000000:=by
  subst ht17
  by_cases h0:0≤y17
  ·rw [Int.tmod_eq_emod_of_nonneg h0];omega
  ·have:y17= -1:=by omega
   subst this
   decide
 have E17:=hid ht17.symm
 have EW17:=hid (show IntKind.i64.wrap t17=t17 from IntWalk.i64_in _ (by omega))
 have BT17:=hid hb17
 have EW18:=hid (show IntKind.i64.wrap x18=x18 from IntWalk.i64_in _ (by omega))
 clear ht17 hb17
 have E3:=hid (show x8.tmod 3=m8 by rw [Int.tmod_eq_emod_of_nonneg hx8.1];exact hm8.symm)
 have EW:=hid (show IntKind.u8.wrap (j:Int)=j from IntWalk.u8_in _ (by omega))
 have EM:=hid (show IntKind.u8.wrap m8=m8 from IntWalk.u8_in _ (by omega))
 have EI:=hid (show IntKind.i64.wrap m8=m8 from IntWalk.i64_in _ (by omega))
 have HX:=hid (⟨hx0,hx1,hx2,hx3,hx4,hx5,hx6,hx7,hx8,hx9,hx14,hx15,hx16,hx17,hx18,hx19⟩:(0≤x0∧x0≤255)∧(0≤x1∧x1≤255)∧(0≤x2∧x2≤255)∧(0≤x3∧x3≤255)∧(0≤x4∧x4≤255)∧(0≤x5∧x5≤255)∧(0≤x6∧x6≤255)∧(0≤x7∧x7≤255)∧(0≤x8∧x8≤255)∧(0≤x9∧x9≤255)∧(0≤x14∧x14≤255)∧(0≤x15∧x15≤255)∧(0≤x16∧x16≤255)∧(0≤x17∧x17≤255)∧(0≤x18∧x18≤255)∧(0≤x19∧x19≤255))
 have HYB:=hid (⟨hy1,hy2,hy3,hy4,hy5,hy14,hy17⟩:(-1≤y1∧y1≤4611686018427387904)∧(-1≤y2∧y2≤4611686018427387904)∧(-1≤y3∧y3≤4611686018427387904)∧(-1≤y4∧y4≤4611686018427387904)∧(-1≤y5∧y5≤4611686018427387904)∧(-1≤y14∧y14≤4611686018427387904)∧(-1≤y17∧y17≤4611686018427387904))
 have HSB:=hid (⟨hs0,hs7,hs15,hs16,hs19⟩:s0.size≤100000∧s7.size≤100000∧s15.size≤100000∧s16.size≤100000∧s19.size≤100000)
 have HKB:=hid hkk
 have HMB:=hid hm8b
 have HJ:=hid hj13
 have HKJ:=hid hkj
 clear hx0 hx1 hx2 hx3 hx4 hx5 hx6 hx7 hx8 hx9 hx14 hx15 hx16 hx17 hx18 hx19 hy1 hy2 hy3 hy4 hy5 hy14 hy17 hs0 hs7 hs15 hs16 hs19 hkk hm8b hj hj13 hkj hm8 hr hc hcm
 go_enter Tryz.func5,Tryz.ntmps5
 go_wp2_with fail
 have hz1: ∀ W,Below (w.heap.size+2) ((w.alloc (.cells (hcells {} (.slice none 0 0)) 24)).alloc (.cells #[.int .u8 48, .int .u8 49, .int .u8 50, .int .u8 51, .int .u8 52, .int .u8 53, .int .u8 54, .int .u8 55, .int .u8 120, .int .u8 103, .int .u8 76, .int .u8 75, .int .u8 83, .int .u8 122] 5)) W→Below w.heap.size w W∧HB W w.heap.size {} (.slice none 0 0)∧W.cell? ⟨w.heap.size+1,j,none⟩=some (.int .u8 kk):=by
  intro W hW
  have e1:(w.alloc (.cells (hcells {} (.slice none 0 0)) 24)).heap.size=w.heap.size+1:=by simp
  refine ⟨(((Below.refl _ _).alloc (Nat.le_refl _) _).alloc (by simp) _).trans (hW.mono (by omega)),HB.below ((HB.new w {} (.slice none 0 0)).alloc _) hW (by omega), ?_⟩
  rw [hW.cell (p:=⟨w.heap.size+1,j,none⟩) (by simp),←e1,cell_of_row _ _ j _ _ _ (heap_alloc_new _ _)]
  exact HKJ.out
 have hsz:((w.alloc (.cells (hcells {} (.slice none 0 0)) 24)).alloc (.cells #[.int .u8 48, .int .u8 49, .int .u8 50, .int .u8 51, .int .u8 52, .int .u8 53, .int .u8 54, .int .u8 55, .int .u8 120, .int .u8 103, .int .u8 76, .int .u8 75, .int .u8 83, .int .u8 122] 5)).heap.size=w.heap.size+2:=by simp
 have HZ:=hid hz1
 have HSZ:=hid hsz
 clear hz1 hsz
 change Code.wp _ _ _ _ ((w.alloc (.cells (hcells {} (.slice none 0 0)) 24)).alloc _)
 generalize ((w.alloc (.cells (hcells {} (.slice none 0 0)) 24)).alloc (.cells #[.int .u8 48, .int .u8 49, .int .u8 50, .int .u8 51, .int .u8 52, .int .u8 53, .int .u8 54, .int .u8 55, .int .u8 120, .int .u8 103, .int .u8 76, .int .u8 75, .int .u8 83, .int .u8 122] 5))=V1 at*
 have HLE:=hid (fun (W:World) (hW:Below (w.heap.size+2) V1 W)=>(show w.heap.size+2≤W.heap.size from HSZ.out▸hW.size))
 have HS:=hid (fun (W:World) (hW:Below (w.heap.size+2) V1 W)=>(HZ.out W hW).1)
 have HKc:=hid (fun (W:World) (hW:Below (w.heap.size+2) V1 W)=>(HZ.out W hW).2.2)
 have HB2:=hid (fun (W:World) (hV:Below V1.heap.size V1 W)=>(show Below (w.heap.size+2) V1 W from HSZ.out▸hV))
 refine wp_region_rows [7,8,9,10,11,12,13,14,15,16,17,18,19,20,21,22,23,24,25,26,27,28,29,30,31,32,33,34,35,36,37,38,4] (by kernel_rfl) (by kernel_rfl) (by kernel_rfl) (fun (i:Nat) (v:Value) (W:World)=>match i with|0=>v= .slice A n c|1=>v= .int .u8 x0|2=>v= .string s0|3=>v= .slice A n c|4=>v= .int .u8 x1|5=>v= .int .i64 y1|6=>v= .slice A n c|7=>v= .int .u8 x2|8=>v= .int .i64 y2|9=>v= .slice A n c|10=>v= .int .u8 x3|11=>v= .int .i64 y3|12=>v= .slice A n c|13=>v= .int .u8 x4|14=>v= .int .i64 y4|15=>v= .slice A n c|16=>v= .int .u8 x5|17=>v= .int .i64 y5|18=>v= .slice (some ⟨w.heap.size+1,0,none⟩) 14 14|19=>v= .slice A n c|20=>v= .int .u8 x6|21=>v= .int .u8 j|22=>v= .pointer (some ⟨w.heap.size+1,j,none⟩)|23=>v= .int .u8 kk|24=>v= .slice A n c|25=>v= .int .u8 x7|26=>v= .string s7|27=>v= .slice A n c|28=>v= .int .u8 x8|29=>v= .int .u8 m8|30=>v= .int .i64 m8|31=>v= .agg (hcells { name:=s0,mode:=y1,uid:=y2,gid:=y3,size:=y4,mtime:=y5,kind:=kk,link:=s7,way:=m8 } (.slice none 0 0))|_=> ∃ g,v= .pointer (some ⟨g,0,none⟩)∧w.heap.size+2≤g∧g<W.heap.size∧HB W g {} (.slice none 0 0)) ?_ ?_ ?_
 ·intro i hi v w1 w2 hb hR
  have hlt:i<33:=hi
  have hi':i=0∨i=1∨i=2∨i=3∨i=4∨i=5∨i=6∨i=7∨i=8∨i=9∨i=10∨i=11∨i=12∨i=13∨i=14∨i=15∨i=16∨i=17∨i=18∨i=19∨i=20∨i=21∨i=22∨i=23∨i=24∨i=25∨i=26∨i=27∨i=28∨i=29∨i=30∨i=31∨i=32:=by omega
  clear hlt hi
  rcases hi' with rfl|rfl|rfl|rfl|rfl|rfl|rfl|rfl|rfl|rfl|rfl|rfl|rfl|rfl|rfl|rfl|rfl|rfl|rfl|rfl|rfl|rfl|rfl|rfl|rfl|rfl|rfl|rfl|rfl|rfl|rfl|rfl|rfl
  ·exact hR
  ·exact hR
  ·exact hR
  ·exact hR
  ·exact hR
  ·exact hR
  ·exact hR
  ·exact hR
  ·exact hR
  ·exact hR
  ·exact hR
  ·exact hR
  ·exact hR
  ·exact hR
  ·exact hR
  ·exact hR
  ·exact hR
  ·exact hR
  ·exact hR
  ·exact hR
  ·exact hR
  ·exact hR
  ·exact hR
  ·exact hR
  ·exact hR
  ·exact hR
  ·exact hR
  ·exact hR
  ·exact hR
  ·exact hR
  ·exact hR
  ·exact hR
  ·obtain ⟨g,h1,h2,h3,h4⟩:=hR
   exact ⟨g,h1,h2,Nat.lt_of_lt_of_le h3 hb.size,h4.below hb h3⟩
 ·intro i hi o ho a w1 hw hpar hp
  have HE:=hid (HB2.out w1 hw)
  have hlt:i<33:=hi
  have hi':i=0∨i=1∨i=2∨i=3∨i=4∨i=5∨i=6∨i=7∨i=8∨i=9∨i=10∨i=11∨i=12∨i=13∨i=14∨i=15∨i=16∨i=17∨i=18∨i=19∨i=20∨i=21∨i=22∨i=23∨i=24∨i=25∨i=26∨i=27∨i=28∨i=29∨i=30∨i=31∨i=32:=by omega
  clear hlt hi
  rcases hi' with rfl|rfl|rfl|rfl|rfl|rfl|rfl|rfl|rfl|rfl|rfl|rfl|rfl|rfl|rfl|rfl|rfl|rfl|rfl|rfl|rfl|rfl|rfl|rfl|rfl|rfl|rfl|rfl|rfl|rfl|rfl|rfl|rfl
  ·simp only [List.getElem?_toArray,List.getElem?_cons_zero,List.getElem?_cons_succ,Option.some.injEq] at ho
   subst ho
   have hs0:a.tmps[0]?.getD undef= .slice A n c:=(eval_getD a 0).symm.trans (hpar 0 (by decide))
   clear hp hpar
   go_simp
   exact ⟨_,rfl,rfl,Below.refl _ _⟩
  ·simp only [List.getElem?_toArray,List.getElem?_cons_zero,List.getElem?_cons_succ,Option.some.injEq] at ho
   subst ho
   have h0:a.tmps[7]?.getD undef= .slice A n c:=(eval_getD a 7).symm.trans (hp ⟨0, .data⟩ (by simp) rfl)
   clear hp hpar
   go_simp
   (with_reducible refine (G0.out _ (HS.out _ HE.out)).mono ?_)
   rintro e w2 ⟨rfl,rfl⟩
   exact ⟨_,rfl,rfl,Below.refl _ _⟩
  ·simp only [List.getElem?_toArray,List.getElem?_cons_zero,List.getElem?_cons_succ,Option.some.injEq] at ho
   subst ho
   have h1:a.tmps[8]?.getD undef= .int .u8 x0:=(eval_getD a 8).symm.trans (hp ⟨1, .data⟩ (by simp) rfl)
   clear hp hpar
   go_simp
   (with_reducible refine (N0.out _).mono ?_)
   rintro e w2 ⟨rfl,h2⟩
   exact ⟨_,rfl,rfl,h2⟩
  ·simp only [List.getElem?_toArray,List.getElem?_cons_zero,List.getElem?_cons_succ,Option.some.injEq] at ho
   subst ho
   have hs0:a.tmps[0]?.getD undef= .slice A n c:=(eval_getD a 0).symm.trans (hpar 0 (by decide))
   clear hp hpar
   go_simp
   exact ⟨_,rfl,rfl,Below.refl _ _⟩
  ·simp only [List.getElem?_toArray,List.getElem?_cons_zero,List.getElem?_cons_succ,Option.some.injEq] at ho
   subst ho
   have h3:a.tmps[10]?.getD undef= .slice A n c:=(eval_getD a 10).symm.trans (hp ⟨3, .data⟩ (by simp) rfl)
   clear hp hpar
   go_simp
   (with_reducible refine (G1.out _ (HS.out _ HE.out)).mono ?_)
   rintro e w2 ⟨rfl,rfl⟩
   exact ⟨_,rfl,rfl,Below.refl _ _⟩
  ·simp only [List.getElem?_toArray,List.getElem?_cons_zero,List.getElem?_cons_succ,Option.some.injEq] at ho
   subst ho
   have h4:a.tmps[11]?.getD undef= .int .u8 x1:=(eval_getD a 11).symm.trans (hp ⟨4, .data⟩ (by simp) rfl)
   clear hp hpar
   go_simp
   (with_reducible refine (Y1.out _).mono ?_)
   rintro e w2 ⟨rfl,h2⟩
   exact ⟨_,rfl,rfl,h2⟩
  ·simp only [List.getElem?_toArray,List.getElem?_cons_zero,List.getElem?_cons_succ,Option.some.injEq] at ho
   subst ho
   have hs0:a.tmps[0]?.getD undef= .slice A n c:=(eval_getD a 0).symm.trans (hpar 0 (by decide))
   clear hp hpar
   go_simp
   exact ⟨_,rfl,rfl,Below.refl _ _⟩
  ·simp only [List.getElem?_toArray,List.getElem?_cons_zero,List.getElem?_cons_succ,Option.some.injEq] at ho
   subst ho
   have h6:a.tmps[13]?.getD undef= .slice A n c:=(eval_getD a 13).symm.trans (hp ⟨6, .data⟩ (by simp) rfl)
   clear hp hpar
   go_simp
   (with_reducible refine (G2.out _ (HS.out _ HE.out)).mono ?_)
   rintro e w2 ⟨rfl,rfl⟩
   exact ⟨_,rfl,rfl,Below.refl _ _⟩
  ·simp only [List.getElem?_toArray,List.getElem?_cons_zero,List.getElem?_cons_succ,Option.some.injEq] at ho
   subst ho
   have h7:a.tmps[14]?.getD undef= .int .u8 x2:=(eval_getD a 14).symm.trans (hp ⟨7, .data⟩ (by simp) rfl)
   clear hp hpar
   go_simp
   (with_reducible refine (Y2.out _).mono ?_)
   rintro e w2 ⟨rfl,h2⟩
   exact ⟨_,rfl,rfl,h2⟩
  ·simp only [List.getElem?_toArray,List.getElem?_cons_zero,List.getElem?_cons_succ,Option.some.injEq] at ho
   subst ho
   have hs0:a.tmps[0]?.getD undef= .slice A n c:=(eval_getD a 0).symm.trans (hpar 0 (by decide))
   clear hp hpar
   go_simp
   exact ⟨_,rfl,rfl,Below.refl _ _⟩
  ·simp only [List.getElem?_toArray,List.getElem?_cons_zero,List.getElem?_cons_succ,Option.some.injEq] at ho
   subst ho
   have h9:a.tmps[16]?.getD undef= .slice A n c:=(eval_getD a 16).symm.trans (hp ⟨9, .data⟩ (by simp) rfl)
   clear hp hpar
   go_simp
   (with_reducible refine (G3.out _ (HS.out _ HE.out)).mono ?_)
   rintro e w2 ⟨rfl,rfl⟩
   exact ⟨_,rfl,rfl,Below.refl _ _⟩
  ·simp only [List.getElem?_toArray,List.getElem?_cons_zero,List.getElem?_cons_succ,Option.some.injEq] at ho
   subst ho
   have h10:a.tmps[17]?.getD undef= .int .u8 x3:=(eval_getD a 17).symm.trans (hp ⟨10, .data⟩ (by simp) rfl)
   clear hp hpar
   go_simp
   (with_reducible refine (Y3.out _).mono ?_)
   rintro e w2 ⟨rfl,h2⟩
   exact ⟨_,rfl,rfl,h2⟩
  ·simp only [List.getElem?_toArray,List.getElem?_cons_zero,List.getElem?_cons_succ,Option.some.injEq] at ho
   subst ho
   have hs0:a.tmps[0]?.getD undef= .slice A n c:=(eval_getD a 0).symm.trans (hpar 0 (by decide))
   clear hp hpar
   go_simp
   exact ⟨_,rfl,rfl,Below.refl _ _⟩
  ·simp only [List.getElem?_toArray,List.getElem?_cons_zero,List.getElem?_cons_succ,Option.some.injEq] at ho
   subst ho
   have h12:a.tmps[19]?.getD undef= .slice A n c:=(eval_getD a 19).symm.trans (hp ⟨12, .data⟩ (by simp) rfl)
   clear hp hpar
   go_simp
   (with_reducible refine (G4.out _ (HS.out _ HE.out)).mono ?_)
   rintro e w2 ⟨rfl,rfl⟩
   exact ⟨_,rfl,rfl,Below.refl _ _⟩
  ·simp only [List.getElem?_toArray,List.getElem?_cons_zero,List.getElem?_cons_succ,Option.some.injEq] at ho
   subst ho
   have h13:a.tmps[20]?.getD undef= .int .u8 x4:=(eval_getD a 20).symm.trans (hp ⟨13, .data⟩ (by simp) rfl)
   clear hp hpar
   go_simp
   (with_reducible refine (Y4.out _).mono ?_)
   rintro e w2 ⟨rfl,h2⟩
   exact ⟨_,rfl,rfl,h2⟩
  ·simp only [List.getElem?_toArray,List.getElem?_cons_zero,List.getElem?_cons_succ,Option.some.injEq] at ho
   subst ho
   have hs0:a.tmps[0]?.getD undef= .slice A n c:=(eval_getD a 0).symm.trans (hpar 0 (by decide))
   clear hp hpar
   go_simp
   exact ⟨_,rfl,rfl,Below.refl _ _⟩
  ·simp only [List.getElem?_toArray,List.getElem?_cons_zero,List.getElem?_cons_succ,Option.some.injEq] at ho
   subst ho
   have h15:a.tmps[22]?.getD undef= .slice A n c:=(eval_getD a 22).symm.trans (hp ⟨15, .data⟩ (by simp) rfl)
   clear hp hpar
   go_simp
   (with_reducible refine (G5.out _ (HS.out _ HE.out)).mono ?_)
   rintro e w2 ⟨rfl,rfl⟩
   exact ⟨_,rfl,rfl,Below.refl _ _⟩
  ·simp only [List.getElem?_toArray,List.getElem?_cons_zero,List.getElem?_cons_succ,Option.some.injEq] at ho
   subst ho
   have h16:a.tmps[23]?.getD undef= .int .u8 x5:=(eval_getD a 23).symm.trans (hp ⟨16, .data⟩ (by simp) rfl)
   clear hp hpar
   go_simp
   (with_reducible refine (Y5.out _).mono ?_)
   rintro e w2 ⟨rfl,h2⟩
   exact ⟨_,rfl,rfl,h2⟩
  ·simp only [List.getElem?_toArray,List.getElem?_cons_zero,List.getElem?_cons_succ,Option.some.injEq] at ho
   subst ho
   have hs3:a.tmps[3]?.getD undef= .slice (some ⟨w.heap.size+1,0,none⟩) 14 14:=(eval_getD a 3).symm.trans (hpar 3 (by decide))
   clear hp hpar
   go_simp
   exact ⟨_,rfl,rfl,Below.refl _ _⟩
  ·simp only [List.getElem?_toArray,List.getElem?_cons_zero,List.getElem?_cons_succ,Option.some.injEq] at ho
   subst ho
   have hs0:a.tmps[0]?.getD undef= .slice A n c:=(eval_getD a 0).symm.trans (hpar 0 (by decide))
   clear hp hpar
   go_simp
   exact ⟨_,rfl,rfl,Below.refl _ _⟩
  ·simp only [List.getElem?_toArray,List.getElem?_cons_zero,List.getElem?_cons_succ,Option.some.injEq] at ho
   subst ho
   have h19:a.tmps[26]?.getD undef= .slice A n c:=(eval_getD a 26).symm.trans (hp ⟨19, .data⟩ (by simp) rfl)
   clear hp hpar
   go_simp
   (with_reducible refine (G6.out _ (HS.out _ HE.out)).mono ?_)
   rintro e w2 ⟨rfl,rfl⟩
   exact ⟨_,rfl,rfl,Below.refl _ _⟩
  ·simp only [List.getElem?_toArray,List.getElem?_cons_zero,List.getElem?_cons_succ,Option.some.injEq] at ho
   subst ho
   have h20:a.tmps[27]?.getD undef= .int .u8 x6:=(eval_getD a 27).symm.trans (hp ⟨20, .data⟩ (by simp) rfl)
   have e13:=E13.out
   clear hp hpar
   go_simp
   exact ⟨_,rfl,rfl,Below.refl _ _⟩
  ·simp only [List.getElem?_toArray,List.getElem?_cons_zero,List.getElem?_cons_succ,Option.some.injEq] at ho
   subst ho
   have h18:a.tmps[25]?.getD undef= .slice (some ⟨w.heap.size+1,0,none⟩) 14 14:=(eval_getD a 25).symm.trans (hp ⟨18, .data⟩ (by simp) rfl)
   have h21:a.tmps[28]?.getD undef= .int .u8 j:=(eval_getD a 28).symm.trans (hp ⟨21, .data⟩ (by simp) rfl)
   have hj14:(j:Int)<14:=by have:=HJ.out;omega
   have hj15:j<14:=Nat.lt_succ_of_lt HJ.out
   clear hp hpar
   go_simp
   exact ⟨_,rfl,rfl,Below.refl _ _⟩
  ·simp only [List.getElem?_toArray,List.getElem?_cons_zero,List.getElem?_cons_succ,Option.some.injEq] at ho
   subst ho
   have h22:a.tmps[29]?.getD undef= .pointer (some ⟨w.heap.size+1,j,none⟩):=(eval_getD a 29).symm.trans (hp ⟨22, .data⟩ (by simp) rfl)
   have kc:=HKc.out _ HE.out
   clear hp hpar
   go_simp
   exact ⟨_,rfl,rfl,Below.refl _ _⟩
  ·simp only [List.getElem?_toArray,List.getElem?_cons_zero,List.getElem?_cons_succ,Option.some.injEq] at ho
   subst ho
   have hs0:a.tmps[0]?.getD undef= .slice A n c:=(eval_getD a 0).symm.trans (hpar 0 (by decide))
   clear hp hpar
   go_simp
   exact ⟨_,rfl,rfl,Below.refl _ _⟩
  ·simp only [List.getElem?_toArray,List.getElem?_cons_zero,List.getElem?_cons_succ,Option.some.injEq] at ho
   subst ho
   have h24:a.tmps[31]?.getD undef= .slice A n c:=(eval_getD a 31).symm.trans (hp ⟨24, .data⟩ (by simp) rfl)
   clear hp hpar
   go_simp
   (with_reducible refine (G7.out _ (HS.out _ HE.out)).mono ?_)
   rintro e w2 ⟨rfl,rfl⟩
   exact ⟨_,rfl,rfl,Below.refl _ _⟩
  ·simp only [List.getElem?_toArray,List.getElem?_cons_zero,List.getElem?_cons_succ,Option.some.injEq] at ho
   subst ho
   have h25:a.tmps[32]?.getD undef= .int .u8 x7:=(eval_getD a 32).symm.trans (hp ⟨25, .data⟩ (by simp) rfl)
   clear hp hpar
   go_simp
   (with_reducible refine (N7.out _).mono ?_)
   rintro e w2 ⟨rfl,h2⟩
   exact ⟨_,rfl,rfl,h2⟩
  ·simp only [List.getElem?_toArray,List.getElem?_cons_zero,List.getElem?_cons_succ,Option.some.injEq] at ho
   subst ho
   have hs0:a.tmps[0]?.getD undef= .slice A n c:=(eval_getD a 0).symm.trans (hpar 0 (by decide))
   clear hp hpar
   go_simp
   exact ⟨_,rfl,rfl,Below.refl _ _⟩
  ·simp only [List.getElem?_toArray,List.getElem?_cons_zero,List.getElem?_cons_succ,Option.some.injEq] at ho
   subst ho
   have h27:a.tmps[34]?.getD undef= .slice A n c:=(eval_getD a 34).symm.trans (hp ⟨27, .data⟩ (by simp) rfl)
   clear hp hpar
   go_simp
   (with_reducible refine (G8.out _ (HS.out _ HE.out)).mono ?_)
   rintro e w2 ⟨rfl,rfl⟩
   exact ⟨_,rfl,rfl,Below.refl _ _⟩
  ·simp only [List.getElem?_toArray,List.getElem?_cons_zero,List.getElem?_cons_succ,Option.some.injEq] at ho
   subst ho
   have h28:a.tmps[35]?.getD undef= .int .u8 x8:=(eval_getD a 35).symm.trans (hp ⟨28, .data⟩ (by simp) rfl)
   have e3:=E3.out
   clear hp hpar
   go_simp
   exact ⟨_,rfl,rfl,Below.refl _ _⟩
  ·simp only [List.getElem?_toArray,List.getElem?_cons_zero,List.getElem?_cons_succ,Option.some.injEq] at ho
   subst ho
   have h29:a.tmps[36]?.getD undef= .int .u8 m8:=(eval_getD a 36).symm.trans (hp ⟨29, .data⟩ (by simp) rfl)
   have ei:=EI.out
   clear hp hpar
   go_simp
   exact ⟨_,rfl,rfl,Below.refl _ _⟩
  ·simp only [List.getElem?_toArray,List.getElem?_cons_zero,List.getElem?_cons_succ,Option.some.injEq] at ho
   subst ho
   have h2:a.tmps[9]?.getD undef= .string s0:=(eval_getD a 9).symm.trans (hp ⟨2, .data⟩ (by simp) rfl)
   have h5:a.tmps[12]?.getD undef= .int .i64 y1:=(eval_getD a 12).symm.trans (hp ⟨5, .data⟩ (by simp) rfl)
   have h8:a.tmps[15]?.getD undef= .int .i64 y2:=(eval_getD a 15).symm.trans (hp ⟨8, .data⟩ (by simp) rfl)
   have h11:a.tmps[18]?.getD undef= .int .i64 y3:=(eval_getD a 18).symm.trans (hp ⟨11, .data⟩ (by simp) rfl)
   have h14:a.tmps[21]?.getD undef= .int .i64 y4:=(eval_getD a 21).symm.trans (hp ⟨14, .data⟩ (by simp) rfl)
   have h17:a.tmps[24]?.getD undef= .int .i64 y5:=(eval_getD a 24).symm.trans (hp ⟨17, .data⟩ (by simp) rfl)
   have h23:a.tmps[30]?.getD undef= .int .u8 kk:=(eval_getD a 30).symm.trans (hp ⟨23, .data⟩ (by simp) rfl)
   have h26:a.tmps[33]?.getD undef= .string s7:=(eval_getD a 33).symm.trans (hp ⟨26, .data⟩ (by simp) rfl)
   have h30:a.tmps[37]?.getD undef= .int .i64 m8:=(eval_getD a 37).symm.trans (hp ⟨30, .data⟩ (by simp) rfl)
   clear hp hpar
   go_simp
   exact ⟨_,rfl,rfl,Below.refl _ _⟩
  ·simp only [List.getElem?_toArray,List.getElem?_cons_zero,List.getElem?_cons_succ,Option.some.injEq] at ho
   subst ho
   clear hp hpar
   go_simp
   exact ⟨_,rfl,⟨w1.heap.size,rfl,HLE.out _ HE.out,Nat.lt_succ_self _,HB.new w1 {} (.slice none 0 0)⟩,(Below.refl _ _).alloc (Nat.le_refl _) _⟩
 ·intro o ho vs w1 hw hh
  simp only [List.length_cons,List.length_nil,Nat.reduceAdd,List.getElem?_toArray,List.getElem?_cons_zero,List.getElem?_cons_succ,Option.some.injEq] at ho
  subst ho
  have HE:=hid (HB2.out w1 hw)
  have e0:vs 0= .slice A n c:=hh 0 (by decide)
  have e1:vs 1= .int .u8 x0:=hh 1 (by decide)
  have e2:vs 2= .string s0:=hh 2 (by decide)
  have e3:vs 3= .slice A n c:=hh 3 (by decide)
  have e4:vs 4= .int .u8 x1:=hh 4 (by decide)
  have e5:vs 5= .int .i64 y1:=hh 5 (by decide)
  have e6:vs 6= .slice A n c:=hh 6 (by decide)
  have e7:vs 7= .int .u8 x2:=hh 7 (by decide)
  have e8:vs 8= .int .i64 y2:=hh 8 (by decide)
  have e9:vs 9= .slice A n c:=hh 9 (by decide)
  have e10:vs 10= .int .u8 x3:=hh 10 (by decide)
  have e11:vs 11= .int .i64 y3:=hh 11 (by decide)
  have e12:vs 12= .slice A n c:=hh 12 (by decide)
  have e13:vs 13= .int .u8 x4:=hh 13 (by decide)
  have e14:vs 14= .int .i64 y4:=hh 14 (by decide)
  have e15:vs 15= .slice A n c:=hh 15 (by decide)
  have e16:vs 16= .int .u8 x5:=hh 16 (by decide)
  have e17:vs 17= .int .i64 y5:=hh 17 (by decide)
  have e18:vs 18= .slice (some ⟨w.heap.size+1,0,none⟩) 14 14:=hh 18 (by decide)
  have e19:vs 19= .slice A n c:=hh 19 (by decide)
  have e20:vs 20= .int .u8 x6:=hh 20 (by decide)
  have e21:vs 21= .int .u8 j:=hh 21 (by decide)
  have e22:vs 22= .pointer (some ⟨w.heap.size+1,j,none⟩):=hh 22 (by decide)
  have e23:vs 23= .int .u8 kk:=hh 23 (by decide)
  have e24:vs 24= .slice A n c:=hh 24 (by decide)
  have e25:vs 25= .int .u8 x7:=hh 25 (by decide)
  have e26:vs 26= .string s7:=hh 26 (by decide)
  have e27:vs 27= .slice A n c:=hh 27 (by decide)
  have e28:vs 28= .int .u8 x8:=hh 28 (by decide)
  have e29:vs 29= .int .u8 m8:=hh 29 (by decide)
  have e30:vs 30= .int .i64 m8:=hh 30 (by decide)
  have e31:vs 31= .agg (hcells { name:=s0,mode:=y1,uid:=y2,gid:=y3,size:=y4,mtime:=y5,kind:=kk,link:=s7,way:=m8 } (.slice none 0 0)):=hh 31 (by decide)
  have x32: ∃ g:Nat,vs 32= .pointer (some ⟨g,0,none⟩)∧w.heap.size+2≤g∧g<w1.heap.size∧HB w1 g {} (.slice none 0 0):=hh 32 (by decide)
  have y32:=Classical.choose_spec x32
  generalize Classical.choose x32=g at y32
  have e32:=y32.1
  have HY:=hid y32.2
  clear y32 x32
  rw [show List.length ([7,8,9,10,11,12,13,14,15,16,17,18,19,20,21,22,23,24,25,26,27,28,29,30,31,32,33,34,35,36,37,38,4]:List Nat)=33 from rfl]
  rw [putAll_at 33 32 rfl (d:=4) rfl e32]
  rw [putAll_at 32 31 rfl (d:=38) rfl e31]
  rw [putAll_at 31 30 rfl (d:=37) rfl e30]
  rw [putAll_at 30 29 rfl (d:=36) rfl e29]
  rw [putAll_at 29 28 rfl (d:=35) rfl e28]
  rw [putAll_at 28 27 rfl (d:=34) rfl e27]
  rw [putAll_at 27 26 rfl (d:=33) rfl e26]
  rw [putAll_at 26 25 rfl (d:=32) rfl e25]
  rw [putAll_at 25 24 rfl (d:=31) rfl e24]
  rw [putAll_at 24 23 rfl (d:=30) rfl e23]
  rw [putAll_at 23 22 rfl (d:=29) rfl e22]
  rw [putAll_at 22 21 rfl (d:=28) rfl e21]
  rw [putAll_at 21 20 rfl (d:=27) rfl e20]
  rw [putAll_at 20 19 rfl (d:=26) rfl e19]
  rw [putAll_at 19 18 rfl (d:=25) rfl e18]
  rw [putAll_at 18 17 rfl (d:=24) rfl e17]
  rw [putAll_at 17 16 rfl (d:=23) rfl e16]
  rw [putAll_at 16 15 rfl (d:=22) rfl e15]
  rw [putAll_at 15 14 rfl (d:=21) rfl e14]
  rw [putAll_at 14 13 rfl (d:=20) rfl e13]
  rw [putAll_at 13 12 rfl (d:=19) rfl e12]
  rw [putAll_at 12 11 rfl (d:=18) rfl e11]
  rw [putAll_at 11 10 rfl (d:=17) rfl e10]
  rw [putAll_at 10 9 rfl (d:=16) rfl e9]
  rw [putAll_at 9 8 rfl (d:=15) rfl e8]
  rw [putAll_at 8 7 rfl (d:=14) rfl e7]
  rw [putAll_at 7 6 rfl (d:=13) rfl e6]
  rw [putAll_at 6 5 rfl (d:=12) rfl e5]
  rw [putAll_at 5 4 rfl (d:=11) rfl e4]
  rw [putAll_at 4 3 rfl (d:=10) rfl e3]
  rw [putAll_at 3 2 rfl (d:=9) rfl e2]
  rw [putAll_at 2 1 rfl (d:=8) rfl e1]
  rw [putAll_at 1 0 rfl (d:=7) rfl e0]
  rw [putAll_zero]
  simp only [Act.put,List.setIfInBounds_toArray,List.set_cons_zero,List.set_cons_succ]
  refine wp_store_row 24 (.tmp 4) (.tmp 38) rfl g (hcells { name:=s0,mode:=y1,uid:=y2,gid:=y3,size:=y4,mtime:=y5,kind:=kk,link:=s7,way:=m8 } (.slice none 0 0)) (by rfl) (by rfl) 24 _ HY.out.2.2 hdr_size rfl (hcells_one _ rfl) ?_
  have hgw:=HY.out.1
  have hbx:=HY.out.2.2
  have hS:=HE.out
  have B3:Below (w.heap.size+2) V1 (w1.setRow g (hcells { name:=s0,mode:=y1,uid:=y2,gid:=y3,size:=y4,mtime:=y5,kind:=kk,link:=s7,way:=m8 } (.slice none 0 0))):=below_setRow hS hgw _
  have D3:HD w (w1.setRow g (hcells { name:=s0,mode:=y1,uid:=y2,gid:=y3,size:=y4,mtime:=y5,kind:=kk,link:=s7,way:=m8 } (.slice none 0 0))) g { name:=s0,mode:=y1,uid:=y2,gid:=y3,size:=y4,mtime:=y5,kind:=kk,link:=s7,way:=m8 } (.slice none 0 0):=
   ⟨setRow_heap _ _ _ _ _ _ hbx,(setRow_other _ _ _ _ (by omega)).trans (HZ.out _ hS).2.1,by omega,PartsIs.nil _ _,Nat.zero_le _,HMB.out,(by intro p hp;cases hp),HKB.out,
    (by have:=HYB.out;have:=HX.out;dsimp only;omega),⟨HSB.out.1,HSB.out.2.1,Nat.zero_le _,Nat.zero_le _,Nat.zero_le _⟩,HS.out _ B3⟩
  have HD3:=hid D3
  clear hh e0 e1 e2 e3 e4 e5 e6 e7 e8 e9 e10 e11 e12 e13 e14 e15 e16 e17 e18 e19 e20 e21 e22 e23 e24 e25 e26 e27 e28 e29 e30 e31 e32 HE HY D3 B3 hbx hS hw
  simp only [Act.put]
  generalize (w1.setRow g _)=w3 at*
  obtain ⟨h0,hh0⟩: ∃ h:M.Hdr,({ name:=s0,mode:=y1,uid:=y2,gid:=y3,size:=y4,mtime:=y5,kind:=kk,link:=s7,way:=m8 } :M.Hdr)=h:=⟨_,rfl⟩
  have hp0:h0.parts= []:=by rw [←hh0]
  rw [hh0] at HD3⊢
  have HP0:=hid hp0
  clear hh0 hp0 hgw
  go_wp2_with fail
  go_upto_if 41 with ((with_reducible refine (G6.out _ HD3.out.below).mono ?_);rintro e w9 ⟨rfl,rfl⟩)
  go_cut [42] from 42 to 42 (fun _ wc=> ∃ h,Hid (HD w wc g h (.slice none 0 0))∧Hid (h.parts= []))
  case first=>
   have f6:=HB.frozen HD3.out.box 6
   have k6:=HD3.out.cell (i:=6) (v:= .int .u8 h0.kind) rfl
   by_cases hk6:250<x6
   ·go_wp2_with fail
    go_meet
    case rel=>exact ⟨_,hid (HD3.out.set (h':= { h0 with kind:=122 }) 6 _ rfl rfl HD3.out.way ⟨show (0:Int)≤122 by decide,show (122:Int)≤255 by decide⟩ HD3.out.ints HD3.out.texts),HP0⟩
   ·go_wp2_with fail
    go_meet
    case rel=>exact ⟨h0,HD3,HP0⟩
  case rest=>
   obtain ⟨h1,HD4,HP4⟩:=hcut
   clear HD3 HP0
   have k6:=HD4.out.cell (i:=6) (v:= .int .u8 h1.kind) rfl
   obtain ⟨b83,hb83⟩: ∃ b,(h1.kind==83)=b:=⟨_,rfl⟩
   go_upto_if 45 with fail
   clear hb83
   go_cut [5,45] from 46 to 76 (fun _ _ wc=> ∃ h pv,Hid (HD w wc g h pv))
   case first=>
    cases b83
    case true=>
     have k8:=HD4.out.cell (i:=8) (v:= .int .i64 h1.way) rfl
     have f8:=HB.frozen HD4.out.box 8
     go_wp2_with fail
     have HD5:=hid (HD4.out.set (h':= { h1 with way:=2 }) 8 (.int .i64 2) rfl rfl ⟨show (0:Int)≤2 by decide,show (2:Int)≤2 by decide⟩ HD4.out.kind HD4.out.ints HD4.out.texts)
     have HP5:=hid (show ({ h1 with way:=2 } :M.Hdr).parts= [] from HP4.out)
     generalize ({ h1 with way:=2 } :M.Hdr)=h5 at*
     clear k6 k8 f8
     go_loopw [5] (fun i wr=> ∃ (k:Nat) (h2:M.Hdr) (A1:Option Addr) (n1 c1:Nat),i= .int .i64 k∧k≤4∧Hid (HD w wr g h2 (.slice A1 n1 c1))∧Hid (OwnP wr (g+1) (.slice A1 n1 c1) h2.parts)∧Hid (h2.parts.length=k)) (fun i _=>5 - (RowKit.intOf i).toNat)
     case atStart=>exact ⟨0,h5,none,0,0,rfl,by decide,HD5,hid (by rw [HP5.out];exact OwnP.nil _ _),hid (by rw [HP5.out];rfl)⟩
     case round=>
      obtain ⟨k,h2,A1,n1,c1,rfl,hk,HDr,HOr,HLn⟩:=hrel
      clear HD5 HD4 HP5 HP4
      have e5:=E5.out
      have ew5:=EW5.out
      have ei5:=EI5.out
      go_wp2_with fail
      (with_reducible refine (G9.out _ HDr.out.below).mono ?_)
      rintro e w9 ⟨rfl,rfl⟩
      by_cases hkm:k<m9
      ·go_wp2_with fail
       obtain ⟨xg,hxg,Gx0⟩:=GI.out (10+k) (by omega)
       obtain ⟨yg,hyg,Yg0⟩:=HY.out xg hxg
       have Gx:=hid (fun (W:World) (hW:Below w.heap.size w W)=>(show ((10+k:Nat):Int)=10+(k:Int) by omega)▸Gx0 W hW)
       have Yg:=hid Yg0
       have EK5:=hid (show IntKind.i64.wrap (512*(k:Int))=512*(k:Int) from IntWalk.i64_in _ (by omega))
       have EK1:=hid (show IntKind.i64.wrap (10+(k:Int))=10+(k:Int) from IntWalk.i64_in _ (by omega))
       have EY:=hid (show IntKind.i64.wrap (1+yg)=1+yg from IntWalk.i64_in _ (by omega))
       have HPQ:=hid (show (-9223372036854775808≤(512*(k:Int))∧(512*(k:Int))≤9223372036854775807)∧(-9223372036854775808≤1+yg∧1+yg≤9223372036854775807) by omega)
       clear Gx0 Yg0 hxg hyg e5 ew5 ei5
       refine wp_region_held_drew (S:=fun W=>Below g wr W) (by kernel_rfl) (below_drw (Below.refl _ _)) (fun hS=> ?_)
       have HOc:=hid (OwnP.later HOr.out (below_drw (Below.refl _ _)))
       have HDc:=hid (HDr.out.later (below_drw (Below.refl _ _)))
       clear HOr HDr
       refine tkH 0 hS ?_ (v:= .pointer (some ⟨g,14,none⟩))
       refine tkH 2 hS ?_ (v:= .int .i64 (k:Int))
       refine tkH 3 hS ?_ (v:= .int .i64 (512*(k:Int))) (hy:=fun W hW=>by have f0:=EK5.out;clear hW;go_simp;first|done|with_reducible rfl)
       refine tkH 4 hS ?_ (v:= .slice A n c)
       refine tkH 5 hS ?_ (v:= .int .i64 (k:Int))
       refine tkH 6 hS ?_ (v:= .int .i64 (10+(k:Int))) (hy:=fun W hW=>by have f0:=EK1.out;clear hW;go_simp;first|done|with_reducible rfl)
       refine twoH (i:=1) (j:=7) 56 62 rfl rfl rfl rfl (by kernel_rfl) (by rfl) (by rfl) (fun K hK=> ?_) (fun K hK=> ?_)
       ·skip
        have k14:=HDc.out.cell (i:=14) (v:= .slice A1 n1 c1) rfl
        go_simp
        refine hK.out _ _ hS (fun hS=> ?_)
        clear hK K k14
        try simp only [NM]
        refine loneH (i:=7) 62 rfl rfl (by kernel_rfl) (by rfl) (fun K hK=> ?_)
        go_simp
        (with_reducible refine (Gx.out _ HDc.out.below).mono ?_)
        rintro e w9 ⟨rfl,rfl⟩
        refine hK.out _ _ hS (fun hS=> ?_)
        clear hK K
        try simp only [NM]
        refine loneH (i:=8) 63 rfl rfl (by kernel_rfl) (by rfl) (fun K hK=> ?_)
        go_simp
        (with_reducible refine (Yg.out _).mono ?_)
        rintro e w4 ⟨rfl,b4⟩
        have HOc:=hid (OwnP.later HOc.out b4)
        have B4:=hS.trans (b4.mono (Nat.le_of_lt (HB.lt HDc.out.box)))
        have HDc:=hid (HDc.out.later b4)
        clear b4
        refine hK.out _ _ B4 (fun hS=> ?_)
        clear hK K B4
        try simp only [NM]
        refine tkH 9 hS ?_ (v:= .int .i64 (1+yg)) (hy:=fun W hW=>by have f0:=EY.out;clear hW;go_simp;first|done|with_reducible rfl)
        refine tkH 10 hS ?_ (v:= .agg #[.int .i64 (512*(k:Int)), .int .i64 (1+yg)])
        refine loneH (i:=11) 66 rfl rfl (by kernel_rfl) (by rfl) (fun K hK=> ?_)
        go_simp
        have HBk:=hid (heap_alloc_new w4 (.cells #[.int .i64 (512*(k:Int)), .int .i64 (1+yg)] 52))
        have bA:Below w4.heap.size w4 (w4.alloc (.cells #[.int .i64 (512*(k:Int)), .int .i64 (1+yg)] 52)):=(Below.refl _ _).alloc (Nat.le_refl _) _
        have B4:=hS.trans (bA.mono (Nat.le_of_lt (HB.lt HDc.out.box)))
        have HOc:=hid (OwnP.later HOc.out bA)
        have HDc:=hid (HDc.out.later bA)
        refine hK.out _ _ B4 (fun hS=> ?_)
        clear hK K B4 bA
        try simp only [NM]
        refine loneH (i:=12) 67 rfl rfl (by kernel_rfl) (by rfl) (fun K hK=> ?_)
        refine wp_appP (.tmp 56) (.tmp 66) rfl (g+1) (.slice A1 n1 c1) h2.parts _ _ rfl HOc.out (HB.lt HDc.out.box) _ rfl HBk.out (by have:=HLn.out;omega) ?_
        intro v' w5 ho5 hb5
        obtain ⟨A5,c5,hv5,_,_⟩:=ho5.out.parts
        generalize (h2.parts++ [_]).length=n5 at hv5
        subst hv5
        have HN:=hid (HDc.out.next ho5.out hb5.out (by have:=HLn.out;omega) HPQ.out.1 HPQ.out.2)
        have k14:w5.cell? ⟨g,14,none⟩=some (.slice A1 n1 c1):=(hb5.out.cell (p:=⟨g,14,none⟩) (Nat.lt_succ_self _)).trans (HDc.out.cell (i:=14) rfl)
        have f14:w5.frozen? ⟨g,14,none⟩=false:=HB.frozen (HB.below HDc.out.box hb5.out (Nat.lt_succ_self _)) 14
        have B5:=hS.trans (hb5.out.mono (Nat.le_succ _))
        clear ho5 hb5 HBk HOc HDc
        refine hK.out _ _ B5 (fun hS=> ?_)
        clear hK K B5
        try simp only [NM]
        refine tkH 13 hS ?_ (v:= .pointer (some ⟨g,14,none⟩))
        refine loneN (i:=14) rfl rfl (by kernel_rfl) (by rfl) (fun K hK=> ?_)
        go_simp
        refine hK.out _ _ (hS.setCell (p:=⟨g,14,none⟩) (Nat.le_refl _) _) (fun hS=> ?_)
        clear hK K hS
        refine wpAnyH_done (by kernel_rfl) ?_ _
        try simp only [NM]
        go_wp2_with fail
        go_roundw
        case rel=>exact ⟨k+1,_,A5,n5,c5,(show Value.int .i64 _=Value.int .i64 ((k+1:Nat):Int) by go_num),by have:=HM9.out;omega,hid HN.out.1,hid HN.out.2,hid (by show (h2.parts++ [_]).length=k+1;rw [List.length_append,HLn.out];rfl)⟩
        case measure=>simp [RowKit.intOf];omega
       ·skip
        go_simp
        (with_reducible refine (Gx.out _ HDc.out.below).mono ?_)
        rintro e w9 ⟨rfl,rfl⟩
        refine hK.out _ _ hS (fun hS=> ?_)
        clear hK K
        try simp only [NM]
        refine twoH (i:=1) (j:=8) 56 63 rfl rfl rfl rfl (by kernel_rfl) (by rfl) (by rfl) (fun K hK=> ?_) (fun K hK=> ?_)
        ·skip
         have k14:=HDc.out.cell (i:=14) (v:= .slice A1 n1 c1) rfl
         go_simp
         refine hK.out _ _ hS (fun hS=> ?_)
         clear hK K k14
         try simp only [NM]
         refine loneH (i:=8) 63 rfl rfl (by kernel_rfl) (by rfl) (fun K hK=> ?_)
         go_simp
         (with_reducible refine (Yg.out _).mono ?_)
         rintro e w4 ⟨rfl,b4⟩
         have HOc:=hid (OwnP.later HOc.out b4)
         have B4:=hS.trans (b4.mono (Nat.le_of_lt (HB.lt HDc.out.box)))
         have HDc:=hid (HDc.out.later b4)
         clear b4
         refine hK.out _ _ B4 (fun hS=> ?_)
         clear hK K B4
         try simp only [NM]
         refine tkH 9 hS ?_ (v:= .int .i64 (1+yg)) (hy:=fun W hW=>by have f0:=EY.out;clear hW;go_simp;first|done|with_reducible rfl)
         refine tkH 10 hS ?_ (v:= .agg #[.int .i64 (512*(k:Int)), .int .i64 (1+yg)])
         refine loneH (i:=11) 66 rfl rfl (by kernel_rfl) (by rfl) (fun K hK=> ?_)
         go_simp
         have HBk:=hid (heap_alloc_new w4 (.cells #[.int .i64 (512*(k:Int)), .int .i64 (1+yg)] 52))
         have bA:Below w4.heap.size w4 (w4.alloc (.cells #[.int .i64 (512*(k:Int)), .int .i64 (1+yg)] 52)):=(Below.refl _ _).alloc (Nat.le_refl _) _
         have B4:=hS.trans (bA.mono (Nat.le_of_lt (HB.lt HDc.out.box)))
         have HOc:=hid (OwnP.later HOc.out bA)
         have HDc:=hid (HDc.out.later bA)
         refine hK.out _ _ B4 (fun hS=> ?_)
         clear hK K B4 bA
         try simp only [NM]
         refine loneH (i:=12) 67 rfl rfl (by kernel_rfl) (by rfl) (fun K hK=> ?_)
         refine wp_appP (.tmp 56) (.tmp 66) rfl (g+1) (.slice A1 n1 c1) h2.parts _ _ rfl HOc.out (HB.lt HDc.out.box) _ rfl HBk.out (by have:=HLn.out;omega) ?_
         intro v' w5 ho5 hb5
         obtain ⟨A5,c5,hv5,_,_⟩:=ho5.out.parts
         generalize (h2.parts++ [_]).length=n5 at hv5
         subst hv5
         have HN:=hid (HDc.out.next ho5.out hb5.out (by have:=HLn.out;omega) HPQ.out.1 HPQ.out.2)
         have k14:w5.cell? ⟨g,14,none⟩=some (.slice A1 n1 c1):=(hb5.out.cell (p:=⟨g,14,none⟩) (Nat.lt_succ_self _)).trans (HDc.out.cell (i:=14) rfl)
         have f14:w5.frozen? ⟨g,14,none⟩=false:=HB.frozen (HB.below HDc.out.box hb5.out (Nat.lt_succ_self _)) 14
         have B5:=hS.trans (hb5.out.mono (Nat.le_succ _))
         clear ho5 hb5 HBk HOc HDc
         refine hK.out _ _ B5 (fun hS=> ?_)
         clear hK K B5
         try simp only [NM]
         refine tkH 13 hS ?_ (v:= .pointer (some ⟨g,14,none⟩))
         refine loneN (i:=14) rfl rfl (by kernel_rfl) (by rfl) (fun K hK=> ?_)
         go_simp
         refine hK.out _ _ (hS.setCell (p:=⟨g,14,none⟩) (Nat.le_refl _) _) (fun hS=> ?_)
         clear hK K hS
         refine wpAnyH_done (by kernel_rfl) ?_ _
         try simp only [NM]
         go_wp2_with fail
         go_roundw
         case rel=>exact ⟨k+1,_,A5,n5,c5,(show Value.int .i64 _=Value.int .i64 ((k+1:Nat):Int) by go_num),by have:=HM9.out;omega,hid HN.out.1,hid HN.out.2,hid (by show (h2.parts++ [_]).length=k+1;rw [List.length_append,HLn.out];rfl)⟩
         case measure=>simp [RowKit.intOf];omega
        ·skip
         go_simp
         (with_reducible refine (Yg.out _).mono ?_)
         rintro e w4 ⟨rfl,b4⟩
         have HOc:=hid (OwnP.later HOc.out b4)
         have B4:=hS.trans (b4.mono (Nat.le_of_lt (HB.lt HDc.out.box)))
         have HDc:=hid (HDc.out.later b4)
         clear b4
         refine hK.out _ _ B4 (fun hS=> ?_)
         clear hK K B4
         try simp only [NM]
         refine tkH 9 hS ?_ (v:= .int .i64 (1+yg)) (hy:=fun W hW=>by have f0:=EY.out;clear hW;go_simp;first|done|with_reducible rfl)
         refine tkH 10 hS ?_ (v:= .agg #[.int .i64 (512*(k:Int)), .int .i64 (1+yg)])
         refine twoH (i:=1) (j:=11) 56 66 rfl rfl rfl rfl (by kernel_rfl) (by rfl) (by rfl) (fun K hK=> ?_) (fun K hK=> ?_)
         ·skip
          have k14:=HDc.out.cell (i:=14) (v:= .slice A1 n1 c1) rfl
          go_simp
          refine hK.out _ _ hS (fun hS=> ?_)
          clear hK K k14
          try simp only [NM]
          refine loneH (i:=11) 66 rfl rfl (by kernel_rfl) (by rfl) (fun K hK=> ?_)
          go_simp
          have HBk:=hid (heap_alloc_new w4 (.cells #[.int .i64 (512*(k:Int)), .int .i64 (1+yg)] 52))
          have bA:Below w4.heap.size w4 (w4.alloc (.cells #[.int .i64 (512*(k:Int)), .int .i64 (1+yg)] 52)):=(Below.refl _ _).alloc (Nat.le_refl _) _
          have B4:=hS.trans (bA.mono (Nat.le_of_lt (HB.lt HDc.out.box)))
          have HOc:=hid (OwnP.later HOc.out bA)
          have HDc:=hid (HDc.out.later bA)
          refine hK.out _ _ B4 (fun hS=> ?_)
          clear hK K B4 bA
          try simp only [NM]
          refine loneH (i:=12) 67 rfl rfl (by kernel_rfl) (by rfl) (fun K hK=> ?_)
          refine wp_appP (.tmp 56) (.tmp 66) rfl (g+1) (.slice A1 n1 c1) h2.parts _ _ rfl HOc.out (HB.lt HDc.out.box) _ rfl HBk.out (by have:=HLn.out;omega) ?_
          intro v' w5 ho5 hb5
          obtain ⟨A5,c5,hv5,_,_⟩:=ho5.out.parts
          generalize (h2.parts++ [_]).length=n5 at hv5
          subst hv5
          have HN:=hid (HDc.out.next ho5.out hb5.out (by have:=HLn.out;omega) HPQ.out.1 HPQ.out.2)
          have k14:w5.cell? ⟨g,14,none⟩=some (.slice A1 n1 c1):=(hb5.out.cell (p:=⟨g,14,none⟩) (Nat.lt_succ_self _)).trans (HDc.out.cell (i:=14) rfl)
          have f14:w5.frozen? ⟨g,14,none⟩=false:=HB.frozen (HB.below HDc.out.box hb5.out (Nat.lt_succ_self _)) 14
          have B5:=hS.trans (hb5.out.mono (Nat.le_succ _))
          clear ho5 hb5 HBk HOc HDc
          refine hK.out _ _ B5 (fun hS=> ?_)
          clear hK K B5
          try simp only [NM]
          refine tkH 13 hS ?_ (v:= .pointer (some ⟨g,14,none⟩))
          refine loneN (i:=14) rfl rfl (by kernel_rfl) (by rfl) (fun K hK=> ?_)
          go_simp
          refine hK.out _ _ (hS.setCell (p:=⟨g,14,none⟩) (Nat.le_refl _) _) (fun hS=> ?_)
          clear hK K hS
          refine wpAnyH_done (by kernel_rfl) ?_ _
          try simp only [NM]
          go_wp2_with fail
          go_roundw
          case rel=>exact ⟨k+1,_,A5,n5,c5,(show Value.int .i64 _=Value.int .i64 ((k+1:Nat):Int) by go_num),by have:=HM9.out;omega,hid HN.out.1,hid HN.out.2,hid (by show (h2.parts++ [_]).length=k+1;rw [List.length_append,HLn.out];rfl)⟩
          case measure=>simp [RowKit.intOf];omega
         ·skip
          go_simp
          have HBk:=hid (heap_alloc_new w4 (.cells #[.int .i64 (512*(k:Int)), .int .i64 (1+yg)] 52))
          have bA:Below w4.heap.size w4 (w4.alloc (.cells #[.int .i64 (512*(k:Int)), .int .i64 (1+yg)] 52)):=(Below.refl _ _).alloc (Nat.le_refl _) _
          have B4:=hS.trans (bA.mono (Nat.le_of_lt (HB.lt HDc.out.box)))
          have HOc:=hid (OwnP.later HOc.out bA)
          have HDc:=hid (HDc.out.later bA)
          refine hK.out _ _ B4 (fun hS=> ?_)
          clear hK K B4 bA
          try simp only [NM]
          refine loneH (i:=1) 56 rfl rfl (by kernel_rfl) (by rfl) (fun K hK=> ?_)
          have k14:=HDc.out.cell (i:=14) (v:= .slice A1 n1 c1) rfl
          go_simp
          refine hK.out _ _ hS (fun hS=> ?_)
          clear hK K k14
          try simp only [NM]
          refine loneH (i:=12) 67 rfl rfl (by kernel_rfl) (by rfl) (fun K hK=> ?_)
          refine wp_appP (.tmp 56) (.tmp 66) rfl (g+1) (.slice A1 n1 c1) h2.parts _ _ rfl HOc.out (HB.lt HDc.out.box) _ rfl HBk.out (by have:=HLn.out;omega) ?_
          intro v' w5 ho5 hb5
          obtain ⟨A5,c5,hv5,_,_⟩:=ho5.out.parts
          generalize (h2.parts++ [_]).length=n5 at hv5
          subst hv5
          have HN:=hid (HDc.out.next ho5.out hb5.out (by have:=HLn.out;omega) HPQ.out.1 HPQ.out.2)
          have k14:w5.cell? ⟨g,14,none⟩=some (.slice A1 n1 c1):=(hb5.out.cell (p:=⟨g,14,none⟩) (Nat.lt_succ_self _)).trans (HDc.out.cell (i:=14) rfl)
          have f14:w5.frozen? ⟨g,14,none⟩=false:=HB.frozen (HB.below HDc.out.box hb5.out (Nat.lt_succ_self _)) 14
          have B5:=hS.trans (hb5.out.mono (Nat.le_succ _))
          clear ho5 hb5 HBk HOc HDc
          refine hK.out _ _ B5 (fun hS=> ?_)
          clear hK K B5
          try simp only [NM]
          refine tkH 13 hS ?_ (v:= .pointer (some ⟨g,14,none⟩))
          refine loneN (i:=14) rfl rfl (by kernel_rfl) (by rfl) (fun K hK=> ?_)
          go_simp
          refine hK.out _ _ (hS.setCell (p:=⟨g,14,none⟩) (Nat.le_refl _) _) (fun hS=> ?_)
          clear hK K hS
          refine wpAnyH_done (by kernel_rfl) ?_ _
          try simp only [NM]
          go_wp2_with fail
          go_roundw
          case rel=>exact ⟨k+1,_,A5,n5,c5,(show Value.int .i64 _=Value.int .i64 ((k+1:Nat):Int) by go_num),by have:=HM9.out;omega,hid HN.out.1,hid HN.out.2,hid (by show (h2.parts++ [_]).length=k+1;rw [List.length_append,HLn.out];rfl)⟩
          case measure=>simp [RowKit.intOf];omega
      ·go_wp2_with fail
       (with_reducible refine (G9.out _ HDr.out.below).mono ?_)
       rintro e w9 ⟨rfl,rfl⟩
       have k15:=HDr.out.cell (i:=15) (v:= .bool h2.more) rfl
       have f15:=HB.frozen HDr.out.box 15
       go_wp2_with fail
       have HD7:=hid (HDr.out.set (h':= { h2 with more:=decide (128<x9) }) 15 (.bool (decide (128<x9))) rfl rfl HDr.out.way HDr.out.kind HDr.out.ints HDr.out.texts)
       generalize ({ h2 with more:=decide (128<x9) } :M.Hdr)=h7 at*
       generalize wr.setCell _ _=w7 at*
       clear k15 f15 HDr HOr HLn
       (with_reducible refine (G14.out _ HD7.out.below).mono ?_)
       rintro e w9 ⟨rfl,rfl⟩
       go_wp2_with fail
       (with_reducible refine (Y14.out _).mono ?_)
       rintro e w8 ⟨rfl,b8⟩
       have HD8:=hid (HD7.out.later b8)
       have k16:=HD8.out.cell (i:=16) (v:= .int .i64 h7.real) rfl
       have f16:=HB.frozen HD8.out.box 16
       clear b8 HD7
       go_wp2_with fail
       go_meet
       case rel=>exact ⟨_,_,hid (HD8.out.set (h':= { h7 with real:=y14 }) 16 (.int .i64 y14) rfl rfl HD8.out.way HD8.out.kind (by have:=HD8.out.ints;have:=HYB.out;dsimp only;omega) HD8.out.texts)⟩
    case false=>
     go_wp2_with fail
     go_meet
     case rel=>exact ⟨h1,_,HD4⟩
   case rest=>
    obtain ⟨h6,pv6,HD6⟩:=hcut
    clear HD4 HP4 k6
    have k8:=HD6.out.cell (i:=8) (v:= .int .i64 h6.way) rfl
    go_upto_region 13 with fail
    go_cut [84] from 77 to 84 (fun s84 wx=> ∃ b:Bool,s84= .bool b∧Hid (HD w wx g h6 pv6))
    case first=>
     by_cases hw0:0<h6.way
     ·go_wp2_with fail
      go_meet
      case rel=>exact ⟨true,rfl,HD6⟩
     ·go_wp2_with ((with_reducible refine (G8.out _ HD6.out.below).mono ?_);rintro e w9 ⟨rfl,rfl⟩)
      go_meet
      case rel=>exact ⟨decide (240<x8),rfl,HD6⟩
    case rest=>
     obtain ⟨b13,rfl,HDa⟩:=hcut
     clear HD6 k8
     go_upto_if 84 with fail
     go_cut [85] from 85 to 101 (fun _ wx=> ∃ h,Hid (HD w wx g h pv6))
     case first=>
      cases b13
      case true=>
       go_wp2_with fail
       (with_reducible refine (G15.out _ HDa.out.below).mono ?_)
       rintro e w9 ⟨rfl,rfl⟩
       go_wp2_with fail
       (with_reducible refine (N15.out _).mono ?_)
       rintro e w70 ⟨rfl,b7⟩
       have HDb7:=hid (HDa.out.later b7)
       have kk9:=HDb7.out.cell (i:=9) (v:= .string h6.user) rfl
       have ff9:=HB.frozen HDb7.out.box 9
       clear b7 HDa
       go_wp2_with fail
       have HDc7:=hid (HDb7.out.set (h':= { h6 with user:=s15 }) 9 (.string s15) rfl rfl HDb7.out.way HDb7.out.kind HDb7.out.ints ⟨HDb7.out.texts.1,HDb7.out.texts.2.1,HSB.out.2.2.1,HDb7.out.texts.2.2.2.1,HDb7.out.texts.2.2.2.2⟩)
       generalize ({ h6 with user:=s15 } :M.Hdr)=h70 at*
       generalize w70.setCell _ _=w71 at*
       clear kk9 ff9 HDb7
       (with_reducible refine (G16.out _ HDc7.out.below).mono ?_)
       rintro e w9 ⟨rfl,rfl⟩
       go_wp2_with fail
       (with_reducible refine (N16.out _).mono ?_)
       rintro e w80 ⟨rfl,b8⟩
       have HDb8:=hid (HDc7.out.later b8)
       have kk10:=HDb8.out.cell (i:=10) (v:= .string h70.group) rfl
       have ff10:=HB.frozen HDb8.out.box 10
       clear b8 HDc7
       go_wp2_with fail
       have HDc8:=hid (HDb8.out.set (h':= { h70 with group:=s16 }) 10 (.string s16) rfl rfl HDb8.out.way HDb8.out.kind HDb8.out.ints ⟨HDb8.out.texts.1,HDb8.out.texts.2.1,HDb8.out.texts.2.2.1,HSB.out.2.2.2.1,HDb8.out.texts.2.2.2.2⟩)
       generalize ({ h70 with group:=s16 } :M.Hdr)=h80 at*
       generalize w80.setCell _ _=w81 at*
       clear kk10 ff10 HDb8
       (with_reducible refine (G17.out _ HDc8.out.below).mono ?_)
       rintro e w9 ⟨rfl,rfl⟩
       go_wp2_with fail
       (with_reducible refine (Y17.out _).mono ?_)
       rintro e w90 ⟨rfl,b9⟩
       have HDb9:=hid (HDc8.out.later b9)
       have kk11:=HDb9.out.cell (i:=11) (v:= .int .i64 h80.major) rfl
       have ff11:=HB.frozen HDb9.out.box 11
       have e17:=E17.out
       have ew17:=EW17.out
       clear b9 HDc8
       go_wp2_with fail
       have HDc9:=hid (HDb9.out.set (h':= { h80 with major:=t17 }) 11 (.int .i64 t17) rfl rfl HDb9.out.way HDb9.out.kind (by have:=HDb9.out.ints;have:=BT17.out;dsimp only;omega) HDb9.out.texts)
       generalize ({ h80 with major:=t17 } :M.Hdr)=h90 at*
       generalize w90.setCell _ _=w91 at*
       clear kk11 ff11 HDb9 e17 ew17
       (with_reducible refine (G18.out _ HDc9.out.below).mono ?_)
       rintro e w9 ⟨rfl,rfl⟩
       have kk12:=HDc9.out.cell (i:=12) (v:= .int .i64 h90.minor) rfl
       have ff12:=HB.frozen HDc9.out.box 12
       have ew18:=EW18.out
       go_wp2_with fail
       go_meet
       case rel=>exact ⟨_,hid (HDc9.out.set (h':= { h90 with minor:=x18 }) 12 (.int .i64 x18) rfl rfl HDc9.out.way HDc9.out.kind (by have:=HDc9.out.ints;have:=HX.out;dsimp only;omega) HDc9.out.texts)⟩
      case false=>
       go_wp2_with fail
       go_meet
       case rel=>exact ⟨h6,HDa⟩
     case rest=>
      obtain ⟨hx,HDd⟩:=hcut
      clear HDa
      have k8:=HDd.out.cell (i:=8) (v:= .int .i64 hx.way) rfl
      go_upto_region 18 with fail
      go_cut [109] from 102 to 109 (fun s109 wx=> ∃ b:Bool,s109= .bool b∧Hid (HD w wx g hx pv6))
      case first=>
       by_cases hw1:hx.way=1
       ·have hwb:(hx.way==1)=true:=by simp [hw1]
        clear hw1
        go_wp2_with fail
        go_meet
        case rel=>exact ⟨true,rfl,HDd⟩
       ·have hwb:(hx.way==1)=false:=by simp [hw1]
        clear hw1
        go_wp2_with ((with_reducible refine (G8.out _ HDd.out.below).mono ?_);rintro e w9 ⟨rfl,rfl⟩)
        go_meet
        case rel=>exact ⟨decide (250<x8),rfl,HDd⟩
      case rest=>
       obtain ⟨b18,rfl,HDe⟩:=hcut
       clear HDd k8
       go_upto_if 109 with fail
       go_cut [110] from 110 to 113 (fun _ wx=> ∃ h,Hid (HD w wx g h pv6))
       case first=>
        cases b18
        case true=>
         go_wp2_with fail
         (with_reducible refine (G19.out _ HDe.out.below).mono ?_)
         rintro e w9 ⟨rfl,rfl⟩
         go_wp2_with fail
         (with_reducible refine (N19.out _).mono ?_)
         rintro e w60 ⟨rfl,b6⟩
         have HDb6:=hid (HDe.out.later b6)
         have kk13:=HDb6.out.cell (i:=13) (v:= .string hx.pre) rfl
         have ff13:=HB.frozen HDb6.out.box 13
         clear b6 HDe
         go_wp2_with fail
         have HDc6:=hid (HDb6.out.set (h':= { hx with pre:=s19 }) 13 (.string s19) rfl rfl HDb6.out.way HDb6.out.kind HDb6.out.ints ⟨HDb6.out.texts.1,HDb6.out.texts.2.1,HDb6.out.texts.2.2.1,HDb6.out.texts.2.2.2.1,HSB.out.2.2.2.2⟩)
         go_meet
         case rel=>exact ⟨_,HDc6⟩
        case false=>
         go_wp2_with fail
         go_meet
         case rel=>exact ⟨hx,HDe⟩
       case rest=>
        obtain ⟨hf,HDf⟩:=hcut
        clear HDe
        obtain ⟨Af,cf,rfl,_,_⟩:=HDf.out.own
        go_wp2_with (first|(refine wpList_load_row rfl 24 (.tmp 4) rfl g (by rfl) 24 (hcells hf (.slice Af hf.parts.length cf)) (0,0) _ HDf.out.box Tryz.underlying24 rfl hdr_size ?_)|(refine wpList_store_row rfl 24 (.tmp 2) (.tmp 114) rfl w.heap.size (hcells hf (.slice Af hf.parts.length cf)) (by rfl) (by rfl) 24 _ HDf.out.res hdr_size rfl (hcells_one _ rfl) ?_))
        refine bodyPost_ret (results_row rfl rfl Tryz.underlying24 (by rfl) (setRow_heap _ _ _ _ _ _ HDf.out.res) hdr_size) rfl ⟨hf,_,rfl, ?_,HDf.out.few,HDf.out.way,below_setRow HDf.out.below (Nat.le_refl _) _⟩
        exact ⟨PartsB.mono (PartsIs.in_ (HDf.out.own.row _ (by have:=HDf.out.apart;omega) _)) (by simp),HDf.out.nums,HDf.out.kind,HDf.out.ints,HDf.out.texts⟩
end Go.Proofs.YtjpmpjbembhldaaGreatDoor.Hd
