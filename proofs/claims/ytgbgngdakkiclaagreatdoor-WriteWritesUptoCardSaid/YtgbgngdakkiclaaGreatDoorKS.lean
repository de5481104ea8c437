import Derived.Test.YtgbgngdakkiclaaGreatDoorKSa
import Derived.Test.YtgbgngdakkiclaaGreatDoorShelf
import Derived.Lib.AtoiTie
import Derived.Lib.ItoaMem
import Derived.Lib.AppendIntMem
import Derived.Test.YtgbgngdakkiclaaGreatDoorIterLaw
import Derived.Lib.Hide
import Derived.IntWalk
import Derived.Tactics
import Derived.Lib.OthersKept
set_option linter.unusedVariables false
set_option linter.unusedSimpArgs false
namespace Go.Proofs.YtgbgngdakkiclaaGreatDoor.Sp
open Go.RowKit Go.Lib
namespace M
theorem range_long {t:List UInt8} (h:Lib.atoiAll t= .range):13<t.length:=by
 rcases Nat.lt_or_ge 13 t.length with h1|h1
 ·exact h1
 ·rw [Lib.atoiAll_short t (by omega)] at h
  cases ha:Lib.atoi t with
  |none=>rw [ha] at h;cases h
  |some v=>rw [ha] at h;cases h
end M
def TB (B:Nat) (w:World):Prop:=Lib.TabBelow Tryz.prog B w "internal/strconv.uint64pow10" .u64 Lib.pow10Tab
theorem TB.on {B:Nat} {w w':World} (h:TB B w) (hb:Below B w w'):TB B w':=Lib.TabBelow.on h hb
def ErrAt (g B:Nat) (w:World):Prop:=g<B∧ ∃ te pe,w.cell? ⟨g,0,none⟩=some (.iface te pe)
theorem ErrAt.on {g B:Nat} {w w':World} (h:ErrAt g B w) (hb:Below B w w'):ErrAt g B w':=by
 obtain ⟨h1,te,pe,h2⟩:=h
 exact ⟨h1,te,pe,(hb.cell (p:=⟨g,0,none⟩) h1).trans h2⟩
structure EV (B:Nat) (w:World):Prop where
 tens:TB B w
 syn:ErrAt 6 B w
 ran:ErrAt 7 B w
theorem EV.on {B:Nat} {w w':World} (h:EV B w) (hb:Below B w w'):EV B w':=⟨h.tens.on hb,h.syn.on hb,h.ran.on hb⟩
theorem EV.up {B B':Nat} {w:World} (h:EV B w) (hB:B≤B'):EV B' w:=⟨fun w' hb=>h.tens w' (hb.mono hB),⟨Nat.lt_of_lt_of_le h.syn.1 hB,h.syn.2⟩,⟨Nat.lt_of_lt_of_le h.ran.1 hB,h.ran.2⟩⟩
def AtoiIs (t:List UInt8) (w:World) (e:Ending) (w':World):Prop:=
 ∃ (v:Int) (ev:Value),e= .returned (.tuple #[.int .i64 v,ev])∧Below w.heap.size w w'∧ -9223372036854775808≤v∧v≤9223372036854775807∧
   ((Lib.atoiAll t= .ok v∧ev= .nilIface)∨((∀ u,Lib.atoiAll t≠ .ok u)∧(∃ x y,ev= .iface x y)∧(v=0∨13<t.length)))
theorem atoi_any (s:ByteArray) (hs:s.size≤1048576) (B:Nat) (w:World) (ht:EV B w):
  Calls Tryz.prog 154 #[.string s] w (AtoiIs (tl s) w):=by
 have hbw: ∀ w',(w'=w∨ ∃ t,w'=Lib.bytesWorld w 5 t)→Below w.heap.size w w':=by
  rintro w' (rfl|⟨t,rfl⟩)
  ·exact Below.refl _ _
  ·exact Lib.bytesWorld_below _ _ _
 cases ha:Lib.atoiAll (tl s)
 ·rename_i v
  refine (Tryz.strconv_Atoi_ok s (by omega) v ha w).mono ?_
  rintro e w' ⟨rfl,hw⟩
  have:=Lib.atoiAll_bounds ha
  exact ⟨v,_,rfl,hbw _ hw,this.1,this.2, .inl ⟨ha,rfl⟩⟩
 ·obtain ⟨_,te,pe,hc⟩:=ht.syn
  refine (Tryz.strconv_Atoi_syntax s (by omega) ha _ w hc (.inr ⟨te,pe,rfl⟩)).mono ?_
  rintro e w' ⟨N,rfl,_,_,hb⟩
  exact ⟨0,_,rfl,hb,by decide,by decide, .inr ⟨(fun u h=>by rw [ha] at h;cases h),⟨_,_,rfl⟩, .inl rfl⟩⟩
 ·obtain ⟨_,te,pe,hc⟩:=ht.ran
  refine (Tryz.strconv_Atoi_range s (by omega) ha _ w hc (.inr ⟨te,pe,rfl⟩)).mono ?_
  rintro e w' ⟨N,rfl,_,_,hb⟩
  have:=Lib.atoiSat_bounds (tl s)
  exact ⟨_,_,rfl,hb,this.1,this.2, .inr ⟨(fun u h=>by rw [ha] at h;cases h),⟨_,_,rfl⟩, .inr (M.range_long ha)⟩⟩
theorem itoa_any (n:Int) (h0: -9223372036854775808≤n) (h1:n≤9223372036854775807) (B:Nat) (w:World) (ht:EV B w):
  Calls Tryz.prog 54 #[.int .i64 n] w fun e w'=>e= .returned (.string ⟨(Lib.itoa n).toArray⟩)∧Below w.heap.size w w':=by
 refine (Tryz.strconv_Itoa n h0 h1 w ht.tens.here).mono ?_
 rintro e w' ⟨rfl,k,os,rfl⟩
 exact ⟨rfl,Lib.below_grow _ _ (Nat.le_refl _) _ _⟩
def numV:Option Int→Value
 |none=> .tuple #[.int .i64 0, .bool false]
 |some n=> .tuple #[.int .i64 n, .bool true]
theorem ret_num {a b:Option Int} (h:a=b):Ending.returned (numV a)= .returned (numV b):=by rw [h]
theorem str_eq_yes {v:Int} {s:ByteArray} (h:Lib.itoa v=tl s):(⟨(Lib.itoa v).toArray⟩:ByteArray)=s:=tl_inj (by rw [tl_mk];exact h)
end Go.Proofs.YtgbgngdakkiclaaGreatDoor.Sp
namespace Go.Proofs.YtgbgngdakkiclaaGreatDoor.Sp
open Go.RowKit Go.Shelf
attribute [local go_sem] Oper.semAt_some
theorem boxed_turned {own:Nat→Prop} {A B:World} {b:Nat} {t:TypeId} {v:Value} (h:Boxed A b t v) (ht:Turned own A B) (hn: ¬ own b):Boxed B b t v:=(ht.block b h.lt hn).trans h
end Go.Proofs.YtgbgngdakkiclaaGreatDoor.Sp
namespace Go.Proofs.YtgbgngdakkiclaaGreatDoor.Sp
open Go.RowKit Go.Shelf Go.Lib
attribute [local go_sem] Oper.semAt_some
namespace M
end M
structure PB (w V:World) (v:Value) (pa pl:Int) (b:Bool):Prop where
 res:Boxed V w.heap.size 32 (.slice none 0 0)
 ok:Boxed V (w.heap.size+1) 4 (.bool false)
 box:Boxed V (w.heap.size+2) 32 v
 part:BoxP V (w.heap.size+3) pa pl
 whole:Boxed V (w.heap.size+4) 4 (.bool b)
 turned:Turned (fun k=>w.heap.size≤k) w V
theorem BoxP.turned {own:Nat→Prop} {A B:World} {g:Nat} {p q:Int} (h:BoxP A g p q) (ht:Turned own A B) (hn: ¬ own g):BoxP B g p q:=(ht.block g h.lt hn).trans h
theorem PB.on {w A B:World} {v:Value} {pa pl:Int} {b:Bool} (h:PB w A v pa pl b) {own:Nat→Prop} (ht:Turned own A B) (hn: ∀ k,own k→w.heap.size+5≤k):PB w B v pa pl b:=
 ⟨boxed_turned h.res ht (fun ho=>by have:=hn _ ho;omega),boxed_turned h.ok ht (fun ho=>by have:=hn _ ho;omega),boxed_turned h.box ht (fun ho=>by have:=hn _ ho;omega),h.part.turned ht (fun ho=>by have:=hn _ ho;omega),
  boxed_turned h.whole ht (fun ho=>by have:=hn _ ho;omega),h.turned.trans (ht.mono (fun k hk=>by have:=hn k hk;omega))⟩
theorem PB.new (w:World):PB w (((((w.alloc (.cells #[.slice none 0 0] 32)).alloc (.cells #[.bool false] 4)).alloc (.cells #[.slice none 0 0] 32)).alloc (.cells #[.int .i64 0, .int .i64 0] 113)).alloc (.cells #[.bool true] 4)) (.slice none 0 0) 0 0 true:=by
 have h1:=Boxed.new (w.alloc (.cells #[.slice none 0 0] 32)) 4 (.bool false)
 have h2:=Boxed.new ((w.alloc (.cells #[.slice none 0 0] 32)).alloc (.cells #[.bool false] 4)) 32 (.slice none 0 0)
 have h3:=BoxP.new (((w.alloc (.cells #[.slice none 0 0] 32)).alloc (.cells #[.bool false] 4)).alloc (.cells #[.slice none 0 0] 32)) 0 0
 have h4:=Boxed.new ((((w.alloc (.cells #[.slice none 0 0] 32)).alloc (.cells #[.bool false] 4)).alloc (.cells #[.slice none 0 0] 32)).alloc (.cells #[.int .i64 0, .int .i64 0] 113)) 4 (.bool true)
 simp only [World.size_alloc] at h1 h2 h3 h4
 exact ⟨((((Boxed.new w 32 (.slice none 0 0)).alloc _).alloc _).alloc _).alloc _,((h1.alloc _).alloc _).alloc _,(h2.alloc _).alloc _,(Below.heap_alloc _ _ _ (by simp)).trans h3,h4,
  ((((Turned.alloc _ _ _).trans (.alloc _ _ _)).trans (.alloc _ _ _)).trans (.alloc _ _ _)).trans (.alloc _ _ _)⟩
end Go.Proofs.YtgbgngdakkiclaaGreatDoor.Sp
namespace Go.Proofs.YtgbgngdakkiclaaGreatDoor.Sp
open Go.RowKit Go.Lib
theorem Rd.lit (w:World) (t:TypeId) (mark:Nat × Nat) (zs:List Int) (hz:u8s zs):Rd (w.alloc (.cells (bcells zs).toArray t mark)) (w.heap.size+1) (some ⟨w.heap.size,0,none⟩) zs.length zs:=by
 refine ⟨rfl,hz,fun _=>⟨_,0,rfl,Nat.lt_succ_self _,fun j z hj=> ?_⟩⟩
 rw [World.cell?_alloc_mark,Nat.zero_add]
 simp [bcells,hj]
end Go.Proofs.YtgbgngdakkiclaaGreatDoor.Sp
namespace Go.Proofs.YtgbgngdakkiclaaGreatDoor.Sp
open Go.RowKit Go.Lib
theorem wpList_appY1 {W:World} {ops:Array Oper} {rest:List Oper} {o:Oper} {a:Act} {Q:Exit→Act→World→Prop} (hgd:o.guard=none) (s x:Operand)
  (ho:o.op= .call { callee:= .builtin .append,args:= #[s,x],argTypes:= #[22,22] })
  (base:Nat) (v:Value) (zs:List Int) (z:Int) (hs:a.eval s=v) (hown:OwnY W base v zs) (hbase:base≤W.heap.size) (hz:0≤z∧z≤255)
  (hx:a.eval x= .slice (some ⟨W.heap.size,0,none⟩) 1 1) (hl:zs.length≤1048576)
  (h: ∀ v' w',Hid (OwnY w' base v' (zs++ [z]))→Hid (Below base W w')→Hid ((W.alloc (.cells #[.int .u8 z] 5)).grownBy w' v.ownBlock)→wpList Tryz.prog ops Q rest (a.put o.dst v') w'):
  wpList Tryz.prog ops Q (o::rest) a (W.alloc (.cells #[.int .u8 z] 5)):=by
 have hrd:Rd (W.alloc (.cells #[.int .u8 z] 5)) (W.heap.size+1) (some ⟨W.heap.size,0,none⟩) 1 [z]:=Rd.lit W 5 (0,0) [z] (by intro y hy;rw [List.mem_singleton] at hy;subst hy;exact hz)
 refine wpList_app_bytes hgd s x ho base v zs hs (World.ownsRow.alloc hown _) (W.heap.size+1) (some ⟨W.heap.size,0,none⟩) 1 1 [z] hx hrd (by omega) (by rw [World.size_alloc];omega) ?_
 intro v' w' h1 h2 _
 exact h v' w' (Lib.hid h1) (Lib.hid (below_grown ((Below.refl base W).alloc hbase _) h2 (by rw [World.size_alloc];omega) (fun g e=>(World.ownsRow.lt hown g e).1))) (Lib.hid h2)
end Go.Proofs.YtgbgngdakkiclaaGreatDoor.Sp
namespace Go.Proofs.YtgbgngdakkiclaaGreatDoor.Sp
open Go.RowKit Go.Lib
def ints (l:List UInt8):List Int:=l.map fun c=>(c.toNat:Int)
theorem ints_app (a b:List UInt8):ints (a++b)=ints a++ints b:=by simp [ints]
theorem ints_len (a:List UInt8):(ints a).length=a.length:=by simp [ints]
theorem ints_u8 (a:List UInt8):u8s (ints a):=by
 intro z hz
 obtain ⟨c,_,rfl⟩:=List.mem_map.1 hz
 have:=c.toNat_lt
 omega
theorem bcells_ints (a:List UInt8):bcells (ints a)=Lib.byteCells a:=by simp [bcells,ints,Lib.byteCells]
def KP (w w':World):Prop:= ∀ g p q,BoxP w g p q→BoxP w' g p q
theorem KP.trans {a b c:World} (h:KP a b) (k:KP b c):KP a c:=fun g p q hb=>k g p q (h g p q hb)
theorem BoxP.alloc {w:World} {g:Nat} {p q:Int} (h:BoxP w g p q) (o:Obj):BoxP (w.alloc o) g p q:=(Below.heap_alloc w o g h.lt).trans h
theorem KP.grown {W w':World} {base:Nat} {v:Value} {zs:List Int} {o:Obj} (hown:OwnY (W.alloc o) base v zs) (hg:(W.alloc o).grownBy w' v.ownBlock):KP W w':=by
 intro g p q hb
 have hb2:=hb.alloc o
 refine (hg.block g hb2.lt ?_).trans hb2
 intro e
 rcases hown.2 with ⟨rfl,_⟩|⟨g',cap,cur,rfl,_,hh,_⟩
 ·simp [Value.ownBlock] at e
 ·have hc2:g=g':=by simpa [Value.ownBlock] using e
  subst hc2
  unfold BoxP at hb2
  rw [hb2] at hh
  injection hh with hh
  injection hh with _ ht
  exact absurd ht (by decide)
set_option maxRecDepth 100000 in
set_option maxHeartbeats 1000000 in
theorem appendNumber_any (base:Nat) (v:Value) (L:List UInt8) (x:Int) (w:World) (ho:OwnY w base v (ints L)) (hb:base≤w.heap.size) (ht:EV base w) (hL:L.length≤1048576) (hx: -9223372036854775808≤x∧x≤9223372036854775807):
  Calls Tryz.prog 135 #[v, .int .i64 x] w fun e w'=> ∃ v',e= .returned v'∧OwnY w' base v' (ints (L++M.numT x))∧Below base w w'∧KP w w':=by
 obtain ⟨A,c,rfl,_,_⟩:=own_room ho
 have hc: -9223372036854775808≤M.clip13 x∧M.clip13 x≤9223372036854775807:=by unfold M.clip13;omega
 have hown:w.ownsRow base 5 1 (.slice A (ints L).length c) L.length (Lib.byteCells L):=by
  have:=ho
  unfold OwnY at this
  rw [bcells_ints,ints_len] at this
  rw [ints_len]
  exact this
 have HC:=hid (Tryz.strconv_AppendInt_10 base L.length (M.clip13 x) hc.1 hc.2 (.slice A (ints L).length c) (Lib.byteCells L) w hown hb (by omega) ht.tens)
 unfold M.clip13 at HC
 have HI:=hid (show M.numT x=Lib.itoa (min (max x 0) 9999999999999) from rfl)
 clear hown ho hc
 go_enter Tryz.func135,Tryz.ntmps135
 go_wp2_with fail
 (with_reducible refine HC.out.mono ?_)
 rintro e w1 ⟨v1,rfl,ho1,hb1,hk1⟩
 have HO:=hid (show OwnY w1 base v1 (ints (L++M.numT x)) by
  unfold OwnY
  rw [bcells_ints,ints_len,HI.out,List.length_append]
  have e:Lib.byteCells (L++Lib.itoa (min (max x 0) 9999999999999))=Lib.byteCells L++Lib.byteCells (Lib.itoa (min (max x 0) 9999999999999)):=by simp [Lib.byteCells]
  rw [e]
  exact ho1)
 have HB:=hid hb1
 have HK:=hid hk1
 clear ho1 hb1 hk1 HC HI
 obtain ⟨A1,c1,rfl,_,_⟩:=own_room HO.out
 go_wp2
 go_ret
 exact ⟨_,rfl,HO.out,HB.out,fun g p q hb=>HK.out g _ hb (by simp) (fun c fz e=>by injection e with _ e;exact absurd e (by decide))⟩
set_option maxRecDepth 100000 in
set_option maxHeartbeats 4000000 in
theorem print_any (A:Option Addr) (n c:Nat) (l:List M.Pt) (w:World) (B:Nat) (hr:RdP w w.heap.size A n l) (hi:M.i64s l) (hn:n≤3000) (hB:B≤w.heap.size) (ht:EV B w):
  Calls Tryz.prog 93 #[.slice A n c] w fun e w'=>e= .returned (.string (strOf (ints (M.print l))))∧Below w.heap.size w w':=by
 have HL:=hid hr.len
 have HR:=hid (fun (W:World) (hW:Below w.heap.size w W)=>hr.below hW)
 have HI:=hid hi
 have HT:=hid (fun (W:World) (hW:Below w.heap.size w W)=>(ht.up hB).on hW)
 clear hr hi ht
 go_enter Tryz.func93,Tryz.ntmps93
 go_wp2
 go_loopw [3,8] (fun bv iv wr=> ∃ (k:Nat),iv= .int .i64 k∧k≤n∧Hid (OwnY wr w.heap.size bv (ints (M.print (l.take k))))∧Hid (Below w.heap.size w wr)) (fun _ iv _=>n - (RowKit.intOf iv).toNat)
 case atStart=>exact ⟨0,rfl,Nat.zero_le _,hid (OwnY.nil _ _),hid (Below.refl _ _)⟩
 case round=>
  obtain ⟨k,rfl,hk,HO,HB⟩:=hrel
  obtain ⟨A1,c1,rfl,_,_⟩:=own_room HO.out
  have hbs:=HB.out.size
  by_cases hlt:k<n
  ·obtain ⟨b,off,⟨p,q⟩,rfl,hb,hp,hc1,hc2⟩:=(HR.out wr HB.out).at_ hlt
   obtain ⟨hp64,hq64⟩:=HI.out _ (List.mem_of_getElem? hp)
   dsimp only at hc1 hc2 hp64 hq64
   have d1:decide (k<n)=true:=by rw [decide_eq_true_eq];exact hlt
   obtain ⟨k1,hk1⟩: ∃ k1,k1=k+1:=⟨_,rfl⟩
   have htk:l.take (k+1)=l.take k++ [(p,q)]:=by
    obtain ⟨hkl,he⟩:=List.getElem?_eq_some_iff.1 hp
    rw [List.take_succ_eq_append_getElem hkl,he]
   have hps:=M.print_snoc (l.take k) (p,q)
   rw [←htk,←hk1] at hps
   have hpl:=M.print_len (l.take k)
   rw [List.length_take] at hpl
   have hpl2:(M.print (l.take k)).length≤90000:=by omega
   have hn1:=M.numT_len p
   have hn2:=M.numT_len q
   have HBX:=hid (HB.out.alloc hbs (.cells #[.int .i64 p, .int .i64 q] 113))
   have hbx:=BoxP.new wr p q
   have HOX:Hid (OwnY (wr.alloc (.cells #[.int .i64 p, .int .i64 q] 113)) w.heap.size (.slice A1 (ints (M.print (l.take k))).length c1) (ints (M.print (l.take k)))):=hid (World.ownsRow.alloc HO.out _)
   have HQ:=hid (⟨hp64,hq64⟩:_∧_)
   have HPS:=hid hps
   generalize hL0:M.print (l.take k)=L0 at*
   have HL0:=hid hL0
   have k0':=hbx.cell0
   clear hps htk hp hL0 hpl HO hp64 hq64
   by_cases hk0:k=0
   ·subst hk0
    simp only [Nat.zero_mul,Nat.add_zero] at hc1 hc2
    obtain ⟨LA,hLA⟩: ∃ LA,LA=L0:=⟨_,rfl⟩
    have HFIN:=hid (show M.print (l.take k1)=LA++(M.numT p++44::M.numT q) by
     rw [HPS.out,if_pos (by simp),hLA,←HL0.out];rfl)
    rw [←hLA] at HOX hpl2⊢
    have hla:LA.length≤500000:=by omega
    have HV:=hid HOX.out
    have HBV:=hid HBX.out
    have HXV:=hid hbx
    clear hLA hbx HOX HBX
    go_wp2_with fail
    (with_reducible refine (appendNumber_any w.heap.size _ LA p _ HV.out HBV.out.size (HT.out _ HBV.out) (by omega) HQ.out.1).mono ?_)
    rintro e w2 ⟨v2,rfl,ho2,hb2,hk2⟩
    obtain ⟨A2,c2,rfl,_,_⟩:=own_room ho2
    have hlb:(LA++M.numT p).length≤600000:=by rw [List.length_append];omega
    have HB2:=hid (HBV.out.trans hb2)
    have hbx2:=hk2 _ _ _ HXV.out
    have HX2:=hid hbx2
    have HO2:=hid ho2
    have hbs2:=HB2.out.size
    clear HV HBV HXV ho2 hb2 hk2 hbx2 hla
    generalize hLB:LA++M.numT p=LB at*
    have HLB:=hid hLB
    clear hLB
    have hlb2:(ints LB).length≤1048576:=by rw [ints_len];omega
    go_wp2_with (refine wpList_appY1 rfl (.tmp 22) (.tmp 23) rfl w.heap.size _ (ints LB) 44 (by simp [Act.eval]) HO2.out hbs2 (by decide) (by simp [Act.eval]) hlb2 ?_;intro v3 w3 ho3 hb3 hg3;refine Hid.out ?_)
    refine Lib.hid ?_
    have hbx3:=KP.grown (show OwnY (w2.alloc (.cells #[.int .u8 44] 5)) w.heap.size _ _ from World.ownsRow.alloc HO2.out _) hg3.out _ _ _ HX2.out
    have k1':=hbx3.cell1
    obtain ⟨A3,c3,hv3,_,_⟩:=own_room ho3.out
    subst hv3
    have ho3':OwnY w3 w.heap.size (.slice A3 ((ints LB).length+1) c3) (ints (LB++ [44])):=by
     have h:=ho3.out
     rw [List.length_append,List.length_singleton] at h
     rw [ints_app];exact h
    have HO3:=hid ho3'
    have HB3:=hid (HB2.out.trans hb3.out)
    go_wp2_with fail
    have hlc:(LB++ [44]).length≤1048576:=by rw [List.length_append];simp;omega
    (with_reducible refine (appendNumber_any w.heap.size _ (LB++ [44]) q _ HO3.out HB3.out.size (HT.out _ HB3.out) hlc HQ.out.2).mono ?_)
    rintro e w4 ⟨v4,rfl,ho4,hb4,hk4⟩
    rw [show LB++ [44]++M.numT q=LB++44::M.numT q by simp] at ho4
    obtain ⟨A4,c4,rfl,_,_⟩:=own_room ho4
    have HO4:=hid ho4
    have HB4:=hid (HB3.out.trans hb4)
    clear ho4 hb4 hk4 ho3 hb3 hg3 HX2 HO2 HB2 HO3 HB3
    go_wp2
    go_roundw
    case rel=>exact ⟨k1,(by subst hk1;first|rfl|go_num),by omega,hid (by rw [HFIN.out,show LA++(M.numT p++44::M.numT q)=LB++44::M.numT q by rw [←HLB.out];simp];exact HO4.out),HB4⟩
    case measure=>simp [RowKit.intOf]<;>omega
   ·have hkp:0<k:=by omega
    have hkp2:(0:Int)<(k:Int):=by omega
    have hbs1:=HBX.out.size
    have hl0:(ints L0).length≤1048576:=by rw [ints_len];omega
    go_wp2_with (refine wpList_appY1 rfl (.tmp 15) (.tmp 16) rfl w.heap.size _ (ints L0) 44 (by simp [Act.eval]) HOX.out hbs1 (by decide) (by simp [Act.eval]) hl0 ?_;intro v1 w1 ho1 hb1 hg1;refine Hid.out ?_)
    refine Lib.hid ?_
    have hbx1:=KP.grown (show OwnY ((wr.alloc (.cells #[.int .i64 p, .int .i64 q] 113)).alloc (.cells #[.int .u8 44] 5)) w.heap.size _ _ from World.ownsRow.alloc HOX.out _) hg1.out _ _ _ hbx
    have k0'':=hbx1.cell0
    obtain ⟨A9,c9,hv1,_,_⟩:=own_room ho1.out
    subst hv1
    have ho1':OwnY w1 w.heap.size (.slice A9 ((ints L0).length+1) c9) (ints (L0++ [44])):=by
     have h:=ho1.out
     rw [List.length_append,List.length_singleton] at h
     rw [ints_app];exact h
    have HV:=hid ho1'
    have HBV:=hid (HBX.out.trans hb1.out)
    have HXV:=hid hbx1
    go_wp2_with fail
    obtain ⟨LA,hLA⟩: ∃ LA,LA=L0++ [44]:=⟨_,rfl⟩
    have HFIN:=hid (show M.print (l.take k1)=LA++(M.numT p++44::M.numT q) by
     rw [HPS.out,if_neg (by
      intro e
      have:=congrArg List.length e
      rw [List.length_take,HL.out] at this
      simp at this
      omega),hLA]
     simp [M.ptT])
    have hla:LA.length≤500000:=by rw [hLA,List.length_append];simp;omega
    rw [←hLA] at HV
    clear hLA hbx HOX HBX hl0 ho1 hb1 hg1
    (with_reducible refine (appendNumber_any w.heap.size _ LA p _ HV.out HBV.out.size (HT.out _ HBV.out) (by omega) HQ.out.1).mono ?_)
    rintro e w2 ⟨v2,rfl,ho2,hb2,hk2⟩
    obtain ⟨A2,c2,rfl,_,_⟩:=own_room ho2
    have hlb:(LA++M.numT p).length≤600000:=by rw [List.length_append];omega
    have HB2:=hid (HBV.out.trans hb2)
    have hbx2:=hk2 _ _ _ HXV.out
    have HX2:=hid hbx2
    have HO2:=hid ho2
    have hbs2:=HB2.out.size
    clear HV HBV HXV ho2 hb2 hk2 hbx2 hla
    generalize hLB:LA++M.numT p=LB at*
    have HLB:=hid hLB
    clear hLB
    have hlb2:(ints LB).length≤1048576:=by rw [ints_len];omega
    go_wp2_with (refine wpList_appY1 rfl (.tmp 22) (.tmp 23) rfl w.heap.size _ (ints LB) 44 (by simp [Act.eval]) HO2.out hbs2 (by decide) (by simp [Act.eval]) hlb2 ?_;intro v3 w3 ho3 hb3 hg3;refine Hid.out ?_)
    refine Lib.hid ?_
    have hbx3:=KP.grown (show OwnY (w2.alloc (.cells #[.int .u8 44] 5)) w.heap.size _ _ from World.ownsRow.alloc HO2.out _) hg3.out _ _ _ HX2.out
    have k1':=hbx3.cell1
    obtain ⟨A3,c3,hv3,_,_⟩:=own_room ho3.out
    subst hv3
    have ho3':OwnY w3 w.heap.size (.slice A3 ((ints LB).length+1) c3) (ints (LB++ [44])):=by
     have h:=ho3.out
     rw [List.length_append,List.length_singleton] at h
     rw [ints_app];exact h
    have HO3:=hid ho3'
    have HB3:=hid (HB2.out.trans hb3.out)
    go_wp2_with fail
    have hlc:(LB++ [44]).length≤1048576:=by rw [List.length_append];simp;omega
    (with_reducible refine (appendNumber_any w.heap.size _ (LB++ [44]) q _ HO3.out HB3.out.size (HT.out _ HB3.out) hlc HQ.out.2).mono ?_)
    rintro e w4 ⟨v4,rfl,ho4,hb4,hk4⟩
    rw [show LB++ [44]++M.numT q=LB++44::M.numT q by simp] at ho4
    obtain ⟨A4,c4,rfl,_,_⟩:=own_room ho4
    have HO4:=hid ho4
    have HB4:=hid (HB3.out.trans hb4)
    clear ho4 hb4 hk4 ho3 hb3 hg3 HX2 HO2 HB2 HO3 HB3
    go_wp2
    go_roundw
    case rel=>exact ⟨k1,(by subst hk1;first|rfl|go_num),by omega,hid (by rw [HFIN.out,show LA++(M.numT p++44::M.numT q)=LB++44::M.numT q by rw [←HLB.out];simp];exact HO4.out),HB4⟩
    case measure=>simp [RowKit.intOf]<;>omega
  ·obtain rfl:k=n:=by omega
   have e1:l.take k=l:=List.take_of_length_le (Nat.le_of_eq HL.out)
   have ho:=HO.out
   rw [e1] at ho
   obtain ⟨A2,c2,hv2,hr2,_⟩:=ho.rd (ints_u8 _)
   rw [e1]
   injection hv2 with r1 r2 r3
   subst r1 r3
   have cv:=run_str hr2 c1
   have d1:decide (k<k)=false:=by simp
   clear hlt ho hr2
   obtain ⟨S,hS⟩: ∃ S,S=strOf (ints (M.print l)):=⟨_,rfl⟩
   rw [←hS] at cv
   have HS:=hid hS
   clear hS
   go_wp2
   go_ret
   exact ⟨by rw [←HS.out];rfl,HB.out⟩
end Go.Proofs.YtgbgngdakkiclaaGreatDoor.Sp
