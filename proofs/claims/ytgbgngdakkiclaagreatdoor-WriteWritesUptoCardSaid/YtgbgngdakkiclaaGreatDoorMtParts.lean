import Derived.Test.YtgbgngdakkiclaaGreatDoorKS
set_option linter.unusedVariables false
set_option linter.unusedSimpArgs false
namespace Go.Proofs.YtgbgngdakkiclaaGreatDoor.Sp
open Go.RowKit Go.Lib
namespace M
def sumL (l:List Pt):Int:=(l.map (·.2)).sum
theorem sumL_snoc (l:List Pt) (p:Pt):sumL (l++ [p])=sumL l+p.2:=by simp [sumL]
structure Few (l:List Pt) (n e:Int):Prop where
 len:l.length≤8
 parts: ∀ p∈l,(-10000≤p.1∧p.1≤10000)∧1≤p.2∧p.2≤30
 sum:n=sumL l
 n0:0≤n∧n≤240
 e0: -10000≤e∧e≤10000
theorem Few.i64 {l:List Pt} {n e:Int} (h:Few l n e):i64s l:=by
 intro p hp
 have:=h.parts p hp
 omega
def chP (zs:List Int):Nat→List Pt × Int
 |0=>([],0)
 |k+1=>
  ((chP zs k).1++ [((chP zs k).2+zs.getD (2*k) 0%40 - (if 250<zs.getD (2*k) 0 then 50 else 0),1+zs.getD (2*k+1) 0%30)],
    ((chP zs k).2+zs.getD (2*k) 0%40 - (if 250<zs.getD (2*k) 0 then 50 else 0))+(1+zs.getD (2*k+1) 0%30))
def chParts (zs:List Int):List Pt:=(chP zs (min (zs.length/2) 8)).1
theorem chP_step {zs:List Int} {i k:Nat} {acc:List Pt} {a z0 z1 x y p q:Int} (h:chP zs k=(acc,a)) (hik:i=2*k) (h0:zs[i]?=some z0) (h1:zs[i+1]?=some z1) (b0:0≤z0) (b1:0≤z1)
  (hx:Int.tmod z0 40=x) (hy:Int.tmod z1 30=y) (hp:a+x - (if 250<z0 then 50 else 0)=p) (hq:1+y=q):chP zs (k+1)=(acc++ [(p,q)],p+q):=by
 subst hik
 rw [Int.tmod_eq_emod_of_nonneg b0] at hx
 rw [Int.tmod_eq_emod_of_nonneg b1] at hy
 have e0:zs.getD (2*k) 0=z0:=by rw [List.getD_eq_getElem?_getD,h0];rfl
 have e1:zs.getD (2*k+1) 0=z1:=by rw [List.getD_eq_getElem?_getD,h1];rfl
 simp only [chP,h,e0,e1,hx,hy,hp,hq]
end M
def FewTo (w:World) (e:Ending) (w':World):Prop:=
 ∃ v l n at_,e= .returned (.tuple #[v, .int .i64 n, .int .i64 at_])∧OwnP w' w.heap.size v l∧M.Few l n at_∧Below w.heap.size w w'
def FewXTo (zs:List Int) (w:World) (e:Ending) (w':World):Prop:=
 ∃ v n at_,e= .returned (.tuple #[v, .int .i64 n, .int .i64 at_])∧OwnP w' w.heap.size v (M.chParts zs)∧M.Few (M.chParts zs) n at_∧Below w.heap.size w w'
theorem results_tmp3 {f:Func} {a b c:Nat} (hf:f.results= #[.tmp a, .tmp b, .tmp c]) (tmps:Array Value) (P:Program) (w:World):
  (results f tmps).run P w= .ok (.tuple #[tmps.getD a undef,tmps.getD b undef,tmps.getD c undef]) w:=by
 simp only [results,hf]
 rw [Array.getD_eq_getD_getElem?,Array.getD_eq_getD_getElem?,Array.getD_eq_getD_getElem?]
 simp [go_sem]
set_option maxRecDepth 100000 in
set_option maxHeartbeats 2000000 in
theorem lawPartsX_any (A:Option Addr) (n c:Nat) (zs:List Int) (w:World) (hr:Rd w w.heap.size A n zs) (hn:n≤maxLen):
  Calls Tryz.prog 32 #[.slice A n c] w (FewXTo zs w):=by
 have HL:=hid hr.len
 have HR:=hid (fun (W:World) (hW:Below w.heap.size w W)=>hr.below hW)
 clear hr
 go_enter Tryz.func32,Tryz.ntmps32
 go_wp2
 go_loopw [5,6,7,8] (fun lv av nv iv wr=> ∃ (i k:Nat) (acc:List M.Pt) (a m:Int),iv= .int .i64 i∧i=2*k∧i≤n∧k≤8∧av= .int .i64 a∧nv= .int .i64 m∧(-100*(k:Int)≤a∧a≤100*(k:Int))∧(0≤m∧m≤30*(k:Int))∧Hid (m=M.sumL acc)∧Hid (acc.length=k)∧Hid (∀ p∈acc,(-10000≤p.1∧p.1≤10000)∧1≤p.2∧p.2≤30)∧Hid (M.chP zs k=(acc,a))∧Hid (OwnP wr w.heap.size lv acc)∧Hid (Below w.heap.size w wr)) (fun _ _ _ iv _=>16 - (RowKit.intOf iv).toNat)
 case atStart=>exact ⟨0,0, [],0,0,rfl,rfl,Nat.zero_le _,Nat.zero_le _,rfl,rfl,by omega,by omega,hid rfl,hid rfl,hid (by intro p hp;cases hp),hid rfl,hid (OwnP.nil _ _),hid (Below.refl _ _)⟩
 case round=>
  obtain ⟨i,k,acc,a,m,rfl,hik,hin,hk,rfl,rfl,ha,hm,HS,HAL,HP,HCP,HO,HB⟩:=hrel
  obtain ⟨A1,c1,rfl,_,_⟩:=HO.out.rd
  have hbs:=HB.out.size
  have HO1:=hid HO.out
  have hal:acc.length≤1048576:=by rw [HAL.out];omega
  by_cases hlt:i+1<n∧i<16
  ·obtain ⟨hlt1,hlt2⟩:=hlt
   obtain ⟨b,off,z0,rfl,hb,z00,z01,hz0,hcz⟩:=(HR.out wr HB.out).at_ (k:=i) (by omega)
   obtain ⟨b',off',z1,eA,_,z10,z11,hz1,hcz1⟩:=(HR.out wr HB.out).at_ (k:=i+1) hlt1
   injection eA with eA
   injection eA with e1 e2
   subst e1 e2
   obtain ⟨x,hx⟩: ∃ x:Int,Int.tmod z0 40=x:=⟨_,rfl⟩
   obtain ⟨y,hy⟩: ∃ y:Int,Int.tmod z1 30=y:=⟨_,rfl⟩
   have hxb:0≤x∧x<40:=by rw [Int.tmod_eq_emod_of_nonneg z00] at hx;omega
   have hyb:0≤y∧y<30:=by rw [Int.tmod_eq_emod_of_nonneg z10] at hy;omega
   obtain ⟨x0,x1⟩:=hxb
   obtain ⟨y0,y1⟩:=hyb
   have hab: -800≤a∧a≤800:=by omega
   have hmb:0≤m∧m≤240:=by omega
   obtain ⟨a0,a1⟩:=hab
   obtain ⟨m0,m1⟩:=hmb
   have HI:=hid (⟨hik,ha,hm⟩:_∧_∧_)
   have d1:decide ((i:Int)+1<(n:Int))=true:=by rw [decide_eq_true_eq];omega
   have d2:decide ((i:Int)<16)=true:=by rw [decide_eq_true_eq];omega
   have HCS:=hid (fun (p q:Int) hp hq=>M.chP_step (p:=p) (q:=q) HCP.out hik hz0 hz1 z00 z10 hx hy hp hq)
   clear hz0 hz1 hik ha hm hk
   have hbne:b<wr.heap.size:=Nat.lt_of_lt_of_le hb hbs
   have hcy:=(World.cell?_alloc_lt wr (.cells #[.int .i64 (a+x), .int .i64 (1+y)] 113) ⟨b,off+i,none⟩ hbne).trans hcz
   by_cases hbig:250<z0
   ·have d3:decide (250<z0)=true:=by rw [decide_eq_true_eq];exact hbig
    rw [if_pos hbig] at HCS
    have hbx:=BoxP.new wr (a+x - 50) (1+y)
    have HB2:=hid (HB.out.alloc hbs (.cells #[.int .i64 (a+x - 50), .int .i64 (1+y)] 113))
    have HO2:=hid (HO.out.alloc (.cells #[.int .i64 (a+x - 50), .int .i64 (1+y)] 113))
    have k0:=hbx.cell0
    have k1:=hbx.cell1
    clear hbig hbx HO
    by_cases hi0:i=0
    case' pos=>
     subst hi0
     simp only [Nat.add_zero,Nat.zero_add] at hcz hcz1 hcy
    case' neg=>have hip:0<i:=by omega
    all_goals
     go_upto_region 11 with fail
     generalize World.alloc wr _=W2 at*
     clear hcz hcz1 hcy d1 d2 d3
     generalize hp1:a+x - 50=p1 at*
     generalize hq1:1+y=q1 at*
     have HCX:=hid (HCS.out p1 q1 rfl rfl)
     have HPQ:=hid (⟨hp1,hq1⟩:_∧_)
     have hpb: -1000≤p1∧p1≤1000:=by omega
     have hqb:1≤q1∧q1≤30:=by omega
     obtain ⟨hpb0,hpb1⟩:=hpb
     obtain ⟨hqb0,hqb1⟩:=hqb
     have hbs2:=HB2.out.size
     clear hp1 hq1 hx hy
     go_wp2_with (refine wpList_appP rfl (.tmp 57) (.tmp 59) rfl w.heap.size _ acc p1 q1 (by simp [Act.eval]) HO2.out hbs2 (by simp [Act.eval]) hal ?_;intro v' w9 ho9 hb9 _)
     have HAP:=hid (show ∀ p∈acc++ [(p1,q1)],(-10000≤p.1∧p.1≤10000)∧1≤p.2∧p.2≤30 by
      intro p hp
      rw [List.mem_append,List.mem_singleton] at hp
      rcases hp with hp|rfl
      ·exact HP.out p hp
      ·dsimp only;omega)
     have hI:=HI.out
     have hPQ:=HPQ.out
     go_roundw
     case rel=>exact ⟨_,k+1,acc++ [(p1,q1)],p1+q1,m+q1,(show Value.int .i64 _=Value.int .i64 ((_+2:Nat):Int) by go_num),by omega,by omega,by omega,by go_num,by go_num,by omega,by omega,hid (by rw [M.sumL_snoc,←HS.out]),hid (by rw [List.length_append,HAL.out];rfl),HAP,HCX,ho9,hid (HB2.out.trans hb9.out)⟩
     case measure=>simp [RowKit.intOf]<;>omega
   ·have d3:decide (250<z0)=false:=by rw [decide_eq_false_iff_not];exact hbig
    rw [if_neg hbig] at HCS
    simp only [Int.sub_zero] at HCS
    have hbx:=BoxP.new wr (a+x) (1+y)
    have HB2:=hid (HB.out.alloc hbs (.cells #[.int .i64 (a+x), .int .i64 (1+y)] 113))
    have HO2:=hid (HO.out.alloc (.cells #[.int .i64 (a+x), .int .i64 (1+y)] 113))
    have k0:=hbx.cell0
    have k1:=hbx.cell1
    clear hbig hbx HO
    by_cases hi0:i=0
    case' pos=>
     subst hi0
     simp only [Nat.add_zero,Nat.zero_add] at hcz hcz1 hcy
    case' neg=>have hip:0<i:=by omega
    all_goals
     go_upto_region 11 with fail
     generalize World.alloc wr _=W2 at*
     clear hcz hcz1 hcy d1 d2 d3
     generalize hp1:a+x=p1 at*
     generalize hq1:1+y=q1 at*
     have HCX:=hid (HCS.out p1 q1 rfl rfl)
     have HPQ:=hid (⟨hp1,hq1⟩:_∧_)
     have hpb: -1000≤p1∧p1≤1000:=by omega
     have hqb:1≤q1∧q1≤30:=by omega
     obtain ⟨hpb0,hpb1⟩:=hpb
     obtain ⟨hqb0,hqb1⟩:=hqb
     have hbs2:=HB2.out.size
     clear hp1 hq1 hx hy
     go_wp2_with (refine wpList_appP rfl (.tmp 57) (.tmp 59) rfl w.heap.size _ acc p1 q1 (by simp [Act.eval]) HO2.out hbs2 (by simp [Act.eval]) hal ?_;intro v' w9 ho9 hb9 _)
     have HAP:=hid (show ∀ p∈acc++ [(p1,q1)],(-10000≤p.1∧p.1≤10000)∧1≤p.2∧p.2≤30 by
      intro p hp
      rw [List.mem_append,List.mem_singleton] at hp
      rcases hp with hp|rfl
      ·exact HP.out p hp
      ·dsimp only;omega)
     have hI:=HI.out
     have hPQ:=HPQ.out
     go_roundw
     case rel=>exact ⟨_,k+1,acc++ [(p1,q1)],p1+q1,m+q1,(show Value.int .i64 _=Value.int .i64 ((_+2:Nat):Int) by go_num),by omega,by omega,by omega,by go_num,by go_num,by omega,by omega,hid (by rw [M.sumL_snoc,←HS.out]),hid (by rw [List.length_append,HAL.out];rfl),HAP,HCX,ho9,hid (HB2.out.trans hb9.out)⟩
     case measure=>simp [RowKit.intOf]<;>omega
  ·have HCE:=hid (show M.chParts zs=acc by
    have e:min (zs.length/2) 8=k:=by rw [HL.out];omega
    unfold M.chParts
    rw [e,HCP.out])
   have HF:=hid (show M.Few acc m a from ⟨by rw [HAL.out];exact hk,HP.out,HS.out,by omega,by omega⟩)
   by_cases h1:i+1<n
   case' pos=>
    have d1:decide ((i:Int)+1<(n:Int))=true:=by rw [decide_eq_true_eq];omega
    have d2:decide ((i:Int)<16)=false:=by rw [decide_eq_false_iff_not];omega
   case' neg=>have d1:decide ((i:Int)+1<(n:Int))=false:=by rw [decide_eq_false_iff_not];omega
   all_goals
    have hib:i≤16:=by omega
    clear hlt h1 hik
    go_wp2
    refine bodyPost_ret (results_tmp3 rfl _ _ _) rfl ?_
    exact ⟨_,m,a,rfl,by rw [HCE.out];exact HO.out,by rw [HCE.out];exact HF.out,HB.out⟩
theorem lawParts_any (A:Option Addr) (n c:Nat) (zs:List Int) (w:World) (hr:Rd w w.heap.size A n zs) (hn:n≤maxLen):
  Calls Tryz.prog 32 #[.slice A n c] w (FewTo w):=
 (lawPartsX_any A n c zs w hr hn).mono fun _ _ ⟨v,m,a,h1,h2,h3,h4⟩=>⟨v,_,m,a,h1,h2,h3,h4⟩
end Go.Proofs.YtgbgngdakkiclaaGreatDoor.Sp
