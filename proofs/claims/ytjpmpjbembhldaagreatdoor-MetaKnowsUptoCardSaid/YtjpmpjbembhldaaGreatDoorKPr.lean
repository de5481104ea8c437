import Derived.Test.YtjpmpjbembhldaaGreatDoorKX
import Derived.IntWalk
set_option linter.unusedVariables false
set_option linter.unusedSimpArgs false
set_option linter.unusedVariables false
set_option linter.unusedSimpArgs false
namespace Go.Proofs.YtjpmpjbembhldaaGreatDoor.Px
open Go.RowKit Go.Shelf
def plainByte (c:UInt8):Bool:= !(c==0)&& !(decide (49≤c.toNat)&&decide (c.toNat≤57))
def noNul (s:ByteArray):Bool:=(tl s).all plainByte
theorem noNul_no {s:ByteArray} (h:noNul s=true):(tl s).all (fun c=> !(c==0))=true:=by
 rw [List.all_eq_true]
 intro c hc
 have:=List.all_eq_true.1 h c hc
 unfold plainByte at this
 rw [Bool.and_eq_true] at this
 exact this.1
theorem noNul_app {s t:ByteArray} (h:noNul s=true) (h2:noNul t=true):noNul (s++t)=true:=by
 unfold noNul at*
 rw [tl_append,List.all_append,h,h2];rfl
def keyGood (s:ByteArray):Bool:=(tl s).all M.keyOk&& !(tl s).isEmpty
def Good (rs:List R2):Prop:= ∀ r∈rs,M.right (rc r)=true∧r.1.size+r.2.size≤30∧noNul r.2=true
theorem Good.nil:Good []:=fun r h=>by cases h
theorem Good.snoc {rs:List R2} {r:R2} (h:Good rs) (h1:M.right (rc r)=true) (h2:r.1.size+r.2.size≤30) (h3:noNul r.2=true):Good (rs++ [r]):=fun x hx=>by
 rcases List.mem_append.1 hx with hx|hx
 ·exact h x hx
 ·rw [List.mem_singleton] at hx
  subst hx
  exact ⟨h1,h2,h3⟩
theorem Good.app {a b:List R2} (h:Good a) (h2:Good b):Good (a++b):=fun x hx=>by
 rcases List.mem_append.1 hx with hx|hx
 ·exact h x hx
 ·exact h2 x hx
theorem Good.short {rs:List R2} (h:Good rs):Short rs:=fun r hr=>by have:=(h r hr).2.1;omega
theorem right_of {s t:ByteArray} (h:keyGood s=true) (h2:noNul t=true):M.right (rc (s,t))=true:=by
 unfold keyGood at h
 have h3:=noNul_no h2
 rw [Bool.and_eq_true] at h
 unfold M.right rc
 dsimp only
 rw [h.1,h3,h.2];rfl
def pieces6:List ByteArray:= [⟨#[97]⟩,⟨#[10]⟩,⟨#[61]⟩,⟨#[32]⟩,⟨#[48]⟩,⟨#[195,169]⟩]
theorem piece6_cell (wr:World) (j:Nat) (hj:j<6): ∃ x:ByteArray,x.size≤2∧noNul x=true∧
  (wr.alloc (.cells #[.string ⟨#[97]⟩, .string ⟨#[10]⟩, .string ⟨#[61]⟩, .string ⟨#[32]⟩, .string ⟨#[48]⟩, .string ⟨#[195,169]⟩] 9)).cell? ⟨wr.heap.size,j,none⟩=some (.string x):=by
 have h:=World.cell?_alloc_mark wr #[.string ⟨#[97]⟩, .string ⟨#[10]⟩, .string ⟨#[61]⟩, .string ⟨#[32]⟩, .string ⟨#[48]⟩, .string ⟨#[195,169]⟩] 9 (0,0) j
 have hs: ∀ x∈pieces6,x.size≤2∧noNul x=true:=by decide
 have hjl:j<pieces6.length:=hj
 refine ⟨pieces6[j],(hs _ (List.getElem_mem hjl)).1,(hs _ (List.getElem_mem hjl)).2,h.trans ?_⟩
 have e:(#[Value.string ⟨#[97]⟩, .string ⟨#[10]⟩, .string ⟨#[61]⟩, .string ⟨#[32]⟩, .string ⟨#[48]⟩, .string ⟨#[195,169]⟩]:Array Value)=(pieces6.map Value.string).toArray:=rfl
 rw [e]
 simp [hjl]
def keys5:List ByteArray:= [⟨#[97]⟩,⟨#[98,46,99]⟩,⟨#[112,97,116,104]⟩,⟨#[117,105,100]⟩,⟨#[122,122]⟩]
theorem key5_cell (wr:World) (j:Nat) (hj:j<5): ∃ x:ByteArray,x.size≤4∧keyGood x=true∧
  (wr.alloc (.cells #[.string ⟨#[97]⟩, .string ⟨#[98,46,99]⟩, .string ⟨#[112,97,116,104]⟩, .string ⟨#[117,105,100]⟩, .string ⟨#[122,122]⟩] 9)).cell? ⟨wr.heap.size,j,none⟩=some (.string x):=by
 have h:=World.cell?_alloc_mark wr #[.string ⟨#[97]⟩, .string ⟨#[98,46,99]⟩, .string ⟨#[112,97,116,104]⟩, .string ⟨#[117,105,100]⟩, .string ⟨#[122,122]⟩] 9 (0,0) j
 have hs: ∀ x∈keys5,x.size≤4∧keyGood x=true:=by decide
 have hjl:j<keys5.length:=hj
 refine ⟨keys5[j],(hs _ (List.getElem_mem hjl)).1,(hs _ (List.getElem_mem hjl)).2,h.trans ?_⟩
 have e:(#[Value.string ⟨#[97]⟩, .string ⟨#[98,46,99]⟩, .string ⟨#[112,97,116,104]⟩, .string ⟨#[117,105,100]⟩, .string ⟨#[122,122]⟩]:Array Value)=(keys5.map Value.string).toArray:=rfl
 rw [e]
 simp [hjl]
def RecsIs (N:Nat) (w:World) (e:Ending) (w':World):Prop:=
 ∃ A c rs,e= .returned (.slice A rs.length c)∧RdR w' w'.heap.size A rs∧rs.length≤c∧c≤maxLen∧rs.length≤N∧Good rs∧Below w.heap.size w w'∧OwnR w' w.heap.size (.slice A rs.length c) rs
set_option maxRecDepth 100000 in
set_option maxHeartbeats 8000000 in
theorem recs_any (A:Option Addr) (n c:Nat) (zs:List Int) (N:Nat) (hN:N≤1000) (hn:n≤maxLen) (w:World) (h:Rd w w.heap.size A n zs):
  Calls Tryz.prog 9 #[.slice A n c, .int .i64 N] w (RecsIs N w):=by
 unfold maxLen at hn
 have HR:=Lib.hid h
 clear h
 go_enter Tryz.func9,Tryz.ntmps9
 go_wp2
 go_loopw [5,6,7,8] (fun v i _ _ wr=> ∃ (k:Nat) (rs:List R2),i= .int .i64 k∧OwnR wr w.heap.size v rs∧k=2*rs.length∧rs.length≤N∧Hid (Good rs)∧Below w.heap.size w wr) (fun _ i _ _ _=>2*N - (intOf i).toNat)
 case atStart=>exact ⟨0, [],rfl,OwnR.nil _ _,rfl,Nat.zero_le _,Lib.hid Good.nil,Below.refl _ _⟩
 case round=>
  obtain ⟨k,rs,rfl,hown,hk,hrN,hgood,hb⟩:=hrel
  have hbs:=hb.size
  by_cases hlt:k+1<n
  ·by_cases hlN:k<2*N
   ·obtain ⟨b,off,rfl,hbb,hcell⟩:=HR.out.2.2 (by omega)
    have hlen:=HR.out.len
    have hk0l:k<zs.length:=by omega
    have hk1l:k+1<zs.length:=by omega
    have h0:=hcell k _ (List.getElem?_eq_getElem hk0l)
    have h1:=hcell (k+1) _ (List.getElem?_eq_getElem hk1l)
    have hz0:=HR.out.bd _ (List.getElem_mem hk0l)
    have hz1:=HR.out.bd _ (List.getElem_mem hk1l)
    obtain ⟨z0,hz0e⟩: ∃ z,zs[k]=z:=⟨_,rfl⟩
    obtain ⟨z1,hz1e⟩: ∃ z,zs[k+1]=z:=⟨_,rfl⟩
    rw [hz0e] at h0 hz0
    rw [hz1e] at h1 hz1
    have d0:=fun (W:World) (hW:Below w.heap.size w W)=>(hW.cell (p:=⟨b,off+k,none⟩) hbb).trans h0
    have d1:=fun (W:World) (hW:Below w.heap.size w W)=>(hW.cell (p:=⟨b,off+(k+1),none⟩) hbb).trans h1
    have HO:=Lib.hid hown
    have HD0:=Lib.hid d0
    have HD1:=Lib.hid d1
    have HK:=Lib.hid hk
    have hrl:rs.length≤1000:=by omega
    obtain ⟨hz00,hz01⟩:=hz0
    obtain ⟨hz10,hz11⟩:=hz1
    have e13:z1.tmod 13=z1%13:=Int.tmod_eq_emod_of_nonneg hz10
    have e5:z0.tmod 5=z0%5:=Int.tmod_eq_emod_of_nonneg hz00
    have hk2000:k<2000:=by omega
    clear hcell h0 h1 hz0e hz1e d0 d1 hown hk e13 e5 hlen hk0l hk1l
    by_cases hk0:k=0
    case' pos=>
     subst hk0
     simp only [Nat.add_zero] at HD0 HD1
    case' neg=>
     have hk1:0<k:=by omega
     clear hk0
    all_goals
     go_wp2
     go_loopw [7,8] (fun v j wy=> ∃ (q:Nat) (s:ByteArray),v= .string s∧j= .int .i64 q∧(q:Int)≤z1%13∧s.size≤2*q∧Hid (noNul s=true)∧Hid (OwnR wy w.heap.size u5 rs)∧Below w.heap.size w wy) (fun _ j _=>13 - (intOf j).toNat)
     case atStart=>exact ⟨0,⟨#[]⟩,rfl,rfl,by omega,by decide,Lib.hid rfl,HO,hb⟩
     case round=>
      obtain ⟨q,s,rfl,rfl,hq,hs,hnn,hown,hby⟩:=hrel
      have hbys:=hby.size
      have hbl:b<wr.heap.size:=by omega
      have e1:=HD1.out _ hby
      by_cases hltq:(q:Int)<z1%13
      ·obtain ⟨x,hx,hxn,hcx⟩:=piece6_cell wr ((z1+q)%6).toNat (by omega)
       have HXN:=Lib.hid hxn
       clear hxn
       go_wp2
       go_roundw
       case rel=>exact ⟨q+1,s++x,rfl,by go_num,by omega,by rw [ByteArray.size_append];omega,Lib.hid (noNul_app hnn.out HXN.out),Lib.hid (hown.out.alloc _),hby.alloc hbys _⟩
       case measure=>simp [intOf];omega
      ·have hqe:z1%13≤(q:Int):=by omega
       obtain ⟨kx,hkx,hkg,hck⟩:=key5_cell wr (z0%5).toNat (by omega)
       have HKG:=Lib.hid hkg
       have e0:=HD0.out _ hby
       have hb5:=hby.alloc hbys (.cells #[.string ⟨#[97]⟩, .string ⟨#[98,46,99]⟩, .string ⟨#[112,97,116,104]⟩, .string ⟨#[117,105,100]⟩, .string ⟨#[122,122]⟩] 9)
       clear hltq hkg
       go_wp2_with (at_builtin;refine wpList_appR rfl (.tmp 47) (.tmp 58) rfl w.heap.size u5 rs (kx,s) rfl rfl rfl (hown.out.alloc _) hb5.size (by rw [World.size_alloc];rfl) (by omega) ?_)
       intro v4 w4 rs' HRS hn4 o4 hb4 hg4
       have b4:=hb5.trans hb4
       clear hb4 hg4 hck e0 e1
       go_wp2
       go_roundw
       case rel=>
        refine ⟨2*rs'.length,rs', ?_,o4,rfl,by have:=HK.out;omega,Lib.hid ?_,b4⟩
        ·have:=HK.out
         congr 1
         omega
        ·rw [HRS.out]
         exact hgood.out.snoc (right_of HKG.out hnn.out) (by show kx.size+s.size≤30;omega) hnn.out
       case measure=>simp [intOf];omega
   ·have hge:2*(N:Int)≤(k:Int):=by omega
    obtain ⟨A4,c4,rfl,hr4,hc4,hm4⟩:=hown.rd
    have HOW:=Lib.hid hown
    have HR4:=Lib.hid hr4
    clear hown hr4 hk hlN
    go_wp2
    go_ret
    exact ⟨A4,c4,rs,rfl,HR4.out,hc4,hm4,hrN,hgood.out,hb,HOW.out⟩
  ·have hge:(n:Int)≤(k:Int)+1:=by omega
   obtain ⟨A4,c4,rfl,hr4,hc4,hm4⟩:=hown.rd
   have HOW:=Lib.hid hown
   have HR4:=Lib.hid hr4
   have hk2:k≤2000:=by omega
   clear hown hr4 hk hlt
   go_wp2
   go_ret
   exact ⟨A4,c4,rs,rfl,HR4.out,hc4,hm4,hrN,hgood.out,hb,HOW.out⟩
end Go.Proofs.YtjpmpjbembhldaaGreatDoor.Px
