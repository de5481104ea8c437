import Derived.Test.YtgbgngdakkiclaaGreatDoorMtKnownZ
import Derived.Test.YtgbgngdakkiclaaGreatDoorKS
set_option linter.unusedVariables false
set_option linter.unusedSimpArgs false
namespace Go.Proofs.YtgbgngdakkiclaaGreatDoor
open Go.RowKit Go.Lib
open Px (R2 tl)
attribute [local go_sem ↓] add_plain
def gz (zs:List Int) (i:Nat):Int:=zs.getD i 0
theorem gz_bd {zs:List Int} (h: ∀ z∈zs,0≤z∧z≤255) (i:Nat):0≤gz zs i∧gz zs i≤255:=by
 unfold gz
 rw [List.getD_eq_getElem?_getD]
 cases hz:zs[i]? with
 |none=>exact (by decide:(0:Int)≤0∧(0:Int)≤255)
 |some z=>exact h z (List.mem_of_getElem? hz)
set_option maxRecDepth 100000 in
set_option maxHeartbeats 1000000 in
theorem g_any (A:Option Addr) (n c:Nat) (zs:List Int) (i:Nat) (hn:n≤9223372036854775807) (hi:i≤1000) (w:World) (B:Nat) (h:Sp.Rd w B A n zs):
  Calls Tryz.prog 30 #[.slice A n c, .int .i64 i] w fun e w'=>e= .returned (.int .i64 (gz zs i))∧Below w.heap.size w w':=by
 by_cases hlt:i<n
 ·obtain ⟨b,off,z,rfl,hbb,h0,h1,hz,hc⟩:=h.at_ hlt
  have HG:=hid (show gz zs i=z by unfold gz;rw [List.getD_eq_getElem?_getD,hz];rfl)
  have e1:IntKind.i64.wrap z=z:=IntWalk.i64_in _ (by omega)
  clear hz h
  go_enter Tryz.func30,Tryz.ntmps30
  go_wp2
  go_ret
  exact ⟨by rw [HG.out];rfl,Below.refl _ _⟩
 ·have HG:=hid (show gz zs i=0 by unfold gz;rw [List.getD_eq_getElem?_getD,List.getElem?_eq_none (by rw [h.len];omega)];rfl)
  have hge:n≤i:=by omega
  clear h
  go_enter Tryz.func30,Tryz.ntmps30
  go_wp2
  go_ret
  exact ⟨by rw [HG.out];rfl,Below.refl _ _⟩
def nameL:List ByteArray:= [⟨#[97]⟩,⟨#[98]⟩,⟨#[100,47,97]⟩,⟨#[100,47,98]⟩,⟨#[108,111,110,103,47,101]⟩]
def nameT (k:Nat):ByteArray:=
 if k%8=0 then ⟨#[120]⟩++wordT k k
 else if k%8=1 then ⟨#[120]⟩++wordT (90+k%20) (90+k%20)++⟨#[121]⟩
 else if k%8=2 then ⟨#[100,105,114,47]⟩++wordT (k%9) (k%9)++⟨#[122]⟩
 else nameL.getD (k%5) ⟨#[]⟩
theorem nameL_size: ∀ x∈nameL,1≤x.size∧x.size≤6:=by decide
theorem nameT_size (k:Nat) (hk:k≤255):1≤(nameT k).size∧(nameT k).size≤600:=by
 have a1:(⟨#[120]⟩:ByteArray).size=1:=rfl
 have a2:(⟨#[121]⟩:ByteArray).size=1:=rfl
 have a3:(⟨#[122]⟩:ByteArray).size=1:=rfl
 have a4:(⟨#[100,105,114,47]⟩:ByteArray).size=4:=rfl
 unfold nameT
 split
 ·have:=wordT_size k k
  rw [ByteArray.size_append,a1];omega
 ·split
  ·have:=wordT_size (90+k%20) (90+k%20)
   rw [ByteArray.size_append,ByteArray.size_append,a1,a2];omega
  ·split
   ·have:=wordT_size (k%9) (k%9)
    rw [ByteArray.size_append,ByteArray.size_append,a3,a4];omega
   ·have hl:k%5<nameL.length:=by show _<5;exact Nat.mod_lt _ (by decide)
    have h2:=nameL_size _ (List.getElem_mem hl)
    rw [List.getD_eq_getElem?_getD,List.getElem?_eq_getElem hl]
    show 1≤(nameL[k%5]).size∧(nameL[k%5]).size≤600
    omega
set_option maxRecDepth 100000 in
set_option maxHeartbeats 2000000 in
theorem name_any (k:Nat) (hk:k≤255) (w:World):
  Calls Tryz.prog 29 #[.int .i64 k] w fun e w'=>e= .returned (.string (nameT k))∧Below w.heap.size w w':=by
 have e8:(k:Int).tmod 8=((k%8:Nat):Int):=by rw [Int.tmod_eq_emod_of_nonneg (by omega)];omega
 obtain ⟨r,hr⟩: ∃ r,k%8=r:=⟨_,rfl⟩
 rw [hr] at e8
 by_cases h0:r=0
 ·have HN:=hid (show nameT k=⟨#[120]⟩++wordT k k by unfold nameT;rw [if_pos (by omega)])
  have d0:((r:Int)==0)=true:=by rw [beq_iff_eq];omega
  have hs:=wordT_size k k
  have HT:=hid (fun V=>textX_any k (by omega) V)
  generalize wordT k k=t at*
  clear h0 hr
  go_enter Tryz.func29,Tryz.ntmps29
  go_wp2_with (go_at_call 31;(with_reducible refine (HT.out _).mono ?_);rintro e w1 ⟨rfl,hb1⟩)
  go_ret
  exact ⟨by rw [HN.out];rfl,hb1⟩
 ·by_cases h1:r=1
  ·have HN:=hid (show nameT k=⟨#[120]⟩++wordT (90+k%20) (90+k%20)++⟨#[121]⟩ by unfold nameT;rw [if_neg (by omega),if_pos (by omega)])
   have d0:((r:Int)==0)=false:=by rw [beq_eq_false_iff_ne];omega
   have d1:((r:Int)==1)=true:=by rw [beq_iff_eq];omega
   obtain ⟨q,hq⟩: ∃ q,90+k%20=q:=⟨_,rfl⟩
   rw [hq] at HN
   have e20:(k:Int).tmod 20=((k%20:Nat):Int):=by rw [Int.tmod_eq_emod_of_nonneg (by omega)];omega
   have e21:IntKind.i64.wrap (90+((k%20:Nat):Int))=(q:Int):=by rw [IntWalk.i64_in _ (by omega)];omega
   have hs:=wordT_size q q
   have HT:=hid (fun V=>textX_any q (by omega) V)
   generalize wordT q q=t at*
   have hq110:q≤110:=by omega
   generalize k%20=m at*
   clear h0 h1 hr hq
   go_enter Tryz.func29,Tryz.ntmps29
   go_wp2_with (go_at_call 31;(with_reducible refine (HT.out _).mono ?_);rintro e w1 ⟨rfl,hb1⟩)
   go_ret
   exact ⟨by rw [HN.out];rfl,hb1⟩
  ·by_cases h2:r=2
   ·have HN:=hid (show nameT k=⟨#[100,105,114,47]⟩++wordT (k%9) (k%9)++⟨#[122]⟩ by unfold nameT;rw [if_neg (by omega),if_neg (by omega),if_pos (by omega)])
    have d0:((r:Int)==0)=false:=by rw [beq_eq_false_iff_ne];omega
    have d1:((r:Int)==1)=false:=by rw [beq_eq_false_iff_ne];omega
    have d2:((r:Int)==2)=true:=by rw [beq_iff_eq];omega
    have e9:(k:Int).tmod 9=((k%9:Nat):Int):=by rw [Int.tmod_eq_emod_of_nonneg (by omega)];omega
    obtain ⟨q,hq⟩: ∃ q,k%9=q:=⟨_,rfl⟩
    rw [hq] at HN e9
    have hs:=wordT_size q q
    have HT:=hid (fun V=>textX_any q (by omega) V)
    generalize wordT q q=t at*
    have hq9:q≤9:=by omega
    clear h0 h1 h2 hr hq
    go_enter Tryz.func29,Tryz.ntmps29
    go_wp2_with (go_at_call 31;(with_reducible refine (HT.out _).mono ?_);rintro e w1 ⟨rfl,hb1⟩)
    go_ret
    exact ⟨by rw [HN.out];rfl,hb1⟩
   ·have HN:=hid (show nameT k=nameL.getD (k%5) ⟨#[]⟩ by unfold nameT;rw [if_neg (by omega),if_neg (by omega),if_neg (by omega)])
    have d0:((r:Int)==0)=false:=by rw [beq_eq_false_iff_ne];omega
    have d1:((r:Int)==1)=false:=by rw [beq_eq_false_iff_ne];omega
    have d2:((r:Int)==2)=false:=by rw [beq_eq_false_iff_ne];omega
    have e5:(k:Int).tmod 5=((k%5:Nat):Int):=by rw [Int.tmod_eq_emod_of_nonneg (by omega)];omega
    obtain ⟨q,hq⟩: ∃ q,k%5=q:=⟨_,rfl⟩
    rw [hq] at HN e5
    have hql:q<nameL.length:=by show q<5;omega
    have hcx:(w.alloc (.cells #[.string ⟨#[97]⟩, .string ⟨#[98]⟩, .string ⟨#[100,47,97]⟩, .string ⟨#[100,47,98]⟩, .string ⟨#[108,111,110,103,47,101]⟩] 9)).cell? ⟨w.heap.size,q,none⟩=some (.string nameL[q]):=by
     refine (World.cell?_alloc_mark w _ 9 (0,0) q).trans ?_
     have e:(#[Value.string ⟨#[97]⟩, .string ⟨#[98]⟩, .string ⟨#[100,47,97]⟩, .string ⟨#[100,47,98]⟩, .string ⟨#[108,111,110,103,47,101]⟩]:Array Value)=(nameL.map Value.string).toArray:=rfl
     rw [e]
     simp [hql]
    have HN2:=hid (show nameT k=nameL[q] by rw [HN.out,List.getD_eq_getElem?_getD,List.getElem?_eq_getElem hql];rfl)
    obtain ⟨x,hx⟩: ∃ x,nameL[q]=x:=⟨_,rfl⟩
    rw [hx] at hcx HN2
    have hq5:q<5:=hql
    clear h0 h1 h2 hr hq HN hx hql
    go_enter Tryz.func29,Tryz.ntmps29
    go_wp2
    go_ret
    exact ⟨by rw [HN2.out];rfl,(Below.refl _ w).alloc (Nat.le_refl _) _⟩
end Go.Proofs.YtgbgngdakkiclaaGreatDoor
