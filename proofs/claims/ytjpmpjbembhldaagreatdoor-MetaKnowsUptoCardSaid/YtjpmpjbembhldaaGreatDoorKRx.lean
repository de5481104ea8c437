import Derived.Test.YtjpmpjbembhldaaGreatDoorKX
import Derived.Laws.Cover1
import Derived.Sort.Walk0
set_option linter.unusedVariables false
set_option linter.unusedSimpArgs false
set_option linter.unusedVariables false
set_option linter.unusedSimpArgs false
namespace Go.Proofs.YtjpmpjbembhldaaGreatDoor.Px
open Go.RowKit Go.Shelf
theorem find_drop {l:List R2} {k:Nat} (hk:k<l.length) (key:ByteArray) (h:M.find (rcs (l.drop (k+1))) (tl key)=none):
  M.find (rcs (l.drop k)) (tl key)=if tl (l[k]).1=tl key then some (tl (l[k]).2) else none:=by
 rw [List.drop_eq_getElem_cons hk,show rcs (l[k]::l.drop (k+1))=rc l[k]::rcs (l.drop (k+1)) from rfl,M.find_cons,h]
 rfl
theorem find_of_drop {l:List R2} {k:Nat} {key:ByteArray} {v:List UInt8} (h:M.find (rcs (l.drop k)) (tl key)=some v):M.find (rcs l) (tl key)=some v:=by
 rw [←List.take_append_drop k l,rcs_app,M.find_app,h];rfl
set_option maxRecDepth 100000 in
set_option maxHeartbeats 4000000 in
theorem refFind_any (A:Option Addr) (c:Nat) (l:List R2) (key:ByteArray) (hl:l.length≤1048576) (w:World) (h:RdR w w.heap.size A l):
  Calls Tryz.prog 40 #[.slice A l.length c, .string key] w (fun e w'=> ∃ (v:ByteArray) (b:Bool),e= .returned (.tuple #[.string v, .bool b])∧tl v=(M.find (rcs l) (tl key)).getD []∧b=(M.find (rcs l) (tl key)).isSome∧Below w.heap.size w w'):=by
 have HR:=Lib.hid h
 clear h
 go_enter Tryz.func40,Tryz.ntmps40
 go_wp2
 go_loopw [6] (fun i wr=> ∃ (k:Nat) (z:Int),i= .int .i64 z∧z=(k:Int) - 1∧k≤l.length∧Hid (M.find (rcs (l.drop k)) (tl key)=none)∧Below w.heap.size w wr) (fun i _=>(intOf i+1).toNat)
 case atStart=>exact ⟨l.length,_,rfl,rfl,Nat.le_refl _,Lib.hid (by rw [List.drop_length];rfl),Below.refl _ _⟩
 case round=>
  obtain ⟨k,z,rfl,hz,hk,hd,hb⟩:=hrel
  rcases k with _|j
  ·have hz2:z<0:=by omega
   have hz3:z= -1:=by omega
   subst hz3
   clear hz hz2
   have HD:=Lib.hid (show M.find (rcs l) (tl key)=none from by have:=hd.out;rwa [List.drop_zero] at this)
   go_wp2
   go_ret2
   exact ⟨⟨#[]⟩,false,rfl,by rw [HD.out];rfl,by rw [HD.out];rfl,hb⟩
  ·obtain rfl:z=(j:Int):=by omega
   have hjl:j<l.length:=by omega
   obtain ⟨bb,off,rfl,hbb,hd1,hd2⟩:=(HR.out.below hb).at_ hjl
   have hfd:=find_drop hjl key hd.out
   obtain ⟨⟨s,t⟩,hr⟩: ∃ r,l[j]=r:=⟨_,rfl⟩
   rw [hr] at hd1 hd2 hfd
   dsimp only at hd1 hd2 hfd
   have HF:=Lib.hid hfd
   clear hfd hr hz
   by_cases hs:s=key
   ·subst hs
    have HV:=Lib.hid (find_of_drop (k:=j) (v:=tl t) (by rw [HF.out,if_pos rfl]:M.find (rcs (l.drop j)) (tl s)=some (tl t)))
    by_cases hj0:j=0
    case' pos=>
     subst hj0
     simp only [Nat.zero_mul,Nat.add_zero] at hd1 hd2
    case' neg=>
     have hj1:0<j:=by omega
     clear hj0
    all_goals
     go_wp2
     go_ret2
     exact ⟨t, .inr ⟨rfl,by rw [HV.out];rfl,by rw [HV.out];rfl,hb⟩⟩
   ·have hne:(s.toList==key.toList)=false:=by
     rw [beq_eq_false_iff_ne,tl_eq,tl_eq]
     exact fun e=>hs (tl_inj e)
    have HV:=Lib.hid (show M.find (rcs (l.drop j)) (tl key)=none by rw [HF.out,if_neg (fun e=>hs (tl_inj e))])
    clear hs
    by_cases hj0:j=0
    case' pos=>
     subst hj0
     simp only [Nat.zero_mul,Nat.add_zero] at hd1 hd2
    case' neg=>
     have hj1:0<j:=by omega
     clear hj0
    all_goals
     go_wp2
     go_roundw
     case rel=>exact ⟨_,_,rfl,by omega,by omega,HV,hb⟩
     case measure=>first|(simp [intOf];done)|(simp [intOf];omega)
end Go.Proofs.YtjpmpjbembhldaaGreatDoor.Px
set_option linter.unusedVariables false
set_option linter.unusedSimpArgs false
namespace Go.Proofs.YtjpmpjbembhldaaGreatDoor.Px
open Go.RowKit Go.Shelf
namespace M
theorem put_new {lt:List UInt8→List UInt8→Bool} {r:Rc} : ∀ (l:List Rc) (k:Nat),k≤l.length→(∀ x∈l.take k,lt x.1 r.1=true)→(∀ x,l[k]?=some x→lt x.1 r.1=false∧x.1≠r.1)→put lt l r=l.take k++r::l.drop k
 | [],k,hk,_,_=>by
   obtain rfl:k=0:=by simpa using hk
   rfl
 |x::l,0,_,_,h=>by
  obtain ⟨h1,h2⟩:=h x rfl
  simp [put,h1,h2]
 |x::l,k+1,hk,h,h2=>by
  have h1:=h x (by simp)
  have ih:=put_new (lt:=lt) (r:=r) l k (by simpa using hk) (fun y hy=>h y (by simp [hy])) (fun y hy=>h2 y (by simpa using hy))
  simp [put,h1,ih]
theorem put_same {lt:List UInt8→List UInt8→Bool} {r x:Rc} : ∀ (l:List Rc) (k:Nat),(∀ y∈l.take k,lt y.1 r.1=true)→l[k]?=some x→lt x.1 r.1=false→x.1=r.1→put lt l r=l.take k++r::l.drop (k+1)
 | [],k,_,h,_,_=>by simp at h
 |y::l,0,_,h,h1,h2=>by
  obtain rfl:y=x:=by simpa using h
  unfold put
  rw [if_neg (by rw [h1];decide),if_pos h2]
  rfl
 |y::l,k+1,h,hx,h2,h3=>by
  have h1:=h y (by simp)
  have ih:=put_same (lt:=lt) (r:=r) l k (fun z hz=>h z (by simp [hz])) (by simpa using hx) h2 h3
  simp [put,h1,ih]
end M
theorem elemRs:Tryz.prog.elem 25=29:=by kernel_rfl
theorem cellsRs:(Tryz.prog.info? 29).map (·.size)=some 2:=by kernel_rfl
theorem slice_frontR (w:World) (a:Option Addr) (len cap h:Nat) (h2:h≤cap):
  (Instr.slice 25 (.slice a len cap) none (some (.int .i64 h)) none).run Tryz.prog w= .ok (.slice a h cap) w:=by
 have ht:Tryz.prog.underlying 25=some (.slice (Tryz.prog.elem 25)):=by rw [elemRs];exact Tryz.underlying25
 rw [run_slice_h w 25 a len cap ht .i64 h (by omega) (by omega),elemRs]
 have hs:(sizeOf 29).run Tryz.prog w= .ok 2 w:=by
  obtain ⟨i,hi,hz⟩:=Option.map_eq_some_iff.1 cellsRs
  simp [sizeOf,typeInfo,hi,hz]
 rw [hs]
 have hadd: ∀ x:Addr,x.add 0=x:=fun x=>by simp [Addr.add]
 have hm:a.map (·.add 0)=a:=by cases a<;>simp [hadd]
 simp [Result.andThen,sliced,hm]
theorem slice_restR (w:World) (a:Option Addr) (len cap l:Nat) (h1:l≤len):
  (Instr.slice 25 (.slice a len cap) (some (.int .i64 l)) none none).run Tryz.prog w= .ok (.slice (cutR a cap l) (len - l) (cap - l)) w:=by
 have ht:Tryz.prog.underlying 25=some (.slice (Tryz.prog.elem 25)):=by rw [elemRs];exact Tryz.underlying25
 rw [run_slice_l w 25 a len cap ht .i64 l (by omega) (by omega),elemRs]
 have hs:(sizeOf 29).run Tryz.prog w= .ok 2 w:=by
  obtain ⟨i,hi,hz⟩:=Option.map_eq_some_iff.1 cellsRs
  simp [sizeOf,typeInfo,hi,hz]
 rw [hs]
 simp [Result.andThen,sliced,cutR]
set_option maxRecDepth 100000 in
set_option maxHeartbeats 4000000 in
theorem put_any (A:Option Addr) (c:Nat) (l:List R2) (s t:ByteArray) (hl:l.length≤1048576) (hlc:l.length≤c) (w:World) (h:RdR w w.heap.size A l):
  Calls Tryz.prog 81 #[.slice A l.length c, .agg #[.string s, .string t]] w (fun e w'=> ∃ A' c' rs,e= .returned (.slice A' rs.length c')∧Hid (rcs rs=M.put ltB (rcs l) (rc (s,t)))∧RdR w' w'.heap.size A' rs∧rs.length≤l.length+1∧rs.length≤c'∧Below w.heap.size w w'):=by
 have HR:=Lib.hid h
 clear h
 go_enter Tryz.func81,Tryz.ntmps81
 go_wp2
 obtain ⟨W1,hW1⟩: ∃ W1,w.alloc (.cells #[.string s, .string t] 29)=W1:=⟨_,rfl⟩
 have hbx:BoxR W1 w.heap.size s t:=by rw [←hW1];exact BoxR.new w s t
 have hb:Below w.heap.size w W1:=by rw [←hW1];exact (Below.refl _ w).alloc (Nat.le_refl _) _
 rw [hW1]
 clear hW1
 have x0:=hbx.cell0
 have x1:=hbx.cell1
 have hrd:=HR.out.below hb
 go_loopw [5] (fun i wr=> ∃ k d:Nat,i= .int .i64 k∧k≤l.length∧Hid (∀ x∈(rcs l).take k,ltB x.1 (tl s)=true)∧wr=W1.drewN d) (fun i _=>l.length - (intOf i).toNat)
 case atStart=>exact ⟨0,0,rfl,Nat.zero_le _,Lib.hid (by simp),rfl⟩
 case round=>
  obtain ⟨k,d,rfl,hk,hp,rfl⟩:=hrel
  by_cases hlt:k<l.length
  ·obtain ⟨b,off,rfl,hbb,hd1,hd2⟩:=hrd.at_ hlt
   by_cases hL:ltB (tl (l[k]).1) (tl s)=true
   ·have hp2: ∀ x∈(rcs l).take (k+1),ltB x.1 (tl s)=true:=by
     intro x hx
     have hkl:k<(rcs l).length:=by rw [rcs_len];exact hlt
     rw [List.take_succ_eq_append_getElem hkl] at hx
     rcases List.mem_append.1 hx with hx|hx
     ·exact hp.out x hx
     ·rw [List.mem_singleton] at hx
      subst hx
      simp only [rcs,List.getElem_map,rc]
      exact hL
    have HP2:=Lib.hid hp2
    have hbl:Op.bytesLess (l[k]).1.toList s.toList=true:=by rw [bytesLess_eq,tl_eq,tl_eq];exact hL
    obtain ⟨r,hr⟩: ∃ r,l[k]=r:=⟨_,rfl⟩
    rw [hr] at hd1 hd2 hbl
    clear hL hp2 hr hp
    by_cases hk0:k=0
    case' pos=>
     subst hk0
     simp only [Nat.zero_mul,Nat.add_zero] at hd1 hd2
     have g1:(0:Int)<(l.length:Int):=by omega
    case' neg=>
     have hk1:0<k:=by omega
     clear hk0
    all_goals
     go_wp2_with fail
     go_quiet (fail)
     go_wp2
     go_roundw
     case rel=>exact ⟨_,d+nq,(show Value.int .i64 _=Value.int .i64 ((_+1:Nat):Int) by go_num),by omega,HP2,rfl⟩
     case measure=>simp [intOf];omega
   ·have hL2:ltB (tl (l[k]).1) (tl s)=false:=by simpa using hL
    have hbl:Op.bytesLess (l[k]).1.toList s.toList=false:=by rw [bytesLess_eq,tl_eq,tl_eq];exact hL2
    have hrk:(rcs l)[k]?=some (rc l[k]):=by simp [rcs,hlt]
    have htk:(l.take k).length=k:=by rw [List.length_take];omega
    have hfr:=hrd.front (k:=k)
    have hsl:=fun W'=>slice_frontR W' (some ⟨b,off,none⟩) l.length c k (by omega)
    by_cases he:l[k].1=s
    case' pos=>
     have HPUT:=Lib.hid (M.put_same (lt:=ltB) (r:=rc (s,t)) (x:=rc l[k]) (rcs l) k hp.out hrk hL2 (show tl (l[k]).1=tl s by rw [he]))
     have hq:((l[k]).1.toList==s.toList)=true:=by rw [he];simp
     have hs2:=fun W'=>slice_restR W' (some ⟨b,off,none⟩) l.length c (k+1) (by omega)
     simp only [Int.natCast_add,Int.natCast_one] at hs2
     have hct:=hrd.cut (k:=k+1) hlc
     have hdr:(l.drop (k+1)).length=l.length - (k+1):=by rw [List.length_drop]
    case' neg=>
     have HPUT:=Lib.hid (M.put_new (lt:=ltB) (r:=rc (s,t)) (rcs l) k (by rw [rcs_len];omega) hp.out (fun x hx=>by
      rw [hrk] at hx
      injection hx with hx
      subst hx
      exact ⟨hL2,fun e=>he (tl_inj e)⟩))
     have hq:((l[k]).1.toList==s.toList)=false:=by
      rw [beq_eq_false_iff_ne,tl_eq,tl_eq]
      exact fun e=>he (tl_inj e)
     have hs2:=fun W'=>slice_restR W' (some ⟨b,off,none⟩) l.length c k (by omega)
     have hct:=hrd.cut (k:=k) hlc
     have hdr:(l.drop k).length=l.length - k:=by rw [List.length_drop]
    all_goals
     have HTK:=Lib.hid htk
     have HDR:=Lib.hid hdr
     obtain ⟨r,hr⟩: ∃ r,l[k]=r:=⟨_,rfl⟩
     rw [hr] at hd1 hd2 hbl hq
     clear hL hL2 hrk he hr hp htk hdr
     by_cases hk0:k=0
     case' pos=>
      subst hk0
      simp only [Nat.zero_mul,Nat.add_zero] at hd1 hd2
      simp only [Int.natCast_zero,Int.zero_add,Nat.zero_add] at hsl hs2
      have g1:(0:Int)<(l.length:Int):=by omega
     case' neg=>
      have hk1:0<k:=by omega
      clear hk0
     all_goals
      go_wp2_with fail
      go_quiet (fail)
      go_wp2_with (at_builtin;refine wpList_appRs rfl (.tmp 23) (.tmp 26) rfl W1.heap.size (.slice none 0 0) [] (l.take _) rfl (OwnR.nil _ _) (Nat.le_refl _) (some ⟨b,off,none⟩) c (by rw [HTK.out];rfl) w.heap.size (hfr.drewN _) (by rw [HTK.out,List.length_nil];omega) ?_)
      intro v5 w5 a5 hE5 hn5 o5 hb5 _
      have hl5:a5.length≤l.length:=by rw [hE5.out];first|(simp;done)|(rw [List.nil_append,List.length_take];exact Nat.min_le_right _ _)|(rw [List.length_take];exact Nat.min_le_right _ _)
      have hl9:a5.length≤100000000:=by omega
      have hs5:W1.heap.size≤w5.heap.size:=hb5.size
      have hbx5:BoxR w5 w.heap.size s t:=BoxR.below (w:=W1.drewN _) hbx hb5 hbx.lt
      have y0:=hbx5.cell0
      have y1:=hbx5.cell1
      clear hn5
      go_wp2_with (at_builtin;refine wpList_appR rfl (.tmp 28) (.tmp 30) rfl W1.heap.size v5 a5 (s,t) rfl rfl rfl o5 hs5 rfl hl9 ?_)
      intro v6 w6 a6 hE6 hn6 o6 hb6 _
      have hl6:a6.length≤1048577:=by omega
      have b56:=hb5.trans hb6
      have hbx6:BoxR w6 w.heap.size s t:=hbx5.below hb6 hbx.lt
      have u0:=hbx6.cell0
      have u1:=hbx6.cell1
      have hbs:=hb.size
      have q1:=(show w6.cell? _=W1.cell? _ from b56.cell (by show b<_;omega)).trans hd1
      have hct6:=RdR.below (w:=W1.drewN _) (hct.drewN _) (b56.mono hbs)
      have hs6:W1.heap.size≤w6.heap.size:=b56.size
      clear hn6 y0 y1 hb6
      go_wp2_with fail
      go_quiet (fail)
      go_wp2_with (at_builtin;refine wpList_appRs rfl (.tmp 48) (.tmp 51) rfl W1.heap.size v6 a6 (l.drop _) rfl o6 hs6 _ _ (by rw [HDR.out];rfl) w.heap.size (hct6.drewN _) (by rw [HDR.out];omega) ?_)
      intro v7 w7 a7 hE7 hn7 o7 hb7 _
      have b7:=(below_drewN' hb _).trans (((below_drewN' b56 _).trans hb7).mono hbs)
      obtain ⟨A7,c7,rfl,hr7,hc7,hm7⟩:=o7.rd
      have HA7:=Lib.hid (show a7.length≤l.length+1 by rw [hE7.out,hE6.out,hE5.out];first|(simp;done)|(simp;omega))
      have HR7:=Lib.hid (show rcs a7=M.put ltB (rcs l) (rc (s,t)) by rw [HPUT.out,hE7.out,hE6.out,hE5.out];simp [rcs,List.map_take,List.map_drop])
      clear hn7
      go_wp2
      go_ret
      exact ⟨A7,c7,a7,rfl,HR7,hr7,HA7.out,hc7,b7⟩
  ·have hke:k=l.length:=by omega
   subst hke
   have HPUT:=Lib.hid (M.put_new (lt:=ltB) (r:=rc (s,t)) (rcs l) l.length (by rw [rcs_len];exact Nat.le_refl _) hp.out (fun x hx=>by
    rw [List.getElem?_eq_none (by rw [rcs_len];exact Nat.le_refl _)] at hx
    cases hx))
   have hfr:=hrd.front (k:=l.length)
   have HTK:=Lib.hid (show (l.take l.length).length=l.length by rw [List.take_length])
   have hsl:=fun W'=>slice_frontR W' A l.length c l.length hlc
   have hs2:=fun W'=>slice_restR W' A l.length c l.length (Nat.le_refl _)
   simp only [Nat.sub_self] at hs2
   clear hp hlt hk
   go_wp2_with fail
   go_quiet (fail)
   go_wp2_with (at_builtin;refine wpList_appRs rfl (.tmp 23) (.tmp 26) rfl W1.heap.size (.slice none 0 0) [] (l.take _) rfl (OwnR.nil _ _) (Nat.le_refl _) A c (by rw [HTK.out];rfl) w.heap.size (hfr.drewN _) (by rw [HTK.out,List.length_nil];omega) ?_)
   intro v5 w5 a5 hE5 hn5 o5 hb5 _
   have hl5:a5.length≤l.length:=by rw [hE5.out];simp
   have hl9:a5.length≤100000000:=by omega
   have hs5:W1.heap.size≤w5.heap.size:=hb5.size
   have hbx5:BoxR w5 w.heap.size s t:=BoxR.below (w:=W1.drewN _) hbx hb5 hbx.lt
   have y0:=hbx5.cell0
   have y1:=hbx5.cell1
   clear hn5
   go_wp2_with (at_builtin;refine wpList_appR rfl (.tmp 28) (.tmp 30) rfl W1.heap.size v5 a5 (s,t) rfl rfl rfl o5 hs5 rfl hl9 ?_)
   intro v6 w6 a6 hE6 hn6 o6 hb6 _
   have hl6:a6.length≤1048577:=by omega
   have b56:=hb5.trans hb6
   have hbs:=hb.size
   have hs6:W1.heap.size≤w6.heap.size:=b56.size
   clear hn6 y0 y1 hb6
   go_wp2_with fail
   go_quiet (fail)
   go_wp2_with (at_builtin;refine wpList_appRs rfl (.tmp 48) (.tmp 51) rfl W1.heap.size v6 a6 [] rfl o6 hs6 _ _ rfl w.heap.size (fun h=>absurd h (by simp)) (by rw [List.length_nil];omega) ?_)
   intro v7 w7 a7 hE7 hn7 o7 hb7 _
   have b7:=(below_drewN' hb _).trans (((below_drewN' b56 _).trans hb7).mono hbs)
   obtain ⟨A7,c7,rfl,hr7,hc7,hm7⟩:=o7.rd
   have HA7:=Lib.hid (show a7.length≤l.length+1 by rw [hE7.out,hE6.out,hE5.out];first|(simp;done)|(simp;omega))
   have HR7:=Lib.hid (show rcs a7=M.put ltB (rcs l) (rc (s,t)) by rw [HPUT.out,hE7.out,hE6.out,hE5.out];first|(simp [rcs,List.map_take,List.map_drop];done)|(rw [show rcs l=l.map rc from rfl,←List.map_take,←List.map_drop];simp [rcs]))
   clear hn7
   go_wp2
   go_ret
   exact ⟨A7,c7,a7,rfl,HR7,hr7,HA7.out,hc7,b7⟩
end Go.Proofs.YtjpmpjbembhldaaGreatDoor.Px
set_option linter.unusedVariables false
set_option linter.unusedSimpArgs false
namespace Go.Proofs.YtjpmpjbembhldaaGreatDoor.Px
open Go.RowKit Go.Shelf
theorem puts_take {l:List R2} {k:Nat} (hk:k<l.length) (a:List M.Rc):M.puts ltB a (rcs (l.take (k+1)))=M.put ltB (M.puts ltB a (rcs (l.take k))) (rc l[k]):=by
 rw [take_rcs_succ hk,M.puts_app];rfl
def AllAt (wr:World) (v:Value) (L:List M.Rc) (n:Nat):Prop:= ∃ A c rs,v= .slice A rs.length c∧RdR wr wr.heap.size A rs∧rcs rs=L∧rs.length≤n∧rs.length≤c
set_option maxRecDepth 100000 in
set_option maxHeartbeats 8000000 in
theorem refMerge_any (A1:Option Addr) (c1:Nat) (l:List R2) (A2:Option Addr) (c2:Nat) (m:List R2) (hl:l.length≤400000) (hm:m.length≤400000) (w:World) (h1:RdR w w.heap.size A1 l) (h2:RdR w w.heap.size A2 m):
  Calls Tryz.prog 33 #[.slice A1 l.length c1, .slice A2 m.length c2] w (fun e w'=> ∃ A c rs,e= .returned (.slice A rs.length c)∧RdR w' w'.heap.size A rs∧rs.length≤c∧c≤maxLen∧rcs rs=M.merge ltB (rcs l) (rcs m)∧rs.length≤l.length+m.length∧Below w.heap.size w w'):=by
 have HR1:=Lib.hid h1
 have HR2:=Lib.hid h2
 clear h1 h2
 go_enter Tryz.func33,Tryz.ntmps33
 go_wp2
 go_loopw [6,5] (fun i v wr=> ∃ k:Nat,i= .int .i64 k∧k≤l.length∧Hid (AllAt wr v (M.puts ltB [] (rcs (l.take k))) k)∧Below w.heap.size w wr) (fun i _ _=>l.length - (intOf i).toNat)
 case atStart=>exact ⟨0,rfl,Nat.zero_le _,Lib.hid ⟨none,0, [],rfl,RdR.none_,rfl,Nat.le_refl _,Nat.le_refl _⟩,Below.refl _ _⟩
 case round=>
  obtain ⟨k,rfl,hk,hall,hb⟩:=hrel
  have hbs:=hb.size
  by_cases hlt:k<l.length
  ·obtain ⟨A,c,rs,rfl,hr,hrs,hn,hc⟩:=hall.out
   obtain ⟨b,off,rfl,hbb,hd1,hd2⟩:=(HR1.out.below hb).at_ hlt
   have hpt:=puts_take hlt []
   obtain ⟨⟨s,t⟩,hr0⟩: ∃ r,l[k]=r:=⟨_,rfl⟩
   rw [hr0] at hd1 hd2 hpt
   dsimp only at hd1 hd2
   rw [←hrs] at hpt
   have HPT:=Lib.hid hpt
   have HC:=Lib.hid (put_any A c rs s t (by omega) hc wr hr)
   clear hall hr hrs hr0 hpt
   by_cases hk0:k=0
   case' pos=>
    subst hk0
    simp only [Nat.zero_mul,Nat.add_zero] at hd1 hd2
    have g1:(0:Int)<(l.length:Int):=by omega
   case' neg=>
    have hk1:0<k:=by omega
    clear hk0
   all_goals
    go_wp2_with fail
    refine HC.out.mono ?_
    rintro e w1 ⟨A',c',rs',rfl,hp',hr',hn',hc',hb'⟩
    have b1:=hb.trans (hb'.mono hbs)
    have HN:=Lib.hid (show AllAt w1 (.slice A' rs'.length c') (M.puts ltB [] (rcs (l.take (_+1)))) (_+1) from ⟨A',c',rs',rfl,hr',by rw [hp'.out];exact HPT.out.symm,Nat.le_trans hn' (Nat.add_le_add_right hn 1),hc'⟩)
    clear hr' hp' hb' hn'
    go_wp2
    go_roundw
    case rel=>exact ⟨_,(show Value.int .i64 _=Value.int .i64 ((_+1:Nat):Int) by go_num),by omega,HN,b1⟩
    case measure=>simp [intOf];omega
  ·have hke:k=l.length:=by omega
   subst hke
   have HA:=Lib.hid (show AllAt wr u5 (M.puts ltB [] (rcs l)) l.length by have:=hall.out;rwa [List.take_length] at this)
   have b2:=hb
   clear hall hb hbs hlt hk
   go_wp2
   go_loopw [7,5] (fun i v wr=> ∃ k:Nat,i= .int .i64 k∧k≤m.length∧Hid (AllAt wr v (M.puts ltB (M.puts ltB [] (rcs l)) (rcs (m.take k))) (l.length+k))∧Below w.heap.size w wr) (fun i _ _=>m.length - (intOf i).toNat)
   case atStart=>exact ⟨0,rfl,Nat.zero_le _,HA,b2⟩
   case round=>
    obtain ⟨k,rfl,hk,hall,hb⟩:=hrel
    have hbs:=hb.size
    by_cases hlt:k<m.length
    ·obtain ⟨A,c,rs,rfl,hr,hrs,hn,hc⟩:=hall.out
     obtain ⟨b,off,rfl,hbb,hd1,hd2⟩:=(HR2.out.below hb).at_ hlt
     have hpt:=puts_take hlt (M.puts ltB [] (rcs l))
     obtain ⟨⟨s,t⟩,hr0⟩: ∃ r,m[k]=r:=⟨_,rfl⟩
     rw [hr0] at hd1 hd2 hpt
     dsimp only at hd1 hd2
     rw [←hrs] at hpt
     have HPT:=Lib.hid hpt
     have HC:=Lib.hid (put_any A c rs s t (by omega) hc _ hr)
     have HNN:=Lib.hid hn
     clear hall hr hrs hr0 hpt hn
     by_cases hk0:k=0
     case' pos=>
      subst hk0
      simp only [Nat.zero_mul,Nat.add_zero] at hd1 hd2
      have g1:(0:Int)<(m.length:Int):=by omega
     case' neg=>
      have hk1:0<k:=by omega
      clear hk0
     all_goals
      go_wp2_with fail
      refine HC.out.mono ?_
      rintro e w1 ⟨A',c',rs',rfl,hp',hr',hn',hc',hb'⟩
      have b1:=hb.trans (hb'.mono hbs)
      have HN:=Lib.hid (show AllAt w1 (.slice A' rs'.length c') (M.puts ltB (M.puts ltB [] (rcs l)) (rcs (m.take (_+1)))) (l.length+(_+1)) from ⟨A',c',rs',rfl,hr',by rw [hp'.out];exact HPT.out.symm,Nat.le_trans hn' (Nat.add_le_add_right HNN.out 1),hc'⟩)
      clear hr' hp' hb' hn'
      go_wp2
      go_roundw
      case rel=>exact ⟨_,(show Value.int .i64 _=Value.int .i64 ((_+1:Nat):Int) by go_num),by omega,HN,b1⟩
      case measure=>simp [intOf];omega
    ·have hke:k=m.length:=by omega
     subst hke
     obtain ⟨A,c,all,rfl,hr,hrs,hn,hc⟩:=hall.out
     have HALL:=Lib.hid (show rcs all=M.puts ltB (M.puts ltB [] (rcs l)) (rcs m) by rw [List.take_length] at hrs;exact hrs)
     have HRA:=Lib.hid hr
     have b3:=hb
     have s3:=hbs
     clear hall hb hbs hlt hk hr hrs hc HA b2
     go_wp2
     go_loopw [9,8] (fun i v wy=> ∃ (k:Nat) (rs:List R2),i= .int .i64 k∧k≤all.length∧Hid (OwnR wy (World.heap wr).size v rs)∧Hid (rcs rs=((rcs all).take k).filter M.hasValue)∧rs.length≤k∧Below (World.heap wr).size wr wy) (fun i _ _=>all.length - (intOf i).toNat)
     case atStart=>exact ⟨0, [],rfl,Nat.zero_le _,Lib.hid (OwnR.nil _ _),Lib.hid rfl,Nat.zero_le _,Below.refl _ _⟩
     case round=>
      obtain ⟨k,rs,rfl,hk,hown,hrs,hrk,hb⟩:=hrel
      have hbs:=hb.size
      by_cases hlt:k<all.length
      ·obtain ⟨b,off,rfl,hbb,hd1,hd2⟩:=(HRA.out.below hb).at_ hlt
       have hkl:k<(rcs all).length:=by rw [rcs_len];exact hlt
       have htk:((rcs all).take (k+1)).filter M.hasValue=rcs rs++(if M.hasValue (rc all[k])=true then [rc all[k]] else []):=by
        rw [List.take_succ_eq_append_getElem hkl,List.filter_append,←hrs.out]
        congr 1
        have e:(rcs all)[k]=rc all[k]:=by simp [rcs]
        rw [e]
        cases hv:M.hasValue (rc all[k])<;>simp [hv]
       obtain ⟨⟨s,t⟩,hr0⟩: ∃ r,all[k]=r:=⟨_,rfl⟩
       rw [hr0] at hd1 hd2 htk
       dsimp only at hd1 hd2
       have hvt:M.hasValue (rc (s,t))= !t.toList.isEmpty:=by rw [tl_eq];rfl
       rw [hvt] at htk
       have HTK:=Lib.hid htk
       have hk9:rs.length≤100000000:=by omega
       clear htk hvt hr0 hrs hkl
       cases hE:t.toList.isEmpty with
       |true=>
        have hE2:(!t.toList.isEmpty)=false:=by rw [hE];rfl
        have HN:=Lib.hid (show rcs rs=((rcs all).take (k+1)).filter M.hasValue by rw [HTK.out,hE2];simp)
        clear HTK hE
        by_cases hk0:k=0
        case' pos=>
         subst hk0
         simp only [Nat.zero_mul,Nat.add_zero] at hd1 hd2
         have g1:(0:Int)<(all.length:Int):=by omega
        case' neg=>
         have hk1:0<k:=by omega
         clear hk0
        all_goals
         go_wp2
         go_roundw
         case rel=>exact ⟨_,rs,(show Value.int .i64 _=Value.int .i64 ((_+1:Nat):Int) by go_num),by omega,hown,HN,by omega,hb⟩
         case measure=>simp [intOf];omega
       |false=>
        have hE2:(!t.toList.isEmpty)=true:=by rw [hE];rfl
        have HN:=Lib.hid (show ((rcs all).take (k+1)).filter M.hasValue=rcs (rs++ [(s,t)]) by rw [HTK.out,hE2,rcs_app];rfl)
        clear HTK hE
        by_cases hk0:k=0
        case' pos=>
         subst hk0
         simp only [Nat.zero_mul,Nat.add_zero] at hd1 hd2
         have g1:(0:Int)<(all.length:Int):=by omega
        case' neg=>
         have hk1:0<k:=by omega
         clear hk0
        all_goals
         go_wp2_with (at_builtin;refine wpList_appR rfl (.tmp 46) (.tmp 51) rfl _ u8 rs (s,t) rfl rfl rfl hown.out hbs rfl hk9 ?_)
         intro v6 w6 rs' HRS' hn6 o6 hb7 _
         have b6:=hb.trans hb7
         have HN2:=Lib.hid ((congrArg rcs HRS'.out).trans HN.out.symm)
         have HO6:=Lib.hid o6
         clear hb7 HRS' o6
         go_wp2
         go_roundw
         case rel=>exact ⟨_,rs',(show Value.int .i64 _=Value.int .i64 ((_+1:Nat):Int) by go_num),by omega,HO6,HN2,by omega,b6⟩
         case measure=>simp [intOf];omega
      ·have hke:k=all.length:=by omega
       subst hke
       have HRS:=Lib.hid (show rcs rs=M.merge ltB (rcs l) (rcs m) by
        have:=hrs.out
        rw [←rcs_len,List.take_length,HALL.out] at this
        exact this)
       obtain ⟨A7,c7,rfl,hr7,hc7,hm7⟩:=hown.out.rd
       have HR7:=Lib.hid hr7
       clear hown hr7 hrs hlt hk
       go_wp2
       go_ret
       exact ⟨A7,c7,rs,rfl,HR7.out,hc7,hm7,HRS.out,by omega,b3.trans (hb.mono s3)⟩
end Go.Proofs.YtjpmpjbembhldaaGreatDoor.Px
