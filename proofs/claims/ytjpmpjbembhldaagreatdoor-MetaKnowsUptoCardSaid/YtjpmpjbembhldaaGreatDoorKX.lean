import Derived.Test.YtjpmpjbembhldaaGreatDoorKXa
import Derived.Test.YtjpmpjbembhldaaGreatDoorIterLaw
import Derived.Test.YtjpmpjbembhldaaGreatDoorShelf
import Derived.Laws.RangeString
import Derived.Laws.RangeAny
import Derived.LoopTactic
import Derived.Lib.Bytealg
import Derived.Lib.AppendIntMem
import Derived.Lib.ItoaMem
import Derived.Deep.QuietTactic
import Derived.BigQuiet
import Derived.IntWalk
import Derived.Laws.StructEq
import Derived.RegionTactic
import Derived.ChangeAlike
import Derived.Test.YtjpmpjbembhldaaGreatDoorPaxIter
import Derived.Carry
set_option linter.unusedVariables false
set_option linter.unusedSimpArgs false
namespace Go.Proofs.YtjpmpjbembhldaaGreatDoor.Px
open Go.RowKit Go.Shelf
def IterK {α:Type} (P:Program) (g:Nat) (lb:Array Value) (encs:α→Array Value) (pv:Nat→Prop) (c:Nat) (S Sp R:List α→Prop) (ok Kp:World→Prop):Prop:=
 ∀ (n l:Nat) (J Jx:List α→World→Prop) (W:World),ok W→
   (∀ s A B,J s A→Turned (ownOf pv c W) A B→J s B)→(∀ s A B,Jx s A→Turned (ownOf pv c W) A B→Jx s B)→
   (∀ m pre x W1,J pre W1→W.heap.size+c≤W1.heap.size→R (pre++ [x])→YieldAt Fence.wide m P l (encs x) W1 fun e W'=>
    Spared (ownOf pv c W) W1 W'∧((e= .returned (.bool true)∧J (pre++ [x]) W')∨(e= .returned (.bool false)∧Jx (pre++ [x]) W')))→
   (∀ s A,J s A→Kp A)→
   J [] W→
   CallsIn Fence.wide n P g (#[.func (.yield l) #[] #[]]++lb) W fun e W'=>(∃ v,e= .returned v)∧((∃ xs,S xs∧J xs W')∨(∃ pre,Sp pre∧Jx pre W'))
variable {P:Program}
theorem wpIn_rangeK {α:Type} {g:Operand} {ps:Array Tmp} {assign body:Code} {Q:Exit→Act→World→Prop} {a:Act} {w:World} {n:Nat}
  {gf:Nat} {lb:Array Value} (hg:a.eval g= .func (.func gf) #[] lb) (eg: ∀ args w,(callFunc gf args).run P w= .ok (.enter gf args) w)
  {encs:α→Array Value} {pv:Nat→Prop} {c:Nat} {S Sp R:List α→Prop} {ok Kp:World→Prop} (hseq:IterK P gf lb encs pv c S Sp R ok Kp)
  (hok: ∀ o1 o2,ok ((w.alloc o1).alloc o2)) (hpv: ∀ k,pv k→k<w.heap.size) (hps: ∀ x,(encs x).size=ps.size)
  (I:List α→World→Prop) (Ix:Code→List α→World→Prop) (hI: ∀ s A B,I s A→Turned (ownOf pv (c+2) w) A B→I s B) (hIx: ∀ j s A B,Ix j s A→Turned (ownOf pv (c+2) w) A B→Ix j s B)
  (hKp: ∀ s A,I s A→Kp A) (h0:I [] w)
  (hround: ∀ (pre:List α) (x:α) (W:World),I pre W→w.heap.size+(c+2)≤W.heap.size→R (pre++ [x])→ ∃ (a₁:Act) (Wa:World),Spared (ownOf pv (c+2) w) W Wa∧ ∀ (l m:Nat),
   (∀ K:Act→World→Prop,K a₁ Wa→assign.wpIn (Fence.wide.inRound l) m P (Exit.then K (fun _ _ _=>False)) { tmps:=(ps.zip (encs x)).foldl (fun t (p,v)=>t.setIfInBounds p v) a.tmps,defers:= [] } W)∧
   ∀ o,body.wpIn (Fence.wide.inRound l) m P (roundEnd (ownOf pv (c+2) w) I Ix (pre++ [x]) (Wa.putObj (w.heap.size+1) o)) a₁ (Wa.putObj (w.heap.size+1) o))
  (hdone: ∀ (xs:List α) (W:World),S xs→I xs W→w.heap.size+2≤W.heap.size→W.heap[w.heap.size]?=some (.deferred (some []))→Q .normal { a with defers:= { target:= .collected w.heap.size,args:= #[] } ::a.defers } W)
  (hstop: ∀ (j:Code) (pre:List α) (W:World),Sp pre→Ix j pre W→w.heap.size+2≤W.heap.size→W.heap[w.heap.size]?=some (.deferred (some []))→j.wpIn Fence.wide n P Q { a with defers:= { target:= .collected w.heap.size,args:= #[] } ::a.defers } W):
  (Code.rangeFunc g ps assign body).wpIn Fence.wide n P Q a w:=by
 refine wpIn_rangeFunc ?_
 intro fn hfn
 rw [show Fence.wide.round=none from rfl]
 obtain ⟨rec,hrec⟩: ∃ rec:LoopState→Option Code→Loop,rec=fun st pe=> { state:=st,pending:=pe,fn,tmps:=a.tmps,params:=ps,assign,body,defers:=w.heap.size } :=⟨_,rfl⟩
 obtain ⟨W1,hW1⟩: ∃ W1,(w.alloc (.deferred (some []))).alloc (.loop (rec .ready none))=W1:=⟨_,rfl⟩
 have hs1:W1.heap.size=w.heap.size+2:=by rw [←hW1];simp
 have hL1:W1.heap[w.heap.size+1]?=some (.loop (rec .ready none)):=by
  rw [←hW1];have:=World.alloc_heap_new (w.alloc (.deferred (some []))) (.loop (rec .ready none));rwa [World.size_alloc] at this
 have hK1:W1.heap[w.heap.size]?=some (.deferred (some [])):=by
  rw [←hW1];exact (Below.heap_alloc _ _ _ (by simp)).trans (World.alloc_heap_new w _)
 have hI1:I [] W1:=by rw [←hW1];exact hI _ _ _ (hI _ _ _ h0 (Turned.alloc _ _ _)) (Turned.alloc _ _ _)
 have hown: ∀ k,ownOf pv c W1 k→ownOf pv (c+2) w k:=fun k hk=>by
  rcases hk with hk|hk
  ·exact .inl hk
  ·exact .inr ⟨by omega,by omega⟩
 have hnL: ¬ ownOf pv c W1 (w.heap.size+1):=fun hk=>by
  rcases hk with hk|hk
  ·have:=hpv _ hk;omega
  ·omega
 have hnK: ¬ ownOf pv c W1 w.heap.size:=fun hk=>by
  rcases hk with hk|hk
  ·have:=hpv _ hk;omega
  ·omega
 have hoL:ownOf pv (c+2) w (w.heap.size+1):= .inr ⟨by omega,by omega⟩
 have hoK:ownOf pv (c+2) w w.heap.size:= .inr ⟨by omega,by omega⟩
 refine ⟨w.heap.size+1, [{ target:= .collected w.heap.size,args:= #[] }],W1, { target:= .fn (.func gf) lb,args:= #[.func (.yield (w.heap.size+1)) #[] #[]] },W1,gf,
  #[.func (.yield (w.heap.size+1)) #[] #[]]++lb,W1, ?_, ?_, ?_, ?_,fun h=>by simp [Fence.wide] at h, ?_⟩
 ·rw [←hW1,hrec];exact run_enterLoop_outer _ _ _ _ _
 ·simp only [resolve,hg]
  simp [go_sem]
 ·intro f' hf';trivial
 ·simp [invoke,go_sem,eg]
 ·refine (hseq (n - 1) (w.heap.size+1)
   (fun pre W=>I pre W∧W.heap[w.heap.size+1]?=some (.loop (rec .ready none))∧W.heap[w.heap.size]?=some (.deferred (some [])))
   (fun pre W=> ∃ j,Ix j pre W∧W.heap[w.heap.size+1]?=some (.loop (rec .done (some j)))∧W.heap[w.heap.size]?=some (.deferred (some [])))
   W1 (by rw [←hW1];exact hok _ _)
   (fun s A B hs ht=>by
    obtain ⟨hi,hl,hk⟩:=hs
    exact ⟨hI _ _ _ hi (ht.mono hown),(ht.block _ (Array.getElem?_eq_some_iff.1 hl).1 hnL).trans hl,(ht.block _ (Array.getElem?_eq_some_iff.1 hk).1 hnK).trans hk⟩)
   (fun s A B hs ht=>by
    obtain ⟨j,hi,hl,hk⟩:=hs
    exact ⟨j,hIx _ _ _ _ hi (ht.mono hown),(ht.block _ (Array.getElem?_eq_some_iff.1 hl).1 hnL).trans hl,(ht.block _ (Array.getElem?_eq_some_iff.1 hk).1 hnK).trans hk⟩)
   ?_ (fun s A h=>hKp _ _ h.1) ⟨hI1,hL1,hK1⟩).mono ?_
  ·rintro m pre x W ⟨hi,hl,hk⟩ hsz hlen
   have hlt:w.heap.size+1<W.heap.size:=(Array.getElem?_eq_some_iff.1 hl).1
   have hy:=run_yield (P:=P) (args:=encs x) hl (by rw [hrec];exact hps x)
   rw [hrec] at hy
   obtain ⟨a₁,Wa,hsa,hrnd⟩:=hround pre x W hi (by omega) hlen
   have hla:=(hsa.block _ hoL hlt).trans hl
   have hka:=(hsa.block _ hoK (by omega)).trans hk
   have hlta:w.heap.size+1<Wa.heap.size:=Nat.lt_of_lt_of_le hlt hsa.size
   refine ⟨fn,_,assign,body,hy,roundIn_of_wpIn hfn ((hrnd _ _).1 _ ⟨_,run_beginRound hla (by rw [hrec]), ?_⟩)⟩
   have hl2:(Wa.putObj (w.heap.size+1) (.loop { rec .ready none with state:= .busy })).heap[w.heap.size+1]?=some (.loop { rec .ready none with state:= .busy }):=World.putObj_heap_same hlta
   have hk2:(Wa.putObj (w.heap.size+1) (.loop { rec .ready none with state:= .busy })).heap[w.heap.size]?=some (.deferred (some [])):=(World.putObj_heap_other (by omega)).trans hka
   refine wpIn_mono ((hrnd _ _).2 _) ?_
   have fin: ∀ (jump:Option Code) (W3:World),Spared (ownOf pv (c+2) w) (Wa.putObj (w.heap.size+1) (.loop { rec .ready none with state:= .busy })) W3→
     (Instr.endRound (w.heap.size+1) jump).run P W3= .ok (.bool jump.isNone) (W3.putObj (w.heap.size+1) (.loop (rec (if jump.isNone then .ready else .done) jump)))∧
     (W3.putObj (w.heap.size+1) (.loop (rec (if jump.isNone then .ready else .done) jump))).heap[w.heap.size+1]?=some (.loop (rec (if jump.isNone then .ready else .done) jump))∧
     (W3.putObj (w.heap.size+1) (.loop (rec (if jump.isNone then .ready else .done) jump))).heap[w.heap.size]?=some (.deferred (some []))∧
     Spared (ownOf pv c W1) W (W3.putObj (w.heap.size+1) (.loop (rec (if jump.isNone then .ready else .done) jump))):=fun jump W3 hk3=>by
    have hl3:=(hk3.block _ hoL (by rw [World.putObj_size];omega)).trans hl2
    have:=run_endRound (P:=P) jump hl3
    rw [hrec] at this⊢
    refine ⟨this,World.putObj_heap_same (Array.getElem?_eq_some_iff.1 hl3).1,(World.putObj_heap_other (by omega)).trans ((hk3.block _ hoK (by rw [World.putObj_size];omega)).trans hk2), ?_⟩
    refine ⟨by have:=hk3.size;simp only [World.putObj_size] at this⊢;exact Nat.le_trans hsa.size this,fun k ho hki=> ?_⟩
    have hne:k≠w.heap.size+1:=fun e=>hnL (e▸ho)
    exact (World.putObj_heap_other hne).trans ((hk3.block k (hown k ho) (by rw [World.putObj_size];exact Nat.lt_of_lt_of_le hki hsa.size)).trans ((World.putObj_heap_other hne).trans (hsa.block k (hown k ho) hki)))
   rintro e a3 W3 hp
   cases e with
   |normal=>
    obtain ⟨hk3,hi3⟩:=hp
    obtain ⟨hr,hl4,hk4,hkp⟩:=fin none W3 hk3
    exact ⟨_,_,hr,hkp, .inl ⟨rfl,hI _ _ _ hi3 (.putObj hoL _ _),hl4,hk4⟩⟩
   |ret=>
    obtain ⟨hk3,hi3⟩:=hp
    obtain ⟨hr,hl4,hk4,hkp⟩:=fin (some .ret) W3 hk3
    exact ⟨_,_,hr,hkp, .inr ⟨rfl, .ret,hIx _ _ _ _ hi3 (.putObj hoL _ _),hl4,hk4⟩⟩
   |exit id=>
    obtain ⟨hk3,hi3⟩:=hp
    obtain ⟨hr,hl4,hk4,hkp⟩:=fin (some (.exit id)) W3 hk3
    exact ⟨_,_,hr,hkp, .inr ⟨rfl, .exit id,hIx _ _ _ _ hi3 (.putObj hoL _ _),hl4,hk4⟩⟩
   |goto t=>
    obtain ⟨hk3,hi3⟩:=hp
    obtain ⟨hr,hl4,hk4,hkp⟩:=fin (some (.goto t)) W3 hk3
    exact ⟨_,_,hr,hkp, .inr ⟨rfl, .goto t,hIx _ _ _ _ hi3 (.putObj hoL _ _),hl4,hk4⟩⟩
   |panic ch=>exact hp.elim
   |outgrown=>exact hp.elim
  ·rintro e W2 ⟨⟨v,rfl⟩,(⟨xs,hS,hi,hl,hk⟩|⟨pre,hSp,j,hi,hl,hk⟩)⟩
   ·have hz:w.heap.size+2≤W2.heap.size:=by have:=(Array.getElem?_eq_some_iff.1 hl).1;omega
    exact ⟨none,_,by have:=run_endLoop (P:=P) hl (by rw [hrec];simp);rw [hrec] at this;exact this,hdone xs _ hS (hI _ _ _ hi (.putObj hoL _ _)) (by rw [World.putObj_size];exact hz) ((World.putObj_heap_other (by omega)).trans hk)⟩
   ·have hz:w.heap.size+2≤W2.heap.size:=by have:=(Array.getElem?_eq_some_iff.1 hl).1;omega
    exact ⟨some j,_,by have:=run_endLoop (P:=P) hl (by rw [hrec];simp);rw [hrec] at this;exact this,hstop j pre _ hSp (hIx _ _ _ _ hi (.putObj hoL _ _)) (by rw [World.putObj_size];exact hz) ((World.putObj_heap_other (by omega)).trans hk)⟩
end Go.Proofs.YtjpmpjbembhldaaGreatDoor.Px
namespace Go.Proofs.YtjpmpjbembhldaaGreatDoor.Px
open Go.RowKit Go.Shelf
theorem all_not {p:UInt8→Bool} {l:List UInt8} {k:Nat} (hk:k<l.length) (h:p l[k]=false):l.all p=false:=by
 rw [List.all_eq_false]
 exact ⟨l[k],List.getElem_mem hk,by rw [h];decide⟩
theorem all_take_succ {p:UInt8→Bool} {l:List UInt8} {k:Nat} (hk:k<l.length) (h:(l.take k).all p=true) (h2:p l[k]=true):(l.take (k+1)).all p=true:=by
 rw [List.take_succ_eq_append_getElem hk,List.all_append,h,Bool.true_and,List.all_cons,h2,List.all_nil];rfl
theorem keyOk_iff (c:UInt8):M.keyOk c=true↔33≤c.toNat∧c.toNat≤126∧c.toNat≠61:=by
 unfold M.keyOk
 simp [and_assoc]
theorem right_no_key {s t:ByteArray} (h:(tl s).all M.keyOk=false):M.right (rc (s,t))=false:=by
 unfold M.right rc;dsimp only;rw [h];rfl
theorem right_keys {s t:ByteArray} (h:(tl s).all M.keyOk=true):M.right (rc (s,t))=((tl t).all (fun c=> !(c==0))&& !(tl s).isEmpty):=by
 unfold M.right rc;dsimp only;rw [h];rfl
theorem decode_low (s:ByteArray) (pos:Nat) (h:pos<s.size) (hb:(s[pos]'h).toNat<128):Utf8.decode s pos=((s[pos]'h).toNat,1):=by
 unfold Utf8.decode
 simp only [get_at s pos h,if_pos hb]
theorem at_tl (s:ByteArray) (k:Nat) (h:k<s.size):(tl s)[k]'h=s[k]'h:=rfl
theorem indexByte_all: ∀ (l:List UInt8),(Lib.indexByte l 0= -1∧l.all (fun c=> !(c==0))=true)∨(0≤Lib.indexByte l 0∧l.all (fun c=> !(c==0))=false)
 | []=> .inl ⟨rfl,rfl⟩
 |b::l=>by
  have e:Lib.indexByte (b::l) 0=if b==0 then 0 else if Lib.indexByte l 0== -1 then -1 else Lib.indexByte l 0+1:=rfl
  rw [e,List.all_cons]
  clear e
  cases hb:(b==0) with
  |true=>exact .inr ⟨by simp,rfl⟩
  |false=>
   rcases indexByte_all l with ⟨h1,h2⟩|⟨h1,h2⟩
   ·rw [h1,h2];exact .inl ⟨rfl,rfl⟩
   ·rw [h2]
    have h3:(Lib.indexByte l 0== -1)=false:=by simp;omega
    rw [h3]
    exact .inr ⟨by simp;omega,by simp⟩
theorem riterPos (w:World) (o:Obj) (s:ByteArray) (p:Nat):((w.alloc o).iter s p).iterPos (w.heap.size+1)=p:=by
 have:=World.iterPos_iter (w.alloc o) s p
 rwa [World.size_alloc] at this
theorem riter_cell (w:World) (s t:ByteArray) (p j:Nat):((w.alloc (.cells #[.string s, .string t] 29)).iter s p).cell? ⟨w.heap.size,j,none⟩=(#[Value.string s, .string t]:Array Value)[j]?:=by
 unfold World.iter
 rw [World.cell?_alloc_lt _ _ _ (by simp)]
 exact cell_of_row _ _ _ _ _ _ (heap_alloc_new w _)
theorem rbelow_iter (w:World) (o:Obj) (s:ByteArray) (pos:Nat):Below w.heap.size w ((w.alloc o).iter s pos):=((Below.refl _ w).alloc (Nat.le_refl _) _).alloc (by simp) _
set_option maxRecDepth 100000 in
set_option maxHeartbeats 1000000 in
theorem right_any' (s t:ByteArray) (w:World):
  Calls Tryz.prog 67 #[.agg #[.string s, .string t]] w fun e w'=>e= .returned (.bool (M.right (rc (s,t))))∧Below w.heap.size w w':=by
 have HI:=Lib.hid (indexByte_all (tl t))
 go_enter Tryz.func67,Tryz.ntmps67
 go_wp2
 go_loopw [4] (fun _ w'=> ∃ pos:Nat,w'=(w.alloc (.cells #[.string s, .string t] 29)).iter s pos∧pos≤s.size∧((tl s).take pos).all M.keyOk=true) (fun _ w'=>s.size - w'.iterPos (w.heap.size+1))
 case atStart=>exact ⟨0,rfl,Nat.zero_le _,rfl⟩
 case round=>
  obtain ⟨pos,rfl,hle,hu⟩:=hrel
  have hbel:=rbelow_iter w (.cells #[.string s, .string t] 29) s
  by_cases hp:pos<s.size
  ·have hnx:=fun ty=>run_next_any (P:=Tryz.prog) (w.alloc (.cells #[.string s, .string t] 29)) s pos ty hp
   simp only [World.size_alloc] at hnx
   by_cases hb:(s[pos]'hp).toNat<128
   ·simp only [decode_low s pos hp hb] at hnx
    by_cases hk:M.keyOk ((tl s)[pos]'hp)=true
    ·have hs:=all_take_succ hp hu hk
     rw [keyOk_iff,at_tl] at hk
     obtain ⟨k1,k2,k3⟩:=hk
     have HS:=Lib.hid hs
     have e1:decide (((s[pos]'hp).toNat:Int)<33)=false:=by rw [decide_eq_false_iff_not];omega
     have e2:decide (((s[pos]'hp).toNat:Int)>126)=false:=by rw [decide_eq_false_iff_not];omega
     have e3:(((s[pos]'hp).toNat:Int)==61)=false:=by simp;omega
     clear hs hu
     go_wp2
     refine ⟨⟨pos+1,rfl,by omega,HS.out⟩, ?_⟩
     simp only [riterPos];omega
    ·have hk':M.keyOk ((tl s)[pos]'hp)=false:=by simpa using hk
     have hf:=right_no_key (t:=t) (all_not hp hk')
     rw [keyOk_iff,at_tl] at hk
     have HF:=Lib.hid hf
     clear hf hk' hu
     by_cases c1:(s[pos]'hp).toNat<33
     ·have e1:decide (((s[pos]'hp).toNat:Int)<33)=true:=by rw [decide_eq_true_eq];omega
      clear hk
      go_wp2
      go_ret
      exact ⟨ret_bool HF.out.symm,hbel _⟩
     ·have e1:decide (((s[pos]'hp).toNat:Int)<33)=false:=by rw [decide_eq_false_iff_not];omega
      by_cases c2:126<(s[pos]'hp).toNat
      ·have e2:decide (((s[pos]'hp).toNat:Int)>126)=true:=by rw [decide_eq_true_eq];omega
       clear hk
       go_wp2
       go_ret
       exact ⟨ret_bool HF.out.symm,hbel _⟩
      ·have e2:decide (((s[pos]'hp).toNat:Int)>126)=false:=by rw [decide_eq_false_iff_not];omega
       have e3:(((s[pos]'hp).toNat:Int)==61)=true:=by simp;omega
       clear hk
       go_wp2
       go_ret
       exact ⟨ret_bool HF.out.symm,hbel _⟩
   ·have hh:=(decode_high s pos hp (by omega)).1
    have hl:=decode_le s pos
    have hk':M.keyOk ((tl s)[pos]'hp)=false:=by
     rw [←Bool.not_eq_true,keyOk_iff,at_tl];omega
    have HF:=Lib.hid (right_no_key (t:=t) (all_not hp hk'))
    clear hk' hu
    generalize (Utf8.decode s pos).1=c at*
    generalize (Utf8.decode s pos).2=n at*
    have e1:decide ((c:Int)<33)=false:=by rw [decide_eq_false_iff_not];omega
    have e2:decide ((c:Int)>126)=true:=by rw [decide_eq_true_eq];omega
    go_wp2
    go_ret
    exact ⟨ret_bool HF.out.symm,hbel _⟩
  ·have hnx: ∀ ty,(Instr.next (.pointer (some ⟨w.heap.size+1,0,none⟩)) true ty).run Tryz.prog ((w.alloc (.cells #[.string s, .string t] 29)).iter s pos)=_:=fun ty=>by
    have:=run_next_end (P:=Tryz.prog) (w.alloc (.cells #[.string s, .string t] 29)) s pos ty hp
    simp only [World.size_alloc] at this
    exact this
   have hall:(tl s).all M.keyOk=true:=by
    rw [List.take_of_length_le (by rw [tl_len];omega)] at hu;exact hu
   have hr:=right_keys (t:=t) hall
   have hc1:=riter_cell w s t pos 1
   have hc0:=riter_cell w s t pos 0
   simp only [List.getElem?_toArray,List.getElem?_cons_zero,List.getElem?_cons_succ] at hc0 hc1
   by_cases h0:tl s= []
   ·obtain rfl:s=⟨#[]⟩:=tl_inj (by rw [h0];rfl)
    have hr2:M.right (rc ((⟨#[]⟩:ByteArray),t))=false:=by rw [hr];simp [tl]
    have HF:=Lib.hid hr2
    clear hr hr2 hall hu h0
    go_wp2
    go_ret
    exact ⟨ret_bool HF.out.symm,hbel _⟩
   ·have hne:(tl s).isEmpty=false:=by simpa using h0
    have hne2:(!s.toList.isEmpty)=true:=by
     rw [tl_eq,hne];rfl
    rw [hne] at hr
    rcases HI.out with ⟨h1,h2⟩|⟨h1,h2⟩
    ·rw [h2] at hr
     have HF:=Lib.hid hr
     have HX:=Lib.hid h1
     clear hr hall hu h0 hne h1 h2
     go_wp2_with (go_at_call 112;refine (Tryz.strings_IndexByte _ _ _).mono ?_;rintro e w' ⟨rfl,rfl⟩;rw [show Lib.indexByte t.data.toList (0:Int).toNat.toUInt8= -1 from HX.out])
     go_ret
     exact ⟨ret_bool HF.out.symm,hbel _⟩
    ·rw [h2] at hr
     have HF:=Lib.hid hr
     have hd:decide (Lib.indexByte t.data.toList (0:Int).toNat.toUInt8<0)=false:=by rw [decide_eq_false_iff_not];show ¬ Lib.indexByte (tl t) 0<0;omega
     obtain ⟨z,hz⟩: ∃ z,Lib.indexByte t.data.toList (0:Int).toNat.toUInt8=z:=⟨_,rfl⟩
     rw [hz] at hd
     have HZ:=Lib.hid hz
     clear hr hall hu h0 hne h1 h2 hz
     go_wp2_with (go_at_call 112;refine (Tryz.strings_IndexByte _ _ _).mono ?_;rintro e w' ⟨rfl,rfl⟩;rw [HZ.out])
     go_ret
     exact ⟨ret_bool HF.out.symm,hbel _⟩
end Go.Proofs.YtjpmpjbembhldaaGreatDoor.Px
namespace Go.Proofs.YtjpmpjbembhldaaGreatDoor.Px
open Go.RowKit Go.Shelf
def TB (B:Nat) (w:World):Prop:=Lib.TabBelow Tryz.prog B w "internal/strconv.uint64pow10" .u64 Lib.pow10Tab
theorem TB.on {B:Nat} {w w':World} (h:TB B w) (hb:Below B w w'):TB B w':=Lib.TabBelow.on h hb
namespace M
theorem wid_less {L d:Nat} (h1:1≤d) (h2:d<wid L):10^d≤L+d:=by
 have h8:d<8:=by
  refine Nat.lt_of_lt_of_le h2 ?_
  unfold wid
  repeat' split
  all_goals omega
 have:d=1∨d=2∨d=3∨d=4∨d=5∨d=6∨d=7:=by omega
 unfold wid at h2
 rcases this with rfl|rfl|rfl|rfl|rfl|rfl|rfl
 all_goals
  repeat' split at h2
  all_goals omega
theorem wid_more {L d:Nat} (h1:1≤d) (h2:d<wid L):d<Lib.nDigits (L+d):=nDigits_ge (wid_less h1 h2)
theorem wid_pos (L:Nat):1≤wid L∧wid L≤8:=by
 unfold wid
 repeat' split
 all_goals omega
end M
def DecIs (n:Nat) (w:World) (e:Ending) (w':World):Prop:= ∃ s:ByteArray,e= .returned (.string s)∧tl s=Lib.decDigits n∧s.size=Lib.nDigits n∧Below w.heap.size w w'
theorem itoa_any (n:Nat) (hn:n≤9223372036854775807) (B:Nat) (w:World) (ht:TB B w):
  Calls Tryz.prog 23 #[.int .i64 n] w (DecIs n w):=by
 refine (Tryz.strconv_Itoa (n:Int) (by omega) (by omega) w ht.here).mono ?_
 rintro e w' ⟨rfl,k,os,rfl⟩
 refine ⟨_,rfl, ?_, ?_,Lib.below_grow _ _ (Nat.le_refl _) _ _⟩
 ·rw [tl_mk,Lib.itoa_nonneg]
 ·show (Lib.itoa (n:Int)).toArray.size=_
  rw [Lib.itoa_nonneg,List.size_toArray,Lib.decDigits_length]
set_option maxRecDepth 100000 in
set_option maxHeartbeats 1000000 in
theorem width_any (r:R2) (hr:r.1.size+r.2.size≤10000000) (B:Nat) (w:World) (hB:B≤w.heap.size) (ht:TB B w):
  Calls Tryz.prog 68 #[.agg #[.string r.1, .string r.2]] w fun e w'=>e= .returned (.int .i64 (M.lineLen (rc r)))∧Below w.heap.size w w':=by
 obtain ⟨s,t⟩:=r
 dsimp only at hr⊢
 obtain ⟨L,hL⟩: ∃ L,L=s.size+t.size+3:=⟨_,rfl⟩
 have hbl:(M.body (rc (s,t))).length=L:=by rw [M.body_length];show s.size+t.size+3=L;omega
 have hll:M.lineLen (rc (s,t))=L+M.wid L:=by unfold M.lineLen;rw [hbl]
 rw [hll]
 have hw:=M.wid_pos L
 have hL2:L≤10000003:=by omega
 have hspec:=M.wid_spec (L:=L) (by omega)
 have HS:=Lib.hid hspec
 have HT:=Lib.hid ht
 have hsum:(3:Int)+(s.size:Int)+(t.size:Int)=(L:Int):=by omega
 have HSUM:=Lib.hid hsum
 clear hspec hsum hL hbl hll ht
 go_enter Tryz.func68,Tryz.ntmps68
 go_wp2
 rw [HSUM.out]
 go_loopw [4] (fun d wr=> ∃ dn:Nat,d= .int .i64 dn∧1≤dn∧dn≤M.wid L∧Below w.heap.size w wr) (fun d _=>M.wid L - (intOf d).toNat)
 case atStart=>exact ⟨1,rfl,Nat.le_refl _,hw.1,(Below.refl _ w).alloc (Nat.le_refl _) _⟩
 case round=>
  obtain ⟨d,rfl,hd1,hd2,hb⟩:=hrel
  have hbs:=hb.size
  have C:=fun (B':Nat) (w':World) (h2:TB B' w')=>itoa_any (L+d) (by omega) B' w' h2
  have e:((L+d:Nat):Int)=(L:Int)+(d:Int):=by omega
  rw [e] at C
  have HC:=Lib.hid (C B wr (HT.out.on (hb.mono hB)))
  clear C e
  rcases Nat.lt_or_ge d (M.wid L) with hlt|hge
  ·have hm:=M.wid_more hd1 hlt
   go_wp2_with (go_at_call 23;refine HC.out.mono ?_;rintro e w1 ⟨x,rfl,hx,hxs,hb1⟩;(have hxs2:d<x.size:=by rw [hxs];exact hm);clear hx hxs)
   go_roundw
   case rel=>exact ⟨d+1,by go_num,by omega,by omega,hb.trans (hb1.mono hbs)⟩
   case measure=>simp [intOf];omega
  ·obtain rfl:d=M.wid L:=by omega
   have h3:=HS.out.2.2.1
   have H3:=Lib.hid h3
   clear h3
   go_wp2_with (go_at_call 23;refine HC.out.mono ?_;rintro e w1 ⟨x,rfl,hx,hxs,hb1⟩;(have hxs2:x.size≤M.wid L:=by rw [hxs,H3.out];exact Nat.le_refl _);clear hx hxs)
   go_ret
   exact ⟨ret_int (by omega),hb.trans (hb1.mono hbs)⟩
end Go.Proofs.YtjpmpjbembhldaaGreatDoor.Px
namespace Go.Proofs.YtjpmpjbembhldaaGreatDoor.Px
open Go.RowKit Go.Shelf
theorem right_no_value {s t:ByteArray} (h:(tl t).all (fun c=> !(c==0))=false):M.right (rc (s,t))=false:=by
 unfold M.right rc;dsimp only;rw [h,Bool.and_false];rfl
set_option maxRecDepth 100000 in
set_option maxHeartbeats 1000000 in
theorem refRight_any' (s t:ByteArray) (hs:s.size+t.size≤10000000) (w:World):
  Calls Tryz.prog 124 #[.agg #[.string s, .string t]] w fun e w'=>e= .returned (.bool (M.right (rc (s,t))))∧Below w.heap.size w w':=by
 have hb:Below w.heap.size w (w.alloc (.cells #[.string s, .string t] 29)):=(Below.refl _ w).alloc (Nat.le_refl _) _
 go_enter Tryz.func124,Tryz.ntmps124
 go_wp2
 go_loop [3] (fun i=> ∃ k:Nat,i= .int .i64 k∧k≤s.size∧((tl s).take k).all M.keyOk=true) (fun i=>s.size - (intOf i).toNat)
 case atStart=>exact ⟨0,rfl,Nat.zero_le _,rfl⟩
 case round=>
  obtain ⟨k,rfl,hle,hu⟩:=hrel
  by_cases hp:k<s.size
  ·have hb256:(s[k]'hp).toNat<256:=UInt8.toNat_lt _
   by_cases hk:M.keyOk ((tl s)[k]'hp)=true
   ·have HS:=Lib.hid (all_take_succ hp hu hk)
    rw [keyOk_iff,at_tl] at hk
    obtain ⟨k1,k2,k3⟩:=hk
    have e1:decide (((s[k]'hp).toNat:Int)<33)=false:=by rw [decide_eq_false_iff_not];omega
    have e2:decide (((s[k]'hp).toNat:Int)>126)=false:=by rw [decide_eq_false_iff_not];omega
    have e3:(((s[k]'hp).toNat:Int)==61)=false:=by simp;omega
    clear hu
    go_wp2
    refine ⟨⟨k+1,by go_num,by omega,HS.out⟩, ?_⟩
    simp [intOf];omega
   ·have hk':M.keyOk ((tl s)[k]'hp)=false:=by simpa using hk
    have HF:=Lib.hid (right_no_key (t:=t) (all_not hp hk'))
    rw [keyOk_iff,at_tl] at hk
    clear hk' hu
    by_cases c1:(s[k]'hp).toNat<33
    ·have e1:decide (((s[k]'hp).toNat:Int)<33)=true:=by rw [decide_eq_true_eq];omega
     clear hk
     go_wp2
     go_ret
     exact ⟨ret_bool HF.out.symm,hb⟩
    ·have e1:decide (((s[k]'hp).toNat:Int)<33)=false:=by rw [decide_eq_false_iff_not];omega
     by_cases c2:126<(s[k]'hp).toNat
     ·have e2:decide (((s[k]'hp).toNat:Int)>126)=true:=by rw [decide_eq_true_eq];omega
      clear hk
      go_wp2
      go_ret
      exact ⟨ret_bool HF.out.symm,hb⟩
     ·have e2:decide (((s[k]'hp).toNat:Int)>126)=false:=by rw [decide_eq_false_iff_not];omega
      have e3:(((s[k]'hp).toNat:Int)==61)=true:=by simp;omega
      clear hk
      go_wp2
      go_ret
      exact ⟨ret_bool HF.out.symm,hb⟩
  ·obtain rfl:k=s.size:=by omega
   have hall:(tl s).all M.keyOk=true:=by rw [List.take_of_length_le (by rw [tl_len];exact Nat.le_refl _)] at hu;exact hu
   have HR:=Lib.hid (right_keys (t:=t) hall)
   clear hall hu hp
   go_wp2
   go_loop [4] (fun i=> ∃ k:Nat,i= .int .i64 k∧k≤t.size∧((tl t).take k).all (fun c=> !(c==0))=true) (fun i=>t.size - (intOf i).toNat)
   case atStart=>exact ⟨0,rfl,Nat.zero_le _,rfl⟩
   case round=>
    obtain ⟨k,rfl,hle,hu⟩:=hrel
    by_cases hp:k<t.size
    ·have hb256:(t[k]'hp).toNat<256:=UInt8.toNat_lt _
     by_cases hk:(t[k]'hp).toNat=0
     ·have hz:(fun c:UInt8=> !(c==0)) ((tl t)[k]'hp)=false:=by
       have:t[k]'hp=0:=UInt8.toNat_inj.1 hk
       simp [at_tl,this]
      have HF:=Lib.hid (right_no_value (s:=s) (all_not (p:=fun c:UInt8=> !(c==0)) hp hz))
      have e1:(((t[k]'hp).toNat:Int)==0)=true:=by simp;omega
      clear hz hk hu
      go_wp2
      go_ret
      exact ⟨ret_bool HF.out.symm,hb⟩
     ·have hz:(fun c:UInt8=> !(c==0)) ((tl t)[k]'hp)=true:=by
       have:t[k]'hp≠0:=fun e=>hk (by rw [e];rfl)
       simp [at_tl,this]
      have HS:=Lib.hid (all_take_succ (p:=fun c:UInt8=> !(c==0)) hp hu hz)
      have e1:(((t[k]'hp).toNat:Int)==0)=false:=by simp;omega
      clear hz hk hu
      go_wp2
      refine ⟨⟨k+1,by go_num,by omega,HS.out⟩, ?_⟩
      simp [intOf];omega
    ·obtain rfl:k=t.size:=by omega
     have hall:(tl t).all (fun c=> !(c==0))=true:=by rw [List.take_of_length_le (by rw [tl_len];exact Nat.le_refl _)] at hu;exact hu
     have HR2:=Lib.hid hall
     clear hall hu hp
     by_cases h0:s.size=0
     ·have hd:(tl s).isEmpty=true:=by rw [List.isEmpty_iff];exact List.eq_nil_of_length_eq_zero h0
      have HD:=Lib.hid hd
      have e0:decide ((s.size:Int)>0)=false:=by rw [decide_eq_false_iff_not];omega
      have e00:decide (0<s.size)=false:=by rw [decide_eq_false_iff_not];omega
      clear hd h0
      go_wp2
      go_ret
      refine ⟨ret_bool ?_,hb⟩
      rw [HR.out,HR2.out,HD.out];rfl
     ·have hd:(tl s).isEmpty=false:=by rw [List.isEmpty_eq_false_iff];intro e;exact h0 (by rw [←tl_len,e];rfl)
      have HD:=Lib.hid hd
      have e0:decide ((s.size:Int)>0)=true:=by rw [decide_eq_true_eq];omega
      have e00:decide (0<s.size)=true:=by rw [decide_eq_true_eq];omega
      clear hd h0
      go_wp2
      go_ret
      refine ⟨ret_bool ?_,hb⟩
      rw [HR.out,HR2.out,HD.out];rfl
def LineIs (r:R2) (w:World) (e:Ending) (w':World):Prop:= ∃ x:ByteArray,e= .returned (.string x)∧tl x=M.line (rc r)∧x.size=M.lineLen (rc r)∧Below w.heap.size w w'
set_option maxRecDepth 100000 in
set_option maxHeartbeats 1000000 in
theorem refLine_any (r:R2) (hr:r.1.size+r.2.size≤10000000) (B:Nat) (w:World) (hB:B≤w.heap.size) (ht:TB B w):
  Calls Tryz.prog 133 #[.agg #[.string r.1, .string r.2]] w (LineIs r w):=by
 obtain ⟨s,t⟩:=r
 dsimp only at hr⊢
 obtain ⟨x,hx⟩: ∃ x,(⟨#[32]⟩:ByteArray)++s++⟨#[61]⟩++t++⟨#[10]⟩=x:=⟨_,rfl⟩
 have hxl:tl x=M.body (rc (s,t)):=by
  rw [←hx,tl_append,tl_append,tl_append,tl_append]
  show [32]++tl s++ [61]++tl t++ [10]=32::(tl s++61::(tl t++ [10]))
  simp
 obtain ⟨L,hL⟩: ∃ L,L=s.size+t.size+3:=⟨_,rfl⟩
 have hbl:(M.body (rc (s,t))).length=L:=by rw [M.body_length];show s.size+t.size+3=L;omega
 have hxs:x.size=L:=by rw [←tl_len,hxl,hbl]
 have hll:M.lineLen (rc (s,t))=L+M.wid L:=by unfold M.lineLen;rw [hbl]
 have hw:=M.wid_pos L
 have hL2:L≤10000003:=by omega
 have HS:=Lib.hid (M.wid_spec (L:=L) (by omega))
 have HT:=Lib.hid ht
 have HX:=Lib.hid hx
 have HXL:=Lib.hid hxl
 have HXS:=Lib.hid hxs
 have hxs1:x.size≤L:=Nat.le_of_eq hxs
 have hxs2:L≤x.size:=Nat.le_of_eq hxs.symm
 have HLL:=Lib.hid hll
 clear hL hbl hll ht hx hxl hxs
 go_enter Tryz.func133,Tryz.ntmps133
 go_wp2
 rw [HX.out]
 go_loopw [4,5] (fun d _ wr=> ∃ dn:Nat,d= .int .i64 dn∧1≤dn∧dn≤M.wid L∧Below w.heap.size w wr) (fun d _ _=>M.wid L - (intOf d).toNat)
 case atStart=>exact ⟨1,rfl,Nat.le_refl _,hw.1,(Below.refl _ w).alloc (Nat.le_refl _) _⟩
 case round=>
  obtain ⟨d,rfl,hd1,hd2,hb⟩:=hrel
  have hbs:=hb.size
  have C:=fun (B':Nat) (w':World) (h2:TB B' w')=>itoa_any (x.size+d) (by omega) B' w' h2
  have e:((x.size+d:Nat):Int)=(x.size:Int)+(d:Int):=by omega
  rw [e] at C
  have HC:=Lib.hid (C B wr (HT.out.on (hb.mono hB)))
  clear C e
  rcases Nat.lt_or_ge d (M.wid L) with hlt|hge
  ·have HM:=Lib.hid (M.wid_more hd1 hlt)
   go_wp2_with (go_at_call 23;refine HC.out.mono ?_;rintro e w1 ⟨y,rfl,hy,hys,hb1⟩;(have hys2:d<y.size:=by rw [hys,HXS.out];exact HM.out);(have e1:((y.size:Int)==(d:Int))=false:=by simp;omega);(have e2:(y.size==d)=false:=by simp;omega);clear hy hys)
   go_roundw
   case rel=>exact ⟨d+1,by go_num,by omega,by omega,hb.trans (hb1.mono hbs)⟩
   case measure=>simp [intOf];omega
  ·obtain rfl:d=M.wid L:=by omega
   have H3:=Lib.hid HS.out.2.2.1
   go_wp2_with (go_at_call 23;refine HC.out.mono ?_;rintro e w1 ⟨y,rfl,hy,hys,hb1⟩;(have hys2:y.size=M.wid L:=by rw [hys,HXS.out,H3.out]);(have e1:((y.size:Int)==(M.wid L:Int))=true:=by simp;omega);(have e2:(y.size==M.wid L)=true:=by simp;omega);(have hys3:y.size≤8:=by omega);(have HY:=Lib.hid hy);(have HYS:=Lib.hid hys2);clear hy hys hys2)
   go_ret
   refine ⟨_,rfl, ?_, ?_,hb.trans (hb1.mono hbs)⟩
   ·rw [tl_append,HY.out,HXL.out,HXS.out,M.line_eq,HLL.out]
   ·rw [ByteArray.size_append,HYS.out,HXS.out,HLL.out,Nat.add_comm]
end Go.Proofs.YtjpmpjbembhldaaGreatDoor.Px
namespace Go.Proofs.YtjpmpjbembhldaaGreatDoor.Px
open Go.RowKit Go.Shelf
def allRight (l:List R2):Bool:=(rcs l).all M.right
theorem allRight_no {l:List R2} {k:Nat} (hk:k<l.length) (h:M.right (rc l[k])=false):allRight l=false:=by
 unfold allRight
 rw [List.all_eq_false]
 exact ⟨rc l[k],List.mem_map.2 ⟨l[k],List.getElem_mem hk,rfl⟩,by rw [h];decide⟩
theorem allRight_succ {l:List R2} {k:Nat} (hk:k<l.length) (h:allRight (l.take k)=true) (h2:M.right (rc l[k])=true):allRight (l.take (k+1))=true:=by
 unfold allRight at*
 rw [List.take_succ_eq_append_getElem hk,rcs_app,List.all_append,h]
 simp [rcs,h2]
theorem closure_any (r:R2) (w:World):Calls Tryz.prog 66 #[.agg #[.string r.1, .string r.2]] w fun e w'=>e= .returned (.bool (!M.right (rc r)))∧Below w.heap.size w w':=by
 obtain ⟨s,t⟩:=r
 dsimp only
 have hb: ∀ w',Below (w.alloc (.cells #[.string s, .string t] 29)).heap.size (w.alloc (.cells #[.string s, .string t] 29)) w'→Below w.heap.size w w':=fun w' h=>((Below.refl _ w).alloc (Nat.le_refl _) _).trans (h.mono (by simp))
 cases hr:M.right (rc (s,t)) with
 |true=>
  have C:=fun W=>right_any' s t W
  rw [hr] at C
  have HC:=Lib.hid C
  clear C hr
  go_enter Tryz.func66,Tryz.ntmps66
  go_wp2_with (go_at_call 67;refine (HC.out _).mono ?_;rintro e w1 ⟨rfl,hb1⟩)
  go_ret
  exact ⟨rfl,hb _ hb1⟩
 |false=>
  have C:=fun W=>right_any' s t W
  rw [hr] at C
  have HC:=Lib.hid C
  clear C hr
  go_enter Tryz.func66,Tryz.ntmps66
  go_wp2_with (go_at_call 67;refine (HC.out _).mono ?_;rintro e w1 ⟨rfl,hb1⟩)
  go_ret
  exact ⟨rfl,hb _ hb1⟩
def IndexIs (l:List R2) (w:World) (e:Ending) (w':World):Prop:= ∃ i:Int,e= .returned (.int .i64 i)∧ -1≤i∧(0≤i↔allRight l=false)∧Below w.heap.size w w'
set_option maxRecDepth 100000 in
set_option maxHeartbeats 1000000 in
theorem index_any (A:Option Addr) (c:Nat) (l:List R2) (hl:l.length≤1048576) (w:World) (h:RdR w w.heap.size A l):
  Calls Tryz.prog 80 #[.slice A l.length c, .func (.func 66) #[] #[]] w (IndexIs l w):=by
 go_enter Tryz.func80,Tryz.ntmps80
 go_wp2
 go_loopw [8,5] (fun i _ wr=> ∃ k:Nat,i= .int .i64 k∧k≤l.length∧allRight (l.take k)=true∧Below w.heap.size w wr) (fun i _ _=>l.length - (intOf i).toNat)
 case atStart=>exact ⟨0,rfl,Nat.zero_le _,rfl,Below.refl _ _⟩
 case round=>
  obtain ⟨k,rfl,hk,hall,hb⟩:=hrel
  have hbs:=hb.size
  by_cases hlt:k<l.length
  ·obtain ⟨b,off,rfl,hbb,hc1,hc2⟩:=(h.below hb).at_ hlt
   have hs:=allRight_succ hlt hall
   have hn:=allRight_no hlt
   obtain ⟨r,hr⟩: ∃ r,l[k]=r:=⟨_,rfl⟩
   rw [hr] at hc1 hc2 hs hn
   have C:=closure_any r wr
   cases hq:M.right (rc r) with
   |true=>
    rw [hq] at C
    have HS:=Lib.hid (hs hq)
    have HC:=Lib.hid C
    clear C hq hs hn hr hall h
    by_cases hk0:k=0
    ·subst hk0
     simp only [Nat.zero_mul,Nat.add_zero] at hc1 hc2
     go_wp2_with (go_at_call 66;refine HC.out.mono ?_;rintro e w1 ⟨rfl,hb1⟩)
     go_roundw
     case rel=>exact ⟨1,by go_num,by omega,HS.out,hb.trans (hb1.mono hbs)⟩
     case measure=>simp [intOf];omega
    ·have hk1:0<k:=by omega
     clear hk0
     go_wp2_with (go_at_call 66;refine HC.out.mono ?_;rintro e w1 ⟨rfl,hb1⟩)
     go_roundw
     case rel=>exact ⟨k+1,by go_num,by omega,HS.out,hb.trans (hb1.mono hbs)⟩
     case measure=>simp [intOf];omega
   |false=>
    rw [hq] at C
    have HN:=Lib.hid (hn hq)
    have HC:=Lib.hid C
    clear C hq hs hn hr hall h
    by_cases hk0:k=0
    ·subst hk0
     simp only [Nat.zero_mul,Nat.add_zero] at hc1 hc2
     go_wp2_with (go_at_call 66;refine HC.out.mono ?_;rintro e w1 ⟨rfl,hb1⟩)
     go_ret
     exact ⟨0,rfl,by omega,⟨fun _=>HN.out,fun _=>by omega⟩,hb.trans (hb1.mono hbs)⟩
    ·have hk1:0<k:=by omega
     clear hk0
     go_wp2_with (go_at_call 66;refine HC.out.mono ?_;rintro e w1 ⟨rfl,hb1⟩)
     go_ret
     exact ⟨k,rfl,by omega,⟨fun _=>HN.out,fun _=>by omega⟩,hb.trans (hb1.mono hbs)⟩
  ·obtain rfl:k=l.length:=by omega
   rw [List.take_length] at hall
   have HA:=Lib.hid hall
   clear hall hlt h
   go_wp2
   go_ret
   exact ⟨-1,rfl,by omega,⟨fun h=>by omega,fun h=>by rw [HA.out] at h;cases h⟩,hb⟩
set_option maxRecDepth 100000 in
theorem contains_any (A:Option Addr) (c:Nat) (l:List R2) (hl:l.length≤1048576) (w:World) (h:RdR w w.heap.size A l):
  Calls Tryz.prog 65 #[.slice A l.length c, .func (.func 66) #[] #[]] w fun e w'=>e= .returned (.bool (!allRight l))∧Below w.heap.size w w':=by
 have HC:=Lib.hid (index_any A c l hl w h)
 clear h
 cases ha:allRight l with
 |true=>
  have HA:=Lib.hid ha
  clear ha
  go_enter Tryz.func65,Tryz.ntmps65
  go_wp2_with (go_at_call 80;refine HC.out.mono ?_;rintro e w1 ⟨i,rfl,h1,h2,hb1⟩;(have hd:decide (i≥0)=false:=by rw [decide_eq_false_iff_not,ge_iff_le,h2,HA.out];decide);(have hd2:i<0:=by have:=of_decide_eq_false hd;omega);clear h2)
  go_ret
  exact ⟨rfl,hb1⟩
 |false=>
  have HA:=Lib.hid ha
  clear ha
  go_enter Tryz.func65,Tryz.ntmps65
  go_wp2_with (go_at_call 80;refine HC.out.mono ?_;rintro e w1 ⟨i,rfl,h1,h2,hb1⟩;(have hd:decide (i≥0)=true:=by rw [decide_eq_true_eq,ge_iff_le,h2,HA.out]);(have hd2:0≤i:=by have:=of_decide_eq_true hd;omega);clear h2)
  go_ret
  exact ⟨rfl,hb1⟩
end Go.Proofs.YtjpmpjbembhldaaGreatDoor.Px
namespace Go.Proofs.YtjpmpjbembhldaaGreatDoor.Px
open Go.RowKit Go.Shelf
namespace M
def printE (l:List Rc):Nat:=if l.all right=false then 34 else if 1000<l.length∨1048576<(lines l).length then 3 else 0
def printB (l:List Rc):List UInt8:=if printE l=0 then lines l else []
theorem printE_34 {l:List Rc} (h:l.all right=false):printE l=34:=by unfold printE;rw [if_pos h]
theorem printE_3 {l:List Rc} (h:l.all right=true) (h2:1000<l.length∨1048576<(lines l).length):printE l=3:=by unfold printE;rw [if_neg (by rw [h];decide),if_pos h2]
theorem printE_0 {l:List Rc} (h:l.all right=true) (h2: ¬ (1000<l.length∨1048576<(lines l).length)):printE l=0:=by unfold printE;rw [if_neg (by rw [h];decide),if_neg h2]
theorem printB_no {l:List Rc} (h:printE l≠0):printB l= []:=by unfold printB;rw [if_neg h]
theorem printB_0 {l:List Rc} (h:printE l=0):printB l=lines l:=by unfold printB;rw [if_pos h]
theorem lines_one (r:Rc):lines [r]=line r:=by simp [lines]
end M
theorem take_rcs_succ {l:List R2} {k:Nat} (hk:k<l.length):rcs (l.take (k+1))=rcs (l.take k)++ [rc l[k]]:=by
 rw [List.take_succ_eq_append_getElem hk,rcs_app];rfl
theorem lines_take_succ {l:List R2} {k:Nat} (hk:k<l.length):M.lines (rcs (l.take (k+1)))=M.lines (rcs (l.take k))++M.line (rc l[k]):=by
 rw [take_rcs_succ hk,M.lines_app,M.lines_one]
theorem lines_take_le {l:List R2} {k:Nat} :(M.lines (rcs (l.take k))).length≤(M.lines (rcs l)).length:=by
 conv=>rhs;rw [←List.take_append_drop k l,rcs_app,M.lines_app,List.length_append]
 omega
def PrintIs (k:IntKind) (l:List R2) (w:World) (e:Ending) (w':World):Prop:=
 ∃ v,e= .returned (.tuple #[v, .int k (M.printE (rcs l))])∧OwnB w' w.heap.size v (M.printB (rcs l))∧Below w.heap.size w w'
theorem PrintIs.no {k:IntKind} {l:List R2} {w w':World} {n:Nat} (h:M.printE (rcs l)=n) (hn:n≠0) (hb:Below w.heap.size w w'):PrintIs k l w (.returned (.tuple #[.slice none 0 0, .int k n])) w':=by
 refine ⟨_,by rw [h], ?_,hb⟩
 rw [M.printB_no (by rw [h];exact hn)]
 exact OwnB.nil _ _
theorem nDigits_le9 {n:Nat} (h:n<10^9):Lib.nDigits n≤9:=by
 rcases Nat.lt_or_ge n 10 with h1|h1
 ·rw [Lib.nDigits_small h1];omega
 rcases Nat.lt_or_ge n (10^2) with h2|h2
 ·rw [Lib.nDigits_unique 1 n (by omega) (by omega)];omega
 rcases Nat.lt_or_ge n (10^3) with h3|h3
 ·rw [Lib.nDigits_unique 2 n (by omega) (by omega)];omega
 rcases Nat.lt_or_ge n (10^4) with h4|h4
 ·rw [Lib.nDigits_unique 3 n (by omega) (by omega)];omega
 rcases Nat.lt_or_ge n (10^5) with h5|h5
 ·rw [Lib.nDigits_unique 4 n (by omega) (by omega)];omega
 rcases Nat.lt_or_ge n (10^6) with h6|h6
 ·rw [Lib.nDigits_unique 5 n (by omega) (by omega)];omega
 rcases Nat.lt_or_ge n (10^7) with h7|h7
 ·rw [Lib.nDigits_unique 6 n (by omega) (by omega)];omega
 rcases Nat.lt_or_ge n (10^8) with h8|h8
 ·rw [Lib.nDigits_unique 7 n (by omega) (by omega)];omega
 ·rw [Lib.nDigits_unique 8 n (by omega) (by omega)];omega
def Short (l:List R2):Prop:= ∀ r∈l,r.1.size+r.2.size≤10000000
set_option maxRecDepth 100000 in
set_option maxHeartbeats 4000000 in
theorem print_any (A:Option Addr) (c:Nat) (l:List R2) (hl:l.length≤1048576) (hsh:Short l) (B:Nat) (w:World) (hB:B≤w.heap.size) (ht:TB B w) (h:RdR w w.heap.size A l):
  Calls Tryz.prog 25 #[.slice A l.length c] w (PrintIs .u16 l w):=by
 have ht':TB w.heap.size w:=fun w' hb=>ht w' (hb.mono hB)
 have HT:=Lib.hid ht'
 have HSH:=Lib.hid hsh
 have HC:=Lib.hid (contains_any A c l hl w h)
 have HR:=Lib.hid h
 clear ht ht' hsh h
 cases ha:allRight l with
 |false=>
  have HE:=Lib.hid (M.printE_34 ha)
  rw [ha] at HC
  clear ha
  go_enter Tryz.func25,Tryz.ntmps25
  go_wp2_with (go_at_call 65;refine HC.out.mono ?_;rintro e w1 ⟨rfl,hb1⟩)
  go_ret2
  exact PrintIs.no HE.out (by decide) hb1
 |true=>
  rw [ha] at HC
  have HA:=Lib.hid ha
  clear ha
  by_cases hm:1000<l.length
  ·have HE:=Lib.hid (M.printE_3 HA.out (.inl (by rw [rcs_len];exact hm)))
   go_enter Tryz.func25,Tryz.ntmps25
   go_wp2_with (go_at_call 65;refine HC.out.mono ?_;rintro e w1 ⟨rfl,hb1⟩)
   go_ret2
   exact PrintIs.no HE.out (by decide) hb1
  ·have hm':l.length≤1000:=by omega
   clear hm
   go_enter Tryz.func25,Tryz.ntmps25
   go_wp2_with (go_at_call 65;refine HC.out.mono ?_;rintro e w1 ⟨rfl,hb1⟩)
   go_loopw [15,4,6,7] (fun i v _ _ wr=> ∃ k:Nat,i= .int .i64 k∧k≤l.length∧OwnB wr w.heap.size v (M.lines (rcs (l.take k)))∧(M.lines (rcs (l.take k))).length≤1048576∧Below w.heap.size w wr) (fun i _ _ _ _=>l.length - (intOf i).toNat)
   case atStart=>exact ⟨0,rfl,Nat.zero_le _,OwnB.nil _ _,by simp [rcs,M.lines],hb1⟩
   case round=>
    obtain ⟨k,rfl,hk,hown,hlen,hb⟩:=hrel
    have hbs:=hb.size
    by_cases hlt:k<l.length
    ·obtain ⟨b,off,rfl,hbb,hc1,hc2⟩:=(HR.out.below hb).at_ hlt
     have hrs:=HSH.out _ (List.getElem_mem hlt)
     have hnx:=lines_take_succ hlt
     have hle:=lines_take_le (l:=l) (k:=k+1)
     rw [hnx,List.length_append] at hle
     obtain ⟨r,hr⟩: ∃ r,l[k]=r:=⟨_,rfl⟩
     rw [hr] at hc1 hc2 hrs hnx hle
     obtain ⟨P,hP⟩: ∃ P,M.lines (rcs (l.take k))=P:=⟨_,rfl⟩
     rw [hP] at hown hlen hnx hle
     have hll:(M.line (rc r)).length=M.lineLen (rc r):=M.line_length (by rw [M.body_length];show r.1.size+r.2.size+3+8<_;omega)
     rw [hll] at hle
     obtain ⟨LL,hLL⟩: ∃ LL,M.lineLen (rc r)=LL:=⟨_,rfl⟩
     have hLb:LL≤10000100:=by
      rw [←hLL];unfold M.lineLen;rw [M.body_length]
      have:=M.wid_pos (M.body (rc r)).length
      rw [M.body_length] at this
      show r.1.size+r.2.size+3+M.wid (r.1.size+r.2.size+3)≤_
      have e:(rc r).1.length+(rc r).2.length+3=r.1.size+r.2.size+3:=rfl
      rw [e] at this
      omega
     have hline:M.line (rc r)=Lib.decDigits LL++M.body (rc r):=by rw [M.line_eq,hLL]
     rw [hLL] at hle hll
     have HLN:=Lib.hid hll
     have hwd: ∀ W,w.heap.size≤W.heap.size→TB w.heap.size W→Calls Tryz.prog 68 #[.agg #[.string r.1, .string r.2]] W fun e w'=>e= .returned (.int .i64 LL)∧Below W.heap.size W w':=by
      intro W h1 h2
      have:=width_any r hrs w.heap.size W h1 h2
      rwa [hLL] at this
     have HW:=Lib.hid hwd
     have HN:=Lib.hid hnx
     have HL:=Lib.hid hline
     have HP:=Lib.hid hP
     have HO:=Lib.hid hown
     have HLE:=Lib.hid hle
     clear hwd hnx hline hP hown hr hLL hll hle
     obtain ⟨s,t⟩:=r
     dsimp only at hc1 hc2 hrs HW
     have hb2:=hb.alloc (by omega) (.cells #[.string s, .string t] 29)
     have hbx:=BoxR.new wr s t
     have hw1:=HW.out (wr.alloc (.cells #[.string s, .string t] 29)) hb2.size (HT.out.on hb2)
     rcases Nat.lt_or_ge 1048576 (P.length+LL) with hbig|hfit
     ·have HE:=Lib.hid (M.printE_3 (l:=rcs l) HA.out (.inr (by have:=HLE.out;omega)))
      have HW1:=Lib.hid hw1
      have HL1:=Lib.hid (hlen)
      obtain ⟨A',c',rfl,_⟩:=HO.out.rd
      clear hw1
      by_cases hk0:k=0
      ·subst hk0
       simp only [Nat.zero_mul,Nat.add_zero] at hc1 hc2
       go_wp2_with (go_at_call 68;refine HW1.out.mono ?_;rintro e w2 ⟨rfl,hb3⟩)
       go_ret2
       exact PrintIs.no HE.out (by decide) (hb2.trans (hb3.mono hb2.size))
      ·have hk1:0<k:=by omega
       clear hk0
       go_wp2_with (go_at_call 68;refine HW1.out.mono ?_;rintro e w2 ⟨rfl,hb3⟩)
       go_ret2
       exact PrintIs.no HE.out (by decide) (hb2.trans (hb3.mono hb2.size))
     ·have HW1:=Lib.hid hw1
      obtain ⟨A',c',rfl,_⟩:=HO.out.rd
      have hD:(Lib.decDigits LL).length≤100:=by
       rw [Lib.decDigits_length]
       have h9:LL<10^8:=by omega
       rcases Nat.lt_or_ge 100 (Lib.nDigits LL) with hc|hc
       ·exact absurd (nDigits_le9 (n:=LL) (by omega)) (by omega)
       ·exact hc
      obtain ⟨D,hDD⟩: ∃ D,Lib.decDigits LL=D:=⟨_,rfl⟩
      rw [hDD] at HL hD
      have HD:=Lib.hid hDD
      clear hw1 hDD
      have hbxs:wr.heap.size<(wr.alloc (.cells #[.string s, .string t] 29)).heap.size:=by simp
      by_cases hk0:k=0
      case' pos=>
       subst hk0
       simp only [Nat.zero_mul,Nat.add_zero] at hc1 hc2
      case' neg=>
       have hk1:0<k:=by omega
       clear hk0
      all_goals
       go_wp2_with (go_at_call 68;refine HW1.out.mono ?_;rintro e w2 ⟨rfl,hb3⟩;refine Hid.out ?_)
       refine Lib.hid ?_
       have b2:=hb2.trans (hb3.mono hb2.size)
       have bx2:=hbx.below hb3 hbxs
       have o2:OwnB w2 w.heap.size (.slice A' P.length c') P:=(HO.out.alloc _).below hb3
       clear hbx hb3 hb2 hc1 hc2
       go_wp2_with (go_at_call 69;refine (Tryz.strconv_AppendInt_10 w.heap.size P.length LL (by omega) (by omega) _ _ w2 o2 b2.size (by omega) (HT.out.on b2)).mono ?_;rintro e w3 ⟨v3,rfl,ho3,hb3,hk3⟩;refine Hid.out ?_)
       refine Lib.hid ?_
       obtain ⟨P3,hP3⟩: ∃ P3,P3=P++D:=⟨_,rfl⟩
       have hn3:P3.length≤P.length+100:=by rw [hP3,List.length_append];omega
       have bx3:=bx2.kept hk3
       have b3:=b2.trans hb3
       have o3:OwnB w3 w.heap.size v3 P3:=by
        rw [Lib.itoa_nonneg,HD.out] at ho3
        rw [hP3]
        unfold OwnB
        rw [List.length_append]
        have e:Lib.byteCells (P++D)=Lib.byteCells P++Lib.byteCells D:=by simp [Lib.byteCells]
        rw [e]
        exact ho3
       have HP3:=Lib.hid hP3
       clear bx2 hk3 hb3 ho3 b2 o2 hP3
       go_wp2_with (at_builtin;refine wpList_app1 rfl (.tmp 29) (.tmp 30) rfl w.heap.size v3 P3 32 rfl rfl o3 b3.size rfl (by omega) ?_)
       intro v4 w4 P4 HP4 hn4 o4 hb4 hx4
       have bx4:=hx4 _ _ _ bx3
       have b4:=b3.trans hb4
       have c40:=bx4.cell0
       clear o3 bx3 hb4 hx4 b3
       go_wp2_with (at_builtin;refine wpList_appS rfl (.tmp 32) (.tmp 34) rfl w.heap.size v4 P4 s rfl o4 b4.size rfl (by omega) (by omega) ?_)
       intro v5 w5 P5 HP5 hn5 o5 hb5 hx5
       have bx5:=hx5 _ _ _ bx4
       have b5:=b4.trans hb5
       clear o4 bx4 hb5 hx5 b4 c40
       go_wp2_with (at_builtin;refine wpList_app1 rfl (.tmp 36) (.tmp 37) rfl w.heap.size v5 P5 61 rfl rfl o5 b5.size rfl (by omega) ?_)
       intro v6 w6 P6 HP6 hn6 o6 hb6 hx6
       have bx6:=hx6 _ _ _ bx5
       have b6:=b5.trans hb6
       have c61:=bx6.cell1
       clear o5 bx5 hb6 hx6 b5
       go_wp2_with (at_builtin;refine wpList_appS rfl (.tmp 39) (.tmp 41) rfl w.heap.size v6 P6 t rfl o6 b6.size rfl (by omega) (by omega) ?_)
       intro v7 w7 P7 HP7 hn7 o7 hb7 hx7
       have b7:=b6.trans hb7
       clear o6 bx6 hb7 hx7 b6 c61
       go_wp2_with (at_builtin;refine wpList_app1 rfl (.tmp 43) (.tmp 44) rfl w.heap.size v7 P7 10 rfl rfl o7 b7.size rfl (by omega) ?_)
       intro v8 w8 P8 HP8 hn8 o8 hb8 hx8
       have b8:=b7.trans hb8
       clear o7 hb8 hx8 b7
       go_wp2
       go_roundw
       case rel=>
        refine ⟨_,(show Value.int .i64 _=Value.int .i64 ((_+1:Nat):Int) by go_num),by omega, ?_, ?_,b8⟩
        ·rw [HN.out,HL.out]
         have e:P++(D++M.body (rc (s,t)))=P++D++ [32]++tl s++ [61]++tl t++ [10]:=by
          show P++(D++32::(tl s++61::(tl t++ [10])))=_
          simp
         rw [e,←HP3.out,←HP4.out,←HP5.out,←HP6.out,←HP7.out,←HP8.out]
         exact o8
        ·rw [HN.out,List.length_append]
         have:=HLN.out
         omega
       case measure=>simp [intOf];omega
    ·obtain rfl:k=l.length:=by omega
     rw [List.take_length] at hown hlen
     have HE:=Lib.hid (M.printE_0 (l:=rcs l) HA.out (by rw [rcs_len];omega))
     have HO:=Lib.hid hown
     clear hown hlt hlen
     go_wp2
     go_ret2
     refine ⟨_,by rw [HE.out];rfl, ?_,hb⟩
     rw [M.printB_0 HE.out];exact HO.out
end Go.Proofs.YtjpmpjbembhldaaGreatDoor.Px
namespace Go.Proofs.YtjpmpjbembhldaaGreatDoor.Px
open Go.RowKit Go.Shelf
end Go.Proofs.YtjpmpjbembhldaaGreatDoor.Px
namespace Go.Proofs.YtjpmpjbembhldaaGreatDoor.Px
open Go.RowKit Go.Shelf Go.Maps
def Fits (l:List R2):Prop:= ∀ r∈l,r.1.size≤maxLen∧r.2.size≤maxLen
theorem OwnR.lower {w:World} {b b2:Nat} {v:Value} {l:List R2} (h:OwnR w b v l) (hb:b2≤b):OwnR w b2 v l:=by
 refine ⟨h.1, ?_⟩
 rcases h.2 with hn|⟨g,cap,cur,hv,hb2,rest⟩
 ·exact .inl hn
 ·exact .inr ⟨g,cap,cur,hv,Nat.le_trans hb hb2,rest⟩
theorem zero_string (w:World):(zeroValue 9).run Tryz.prog w= .ok (.string ⟨#[]⟩) w:=by
 obtain ⟨i0,hi,hz0,hz1,hz2⟩:=info_parts infoS
 simp [zeroValue,typeInfo,hi,hz0]
def MapOf (w:World) (b n:Nat) (D:DataW Unit):Prop:=w.ownsMap Tryz.prog 9 (plainElem Tryz.prog 9) b n D
theorem look_string {w:World} {b n:Nat} {D:DataW Unit} {p:List R2} (h:MapOf w b n D) (hD:DF D p) (x:List UInt8) (hx:x.length≤maxLen):
  ∃ s:ByteArray,(Instr.lookup 107 (.map (some b)) (.string ⟨x.toArray⟩) false).run Tryz.prog w= .ok (.string s) w∧tl s=((M.find (rcs p) x).getD [])∧s.size≤maxLen:=by
 obtain ⟨v,ps,hrun,hv⟩:=World.ownsMap.lookup h (string_keyed Tryz.underlying9) Tryz.underlying107 (zero_string w) (plainElem_string Tryz.underlying9 (s:=⟨#[]⟩) (Nat.zero_le _)) (WideMaps.keyOf_string_mk Tryz.underlying9 (s:=⟨x.toArray⟩) hx)
 obtain ⟨s,rfl,hs,hl⟩:=plainString_inv Tryz.underlying9 hv
 refine ⟨s,hrun, ?_,hl⟩
 have h2:=hD.2.1 x
 dsimp only at hs
 have e:(DataW.atKey D (.string x) (.lit (.string [])))= .lit (.string (tl s)):=hs
 rw [h2] at e
 exact (Lit.string.inj (DataW.lit.inj e)).symm
set_option maxRecDepth 100000 in
set_option maxHeartbeats 8000000 in
theorem merge_own (A1:Option Addr) (c1:Nat) (l:List R2) (A2:Option Addr) (c2:Nat) (m:List R2) (hl:l.length≤1048576) (hm:m.length≤1048576) (fl:Fits l) (fm:Fits m) (w:World) (h1:RdR w w.heap.size A1 l) (h2:RdR w w.heap.size A2 m):
  Calls Tryz.prog 24 #[.slice A1 l.length c1, .slice A2 m.length c2] w (fun e w'=> ∃ A c rs,e= .returned (.slice A rs.length c)∧RdR w' w'.heap.size A rs∧rs.length≤c∧c≤maxLen∧rcs rs=M.merge ltB (rcs l) (rcs m)∧rs.length≤l.length+m.length∧Below w.heap.size w w'∧OwnR w' w.heap.size (.slice A rs.length c) rs):=by
 have HR1:=Lib.hid h1
 have HR2:=Lib.hid h2
 have HF1:=Lib.hid fl
 have HF2:=Lib.hid fm
 have hmm:= @run_makeMap Tryz.prog
 clear h1 h2 fl fm
 go_enter Tryz.func24,Tryz.ntmps24
 go_wp2
 clear hmm
 go_loopw [17,7] (fun i _ wr=> ∃ (k:Nat) (D:DataW Unit),i= .int .i64 k∧k≤l.length∧MapOf wr w.heap.size k D∧Hid (DF D (l.take k))∧Below w.heap.size w wr) (fun i _ _=>l.length - (intOf i).toNat)
 case atStart=>exact ⟨0, .map [],rfl,Nat.zero_le _,World.ownsMap_made _ _ _ _,Lib.hid DF.nil,(Below.refl _ w).alloc (Nat.le_refl _) _⟩
 case round=>
  obtain ⟨k,D,rfl,hk,hown,hdf,hb⟩:=hrel
  have hbs:=hb.size
  by_cases hlt:k<l.length
  ·obtain ⟨b,off,rfl,hbb,hc1,hc2⟩:=(HR1.out.below hb).at_ hlt
   have hrs:=HF1.out _ (List.getElem_mem hlt)
   have HD2:=Lib.hid (show DF _ (l.take (k+1)) by rw [List.take_succ_eq_append_getElem hlt];exact hdf.out.put _)
   obtain ⟨r,hr⟩: ∃ r,l[k]=r:=⟨_,rfl⟩
   rw [hr] at hc1 hc2 hrs HD2
   obtain ⟨s,t⟩:=r
   dsimp only at hc1 hc2 hrs HD2
   have hb2:=hb.alloc (by omega) (.cells #[.string s, .string t] 29)
   have hbx:=BoxR.new wr s t
   have HO:=Lib.hid hown
   have HS:=Lib.hid hrs
   clear hr hown hrs
   by_cases hk0:k=0
   case' pos=>
    subst hk0
    simp only [Nat.zero_mul,Nat.add_zero] at hc1 hc2
   case' neg=>
    have hk1:0<k:=by omega
    clear hk0
   all_goals
    go_wp2_with (at_mapUpdate;refine wpList_mapUpdate_own _ rfl _ _ _ 107 rfl 9 9 (string_keyed Tryz.underlying9) Tryz.underlying107 (plainElem Tryz.prog 9) w.heap.size _ D rfl (HO.out.alloc _) (by unfold maxLen;omega) (.string s) (.string t) (.string (tl s)) rfl rfl (WideMaps.keyOf_string_mk Tryz.underlying9 HS.out.1) (.lit (.string (tl t))) [] (plainElem_string Tryz.underlying9 HS.out.2) ?_;intro w1 hown1 hgrow1)
    have hb3:=hb2.grown hgrow1 hb2.size (fun g hg=>by injection hg with hg;omega)
    go_wp2
    go_roundw
    case rel=>exact ⟨_,_,(show Value.int .i64 _=Value.int .i64 ((_+1:Nat):Int) by go_num),by omega,hown1,HD2,hb3⟩
    case measure=>simp [intOf];omega
  ·have hke:k=l.length:=by omega
   subst hke
   have HD1:=Lib.hid (show DF D l by have:=hdf.out;rwa [List.take_length] at this)
   have HO1:=Lib.hid hown
   have hb1:=hb
   have W1:=hbs
   clear hdf hown hb hbs hlt hk
   go_wp2
   go_loopw [29,9] (fun i _ wr=> ∃ (k:Nat) (D:DataW Unit),i= .int .i64 k∧k≤m.length∧MapOf wr w.heap.size (l.length+k) D∧Hid (DF D (l++m.take k))∧Below w.heap.size w wr) (fun i _ _=>m.length - (intOf i).toNat)
   case atStart=>exact ⟨0,D,rfl,Nat.zero_le _,HO1.out,Lib.hid (by rw [List.take_zero,List.append_nil];exact HD1.out),hb1⟩
   case round=>
    obtain ⟨k,D,rfl,hk,hown,hdf,hb⟩:=hrel
    have hbs:=hb.size
    by_cases hlt:k<m.length
    ·obtain ⟨b,off,rfl,hbb,hc1,hc2⟩:=(HR2.out.below hb).at_ hlt
     have hrs:=HF2.out _ (List.getElem_mem hlt)
     have HD2:=Lib.hid (show DF _ (l++m.take (k+1)) by rw [List.take_succ_eq_append_getElem hlt,←List.append_assoc];exact hdf.out.put _)
     obtain ⟨r,hr⟩: ∃ r,m[k]=r:=⟨_,rfl⟩
     rw [hr] at hc1 hc2 hrs HD2
     obtain ⟨s,t⟩:=r
     dsimp only at hc1 hc2 hrs HD2
     have hb2:=hb.alloc (by omega) (.cells #[.string s, .string t] 29)
     have hbx:=BoxR.new wr s t
     have HO:=Lib.hid hown
     have HS:=Lib.hid hrs
     clear hr hown hrs
     by_cases hk0:k=0
     case' pos=>
      subst hk0
      simp only [Nat.zero_mul,Nat.add_zero] at hc1 hc2
     case' neg=>
      have hk1:0<k:=by omega
      clear hk0
     all_goals
      go_wp2_with (at_mapUpdate;refine wpList_mapUpdate_own _ rfl _ _ _ 107 rfl 9 9 (string_keyed Tryz.underlying9) Tryz.underlying107 (plainElem Tryz.prog 9) w.heap.size _ D rfl (HO.out.alloc _) (by unfold maxLen;omega) (.string s) (.string t) (.string (tl s)) rfl rfl (WideMaps.keyOf_string_mk Tryz.underlying9 HS.out.1) (.lit (.string (tl t))) [] (plainElem_string Tryz.underlying9 HS.out.2) ?_;intro w1 hown1 hgrow1)
      have hb3:=hb2.grown hgrow1 hb2.size (fun g hg=>by injection hg with hg;omega)
      go_wp2
      go_roundw
      case rel=>exact ⟨_,_,(show Value.int .i64 _=Value.int .i64 ((_+1:Nat):Int) by go_num),by omega,hown1,HD2,hb3⟩
      case measure=>simp [intOf];omega
    ·have hke:k=m.length:=by omega
     subst hke
     have HD3:=Lib.hid (show DF D (l++m) by have:=hdf.out;rwa [List.take_length] at this)
     have HO3:=Lib.hid hown
     clear hdf hown hlt hk HD1 HO1 hb1 W1
     have hkeys:=fun W=>(callsIn_wide (n:=5)).1 (Tryz.maps_keys (some w.heap.size) W)
     have hsorted:=(callsIn_wide (n:=5)).1 (Tryz.sorted_keys w.heap.size _ D _ _ HO3.out (Nat.le_trans (size_le HO3.out) (by unfold maxLen;omega)) (by have:=size_le HO3.out;omega))
     have HSO:=Lib.hid hsorted
     clear hsorted
     go_wp2_with (first
      |(go_at_call 64;refine (hkeys _).mono ?_;rintro e w4 ⟨rfl,rfl⟩)
      |(go_at_call 63;refine HSO.out.mono ?_;rintro e w5 ⟨v,ss,rfl,hperm,hrow,_,hb5⟩;obtain ⟨A5,c5,rfl,hrs5,hkl5,hlc5,hcm5⟩:=row_rd hrow))
     have hmap5:MapOf w5 w.heap.size (l.length+m.length) D:=ownsMap_below (World.ownsMap.alloc HO3.out _) hb5 (by have:=World.ownsMap.lt HO3.out;rw [World.size_alloc];omega)
     have hmb:w.heap.size<w5.heap.size:=World.ownsMap.lt hmap5
     have hnd:=(hperm.nodup_iff).2 (nodup_strKeys HO3.out Tryz.underlying9)
     have hpw:=sorted_lt hnd
     have hmem: ∀ k,k∈ss.mergeSort leB↔(M.find (rcs (l++m)) k).isSome=true:=fun k=>by
      rw [(List.mergeSort_perm ss leB).mem_iff,hperm.mem_iff,mem_strKeys HO3.out Tryz.underlying9,HD3.out.2.2 k]
     have hmerge:=merge_keys hpw hmem
     have hlen5: ∀ x∈ss.mergeSort leB,x.length≤maxLen:=fun x hx=>strKeys_le HO3.out Tryz.underlying9 x (hperm.mem_iff.1 ((List.mergeSort_perm ss leB).mem_iff.1 hx))
     have hcount:ss.length≤l.length+m.length:=by
      rw [hperm.length_eq]
      refine Nat.le_trans ?_ (size_le HO3.out)
      obtain ⟨es,rfl⟩:=HD3.out.1
      show (es.map _).length≤es.length
      rw [List.length_map];exact Nat.le_refl _
     have hb6:Below w.heap.size w w5:=(hb.alloc hbs _).trans (hb5.mono (by rw [World.size_alloc];omega))
     have hLm:M.merge ltB (rcs (l++m)) []=M.merge ltB (rcs l) (rcs m):=by rw [rcs_app,M.merge_app]
     rw [hLm] at hmerge
     obtain ⟨ks,hks⟩: ∃ ks,ss.mergeSort leB=ks:=⟨_,rfl⟩
     have hrsK:RdS w5 w5.heap.size A5 ks:=by rw [←hks];exact hrs5
     have hkl:ss.length=ks.length:=by rw [←hks];exact hkl5.symm
     rw [hks] at hlen5 hmerge
     rw [hkl] at hlc5 hcount⊢
     have HK:=Lib.hid hrsK
     have HM5:=Lib.hid hmap5
     have HL5:=Lib.hid hlen5
     have HME:=Lib.hid hmerge
     clear hrsK hmap5 hlen5 hmerge hrs5 hrow hkl5 hperm hnd hpw hmem hks hkl hLm HSO hkeys HO3
     go_wp2
     go_loopw [43,10,12,13] (fun i v _ _ wy=> ∃ (k:Nat) (rs:List R2),i= .int .i64 k∧k≤ks.length∧OwnR wy w5.heap.size v rs∧Hid (rcs rs=((ks.take k).map (pick (rcs (l++m)))).filter M.hasValue)∧rs.length≤k∧Below w5.heap.size w5 wy) (fun i _ _ _ _=>ks.length - (intOf i).toNat)
     case atStart=>exact ⟨0, [],rfl,Nat.zero_le _,OwnR.nil _ _,Lib.hid rfl,Nat.zero_le _,Below.refl _ _⟩
     case round=>
      obtain ⟨k,rs,rfl,hk,hown,hrs,hrk,hby⟩:=hrel
      have hbys:=hby.size
      by_cases hlt:k<ks.length
      ·obtain ⟨b,off,rfl,hbb,hc1⟩:=(HK.out.below hby).at_ hlt
       have hx:=HL5.out _ (List.getElem_mem hlt)
       obtain ⟨s,hrun,hs,hsl⟩:=look_string (ownsMap_below HM5.out hby hmb) HD3.out ks[k] hx
       have htk:(ks.take (k+1)).map (pick (rcs (l++m)))=(ks.take k).map (pick (rcs (l++m)))++ [(ks[k],tl s)]:=by
        rw [List.take_succ_eq_append_getElem hlt,List.map_append,hs];rfl
       have HT:=Lib.hid htk
       have HO:=Lib.hid hown
       have HRS:=Lib.hid hrs
       obtain ⟨x,hxe⟩: ∃ x,ks[k]=x:=⟨_,rfl⟩
       rw [hxe] at hc1 hrun HT
       clear htk hown hrs hs hxe hx
       have hfl:(((ks.take k).map (pick (rcs (l++m)))++ [(x,tl s)]).filter M.hasValue)=rcs rs++(if s.toList.isEmpty=true then [] else [(x,tl s)]):=by
        rw [List.filter_append,←HRS.out]
        congr 1
        rw [tl_eq]
        unfold M.hasValue
        cases he:(tl s).isEmpty<;>simp [he]
       rw [←HT.out] at hfl
       have HFL:=Lib.hid hfl
       have hk9:rs.length≤100000000:=by omega
       clear hfl
       cases hE:s.toList.isEmpty with
       |true=>
        have hE2:(!s.toList.isEmpty)=false:=by rw [hE];rfl
        rw [hE] at HFL
        have HN:=Lib.hid (show rcs rs=_ from (by rw [HFL.out,if_pos rfl,List.append_nil]:((ks.take (k+1)).map (pick (rcs (l++m)))).filter M.hasValue=rcs rs).symm)
        clear HFL HT hE
        by_cases hk0:k=0
        case' pos=>
         subst hk0
         simp only [Nat.add_zero] at hc1
        case' neg=>
         have hk1:0<k:=by omega
         clear hk0
        all_goals
         go_wp2
         go_roundw
         case rel=>exact ⟨_,rs,(show Value.int .i64 _=Value.int .i64 ((_+1:Nat):Int) by go_num),by omega,HO.out,HN,by omega,hby⟩
         case measure=>simp [intOf];omega
       |false=>
        have hE2:(!s.toList.isEmpty)=true:=by rw [hE];rfl
        rw [hE] at HFL
        have HN:=Lib.hid (show ((ks.take (k+1)).map (pick (rcs (l++m)))).filter M.hasValue=rcs (rs++ [(⟨x.toArray⟩,s)]) by rw [HFL.out,rcs_app];rfl)
        clear HFL HT hE
        by_cases hk0:k=0
        case' pos=>
         subst hk0
         simp only [Nat.add_zero] at hc1
        case' neg=>
         have hk1:0<k:=by omega
         clear hk0
        all_goals
         go_wp2_with (at_builtin;refine wpList_appR rfl (.tmp 52) (.tmp 56) rfl w5.heap.size u10 rs (⟨x.toArray⟩,s) rfl rfl rfl HO.out hbys rfl hk9 ?_)
         intro v6 w6 rs' HRS' hn6 o6 hb7 hg7
         have b6:=hby.trans hb7
         have HN2:=Lib.hid ((congrArg rcs HRS'.out).trans HN.out.symm)
         clear hb7 hg7 HRS'
         go_wp2
         go_roundw
         case rel=>exact ⟨_,rs',(show Value.int .i64 _=Value.int .i64 ((_+1:Nat):Int) by go_num),by omega,o6,HN2,by omega,b6⟩
         case measure=>simp [intOf];omega
      ·have hke:k=ks.length:=by omega
       subst hke
       have HRS:=Lib.hid (show rcs rs=M.merge ltB (rcs l) (rcs m) by have:=hrs.out;rwa [List.take_length,HME.out] at this)
       have HOW:=Lib.hid (OwnR.lower hown hb6.size)
       obtain ⟨A7,c7,rfl,hr7,hc7,hm7⟩:=hown.rd
       have HR7:=Lib.hid hr7
       clear hown hr7 hrs hlt hk
       go_wp2
       go_ret
       exact ⟨A7,c7,rs,rfl,HR7.out,hc7,hm7,HRS.out,by omega,hb6.trans (hby.mono hb6.size),HOW.out⟩
end Go.Proofs.YtjpmpjbembhldaaGreatDoor.Px
namespace Go.Proofs.YtjpmpjbembhldaaGreatDoor.Px
open Go.RowKit Go.Shelf
attribute [local go_sem] Oper.semAt_some
theorem boxed_turned {own:Nat→Prop} {A B:World} {b:Nat} {t:TypeId} {v:Value} (h:Boxed A b t v) (ht:Turned own A B) (hn: ¬ own b):Boxed B b t v:=(ht.block b h.lt hn).trans h
theorem boxed_spared {own:Nat→Prop} {A B:World} {b:Nat} {t:TypeId} {v:Value} (h:Boxed A b t v) (ht:Spared own A B) (hn:own b):Boxed B b t v:=(ht.block b hn h.lt).trans h
def encP (x:Nat × R2):Array Value:= #[.int .i64 x.1, .agg #[.string x.2.1, .string x.2.2]]
set_option maxRecDepth 100000 in
set_option maxHeartbeats 2000000 in
theorem back_iter (A:Option Addr) (c:Nat) (l:List R2) (hl:l.length≤1048576) (b B:Nat):
  IterK Tryz.prog 114 #[.pointer (some ⟨b,0,none⟩)] encP (fun k=>k=b) 0
   (fun xs=>xs.map Prod.snd=l.reverse) (fun pre=>pre.map Prod.snd<+:l.reverse) (fun xs=>xs.map Prod.snd<+:l.reverse) (fun W=>Boxed W b 25 (.slice A l.length c)) (fun W=>RdR W B A l):=by
 intro n y J Jx W hok hJ hJx hY hKp h0
 refine callsIn_of_wp Tryz.func114 rfl trivial ?_ rfl
 simp only [Tryz.ntmps114,List.size_toArray,List.length_cons,List.length_nil,Nat.reduceAdd,Nat.reduceSub,Array.replicate_succ,Array.replicate_zero,List.push_toArray,List.append_toArray,List.nil_append,List.cons_append]
 have hc1:=hok.cell
 gi_wp2_with fail
 gi_loopw [3] (fun i wr=> ∃ (pre:List (Nat × R2)) (k:Nat) (z:Int),i= .int .i64 z∧z=(k:Int) - 1∧k≤l.length∧Hid (pre.map Prod.snd=(l.drop k).reverse)∧Boxed wr b 25 (.slice A l.length c)∧J pre wr∧W.heap.size≤wr.heap.size) (fun i _=>(intOf i+1).toNat)
 case atStart=>exact ⟨[],l.length,_,rfl,by omega,Nat.le_refl _,Lib.hid (by simp),hok,h0,Nat.le_refl _⟩
 case round=>
  obtain ⟨pre,k,z,rfl,hz,hk,hp,hb,hj,hsz⟩:=hrel
  have hc1:=hb.cell
  rcases k with _|j
  ·have hz2:z<0:=by omega
   have hz3:z= -1:=by omega
   subst hz3
   clear hz hz2
   gi_wp2
   go_end0
   refine ⟨⟨_,rfl⟩, .inl ⟨_, ?_,hj⟩⟩
   rw [hp.out,List.drop_zero]
  ·obtain rfl:z=(j:Int):=by omega
   have hjl:j<l.length:=by omega
   obtain ⟨bb,off,rfl,hbb,hd1,hd2⟩:=(hKp _ _ hj).at_ hjl
   have hpx:(pre++ [(j,l[j])]).map Prod.snd=(l.drop j).reverse:=by
    rw [List.drop_eq_getElem_cons hjl,List.reverse_cons,List.map_append,hp.out];rfl
   have hpre:(l.drop j).reverse<+:l.reverse:=by
    conv=>rhs;rw [←List.take_append_drop j l]
    rw [List.reverse_append]
    exact List.prefix_append _ _
   obtain ⟨fn,tmps,assign,body,hy,hR⟩:=hY (n - 1) pre (j,l[j]) wr hj (by omega) (by rw [hpx];exact hpre)
   have HPX:=Lib.hid hpx
   have HPR:=Lib.hid hpre
   obtain ⟨r,hr⟩: ∃ r,l[j]=r:=⟨_,rfl⟩
   rw [hr] at hy hR hd1 hd2 HPX
   dsimp only [encP] at hy
   clear hpx hpre hr hz hp
   by_cases hj0:j=0
   case' pos=>
    subst hj0
    simp only [Nat.zero_mul,Nat.add_zero] at hd1 hd2
    simp only [Int.natCast_zero] at hy⊢
   case' neg=>
    have hj1:0<j:=by omega
    clear hj0
   all_goals
    gi_wp2
    refine ⟨noDepth, ?_⟩
    refine hR.mono ?_
    rintro e W' ⟨hsp,⟨rfl,hj'⟩|⟨rfl,hj'⟩⟩
    ·have g:=boxed_spared hb hsp (.inl rfl)
     gi_wp2
     refine ⟨⟨pre++ [(_,r)],_,_,rfl, ?_, ?_,HPX,g,hj',Nat.le_trans hsz hsp.size⟩, ?_⟩
     ·omega
     ·omega
     ·first|(simp [intOf];done)|(simp [intOf];omega)
    ·gi_wp2
     refine bodyPost_ret (results_none rfl _ _ _) rfl ?_
     exact ⟨⟨_,rfl⟩, .inr ⟨_,by rw [HPX.out];exact HPR.out,hj'⟩⟩
end Go.Proofs.YtjpmpjbembhldaaGreatDoor.Px
namespace Go.Proofs.YtjpmpjbembhldaaGreatDoor.Px
open Go.RowKit Go.Shelf
attribute [local go_sem] Oper.semAt_some
def NoKey (key:ByteArray) (pre:List (Nat × R2)):Prop:= ∀ x∈pre,tl x.2.1≠tl key
def FindAt (w:World) (key:ByteArray) (pre:List (Nat × R2)) (W:World):Prop:=
 NoKey key pre∧Boxed W w.heap.size 9 (.string key)∧Boxed W (w.heap.size+1) 9 (.string ⟨#[]⟩)∧Boxed W (w.heap.size+1+1) 4 (.bool false)∧Below w.heap.size w W
def FoundAt (w:World) (key:ByteArray) (pre:List (Nat × R2)) (W:World):Prop:=
 ∃ pre0 x,pre=pre0++ [x]∧NoKey key pre0∧tl x.2.1=tl key∧Boxed W (w.heap.size+1) 9 (.string x.2.2)∧Boxed W (w.heap.size+1+1) 4 (.bool true)∧Below w.heap.size w W
theorem boxed_put {A:World} {b k:Nat} {t:TypeId} {v:Value} (h:Boxed A b t v) (hne:b≠k) (o:Obj):Boxed (A.putObj k o) b t v:=h.kept (grownBy_putObj' A k o) (fun e=>hne (by injection e))
theorem boxed_set_far {A:World} {b c:Nat} {t:TypeId} {v u:Value} (h:Boxed A b t v) (hne:b≠c):Boxed (A.setCell ⟨c,0,none⟩ u) b t v:=h.kept (grownBy_setCell' A c u) (fun e=>hne (by injection e))
theorem NoKey.snoc {key:ByteArray} {pre:List (Nat × R2)} {x:Nat × R2} (h:NoKey key pre) (hx:tl x.2.1≠tl key):NoKey key (pre++ [x]):=fun y hy=>by
 rcases List.mem_append.1 hy with hy|hy
 ·exact h y hy
 ·rw [List.mem_singleton] at hy
  subst hy
  exact hx
theorem find_none {key:ByteArray} {l:List R2} (h: ∀ r∈l,tl r.1≠tl key):M.find (rcs l) (tl key)=none:=by
 induction l with
 |nil=>rfl
 |cons r l ih=>
  rw [show rcs (r::l)=rc r::rcs l from rfl,M.find_cons,ih fun x hx=>h x (List.mem_cons_of_mem _ hx),if_neg (show ¬ (rc r).1=tl key from h r (by simp))];rfl
theorem results_find {tmps:Array Value} {a b:Nat} {u v:Value} {w:World} (h2:tmps.getD 4 undef= .pointer (some ⟨a,0,none⟩)) (h3:tmps.getD 5 undef= .pointer (some ⟨b,0,none⟩))
  (c1:w.cell? ⟨a,0,none⟩=some u) (c2:w.cell? ⟨b,0,none⟩=some v):(results Tryz.f28 tmps).run Tryz.prog w= .ok (.tuple #[u,v]) w:=by
 simp only [results,show Tryz.f28.results= #[ResultVar.cell 4 9,ResultVar.cell 5 4] from rfl]
 rw [Array.getD_eq_getD_getElem?] at h2 h3
 simp [go_sem,h2,h3,c1,c2]
theorem find_last {key:ByteArray} {l:List R2} {pre0:List (Nat × R2)} {x:Nat × R2} (h:(pre0++ [x]).map Prod.snd<+:l.reverse) (h0:NoKey key pre0) (hx:tl x.2.1=tl key):M.find (rcs l) (tl key)=some (tl x.2.2):=by
 obtain ⟨q,hq⟩:=h
 have hl:l=(q.reverse++ [x.2])++(pre0.map Prod.snd).reverse:=by
  have:=congrArg List.reverse hq
  rw [List.reverse_reverse] at this
  rw [←this];simp
 rw [hl,rcs_app,rcs_app,M.find_app,M.find_app]
 have h1:M.find (rcs (pre0.map Prod.snd).reverse) (tl key)=none:=find_none fun r hr=>by
  rw [List.mem_reverse] at hr
  obtain ⟨y,hy,rfl⟩:=List.mem_map.1 hr
  exact h0 y hy
 have h2:M.find (rcs [x.2]) (tl key)=some (tl x.2.2):=by
  rw [show rcs [x.2]= [rc x.2] from rfl,M.find_cons,M.find_nil,if_pos (show (rc x.2).1=tl key from hx)];rfl
 rw [h1,h2];rfl
theorem backward_any (A:Option Addr) (n c:Nat) (w:World):
  Calls Tryz.prog 71 #[.slice A n c] w fun e w'=>e= .returned (.func (.func 114) #[] #[.pointer (some ⟨w.heap.size,0,none⟩)])∧w'=w.alloc (.cells #[.slice A n c] 25):=by
 go_enter Tryz.func71,Tryz.ntmps71
 go_wp2
 go_ret
 exact ⟨rfl,rfl⟩
set_option maxRecDepth 100000 in
set_option maxHeartbeats 8000000 in
theorem find_in (A:Option Addr) (c:Nat) (l:List R2) (key:ByteArray) (hl:l.length≤1048576) (w:World) (h:RdR w w.heap.size A l):
  CallsIn Fence.wide 5 Tryz.prog 28 #[.slice A l.length c, .string key] w (fun e w'=> ∃ (v:ByteArray) (b:Bool),e= .returned (.tuple #[.string v, .bool b])∧tl v=(M.find (rcs l) (tl key)).getD []∧b=(M.find (rcs l) (tl key)).isSome∧Below w.heap.size w w'):=by
 have HR:=Lib.hid h
 clear h
 refine callsIn_of_wp_marks Tryz.func28 rfl trivial ?_ rfl
 simp only [Tryz.ntmps28,List.size_toArray,List.length_cons,List.length_nil,Nat.reduceAdd,Nat.reduceSub,Array.replicate_succ,Array.replicate_zero,List.push_toArray,List.append_toArray,List.nil_append,List.cons_append]
 gi_wp2_with fail
 refine ⟨trivial, ?_⟩
 refine (callsIn_wide.2 (backward_any _ _ _ _)).mono ?_
 rintro e w4 ⟨rfl,hw4⟩
 gi_wp2_with fail
 subst hw4
 obtain ⟨W4,hW4⟩: ∃ W4,((((w.alloc (.cells #[.string key] 9)).alloc (.cells #[.string ⟨#[]⟩] 9)).alloc (.cells #[.bool false] 4)).alloc (.cells #[.slice A l.length c] 25))=W4:=⟨_,rfl⟩
 have hs4:W4.heap.size=w.heap.size+4:=by rw [←hW4];simp
 have b4:Below w.heap.size w W4:=by
  rw [←hW4]
  exact ((((Below.refl _ w).alloc (Nat.le_refl _) _).alloc (by simp) _).alloc (by simp;omega) _).alloc (by simp;omega) _
 have x0:Boxed W4 w.heap.size 9 (.string key):=by rw [←hW4];exact (((Boxed.new w _ _).alloc _).alloc _).alloc _
 have x1:Boxed W4 (w.heap.size+1) 9 (.string ⟨#[]⟩):=by
  rw [←hW4]
  have:=((Boxed.new (w.alloc (.cells #[.string key] 9)) 9 (.string ⟨#[]⟩)).alloc (.cells #[.bool false] 4)).alloc (.cells #[.slice A l.length c] 25)
  rwa [World.size_alloc] at this
 have x2:Boxed W4 (w.heap.size+1+1) 4 (.bool false):=by
  rw [←hW4]
  have:=(Boxed.new ((w.alloc (.cells #[.string key] 9)).alloc (.cells #[.string ⟨#[]⟩] 9)) 4 (.bool false)).alloc (.cells #[.slice A l.length c] 25)
  rwa [World.size_alloc,World.size_alloc] at this
 have x3:Boxed W4 (w.heap.size+1+1+1) 25 (.slice A l.length c):=by
  rw [←hW4]
  have:=Boxed.new (((w.alloc (.cells #[.string key] 9)).alloc (.cells #[.string ⟨#[]⟩] 9)).alloc (.cells #[.bool false] 4)) 25 (.slice A l.length c)
  rwa [World.size_alloc,World.size_alloc,World.size_alloc] at this
 rw [hW4]
 clear hW4
 have hno: ∀ k,k<w.heap.size+3→ ¬ ownOf (fun k=>k=w.heap.size+1+1+1) (0+2) W4 k:=by
  rintro k hk (h|⟨h1,h2⟩)
  ·omega
  ·omega
 have HNO:=Lib.hid hno
 have HS4:=Lib.hid hs4
 clear hno hs4
 refine wpIn_rangeK (gf:=114) (lb:= #[.pointer (some ⟨w.heap.size+1+1+1,0,none⟩)]) rfl (enters_of Tryz.func114 (by kernel_rfl) rfl)
  (back_iter A c l hl (w.heap.size+1+1+1) w.heap.size) (fun o1 o2=>(x3.alloc _).alloc _) ?pv (fun _=>rfl)
  (fun pre wr=>FindAt w key pre wr) (fun j pre wr=>j= .ret∧FoundAt w key pre wr) ?hI ?hIx ?hK ?h0 ?round ?done ?stop
 case pv=>
  rintro k rfl
  rw [HS4.out];omega
 case hI=>
  rintro pre P Q ⟨h1,h2,h3,h4,h5⟩ ht
  exact ⟨h1,boxed_turned h2 ht (HNO.out _ (by omega)),boxed_turned h3 ht (HNO.out _ (by omega)),boxed_turned h4 ht (HNO.out _ (by omega)),ht.below_of h5 (fun k hk=>HNO.out k (by omega)) h5.size⟩
 case hIx=>
  rintro j pre P Q ⟨h0,p0,x,h1,h2,h3,h4,h5,h6⟩ ht
  exact ⟨h0,p0,x,h1,h2,h3,boxed_turned h4 ht (HNO.out _ (by omega)),boxed_turned h5 ht (HNO.out _ (by omega)),ht.below_of h6 (fun k hk=>HNO.out k (by omega)) h6.size⟩
 case hK=>
  rintro pre P ⟨_,_,_,_,h5⟩
  exact HR.out.below h5
 case h0=>exact ⟨fun x hx=>absurd hx (by simp),x0,x1,x2,b4⟩
 case round=>
  rintro pre ⟨i,s,t⟩ W ⟨h1,h2,h3,h4,h5⟩ hsz hlen
  refine ⟨{ tmps:= #[.slice A l.length c, .string key,undef, .pointer (some ⟨w.heap.size,0,none⟩), .pointer (some ⟨w.heap.size+1,0,none⟩), .pointer (some ⟨w.heap.size+1+1,0,none⟩),undef, .pointer (some ⟨W.heap.size,0,none⟩), .slice A l.length c,.func (.func 114) #[] #[.pointer (some ⟨w.heap.size+1+1+1,0,none⟩)], .int .i64 i, .agg #[.string s, .string t],undef,undef,undef,undef,undef,undef],defers:= [] },
   W.alloc (.cells #[.string s, .string t] 29),Spared.grown (World.grownBy_alloc W _ none) (fun r hr=>by cases hr),fun l' m=>⟨?asg, ?bd⟩⟩
  case asg=>
   intro K hK
   dsimp only [encP]
   gi_wp2
   exact hK
  case bd=>
   intro o
   have hsz4:=HS4.out
   have hn1:w.heap.size≠W4.heap.size+1:=by omega
   have hn2:w.heap.size+1≠W4.heap.size+1:=by omega
   have hn3:w.heap.size+1+1≠W4.heap.size+1:=by omega
   have hn4:W.heap.size≠W4.heap.size+1:=by omega
   have g2:=boxed_put (h2.alloc (.cells #[.string s, .string t] 29)) hn1 o
   have g3:=boxed_put (h3.alloc (.cells #[.string s, .string t] 29)) hn2 o
   have g4:=boxed_put (h4.alloc (.cells #[.string s, .string t] 29)) hn3 o
   have gx:BoxR ((W.alloc (.cells #[.string s, .string t] 29)).putObj (W4.heap.size+1) o) W.heap.size s t:=(World.putObj_heap_other hn4).trans (BoxR.new W s t)
   have g5:Below w.heap.size w ((W.alloc (.cells #[.string s, .string t] 29)).putObj (W4.heap.size+1) o):=(h5.alloc h5.size _).grown (grownBy_putObj' _ _ o) (by rw [World.size_alloc];have:=h5.size;omega) (fun k hk=>by injection hk with hk;omega)
   obtain ⟨V,hV⟩: ∃ V,(W.alloc (.cells #[.string s, .string t] 29)).putObj (W4.heap.size+1) o=V:=⟨_,rfl⟩
   rw [hV] at g2 g3 g4 gx g5⊢
   have c0:=gx.cell0
   have c1:=gx.cell1
   have ck:=g2.cell
   have f3:=g3.frozen
   have f4:=g4.frozen
   have d3:=g3.cell
   have d4:=g4.cell
   have HN:=Lib.hid h1
   clear hV hn1 hn2 hn3 hn4 h1 h2 h3 h4 h5
   by_cases hk:s=key
   ·subst hk
    have e12:w.heap.size+1≠w.heap.size+1+1:=by omega
    have e21:w.heap.size+1+1≠w.heap.size+1:=by omega
    gi_wp2
    refine ⟨?_,rfl,pre,(i,s,t),rfl,HN.out,rfl,boxed_set_far (g3.set _) e12,(boxed_set_far g4 e21).set _, ?_⟩
    ·refine (Spared.grown (grownBy_setCell' V (w.heap.size+1) _) ?_).trans (Spared.grown (grownBy_setCell' _ (w.heap.size+1+1) _) ?_)
     ·intro r hr
      injection hr with hr
      exact HNO.out r (by omega)
     ·intro r hr
      injection hr with hr
      exact HNO.out r (by omega)
    ·exact (g5.setCell (p:=⟨w.heap.size+1,0,none⟩) (by show w.heap.size≤w.heap.size+1;omega) _).setCell (p:=⟨w.heap.size+1+1,0,none⟩) (by show w.heap.size≤w.heap.size+1+1;omega) _
   ·have hne:(s.toList==key.toList)=false:=by
     rw [beq_eq_false_iff_ne,tl_eq,tl_eq]
     exact fun e=>hk (tl_inj e)
    have HK:=Lib.hid hk
    clear hk
    gi_wp2
    exact ⟨Spared.refl _ _,HN.out.snoc (fun e=>HK.out (tl_inj e)),g2,g3,g4,g5⟩
 case done=>
  rintro xs V hS ⟨h1,h2,h3,h4,h5⟩ hsz hk
  have hsz4:=HS4.out
  have c3:=h3.cell
  have c4:=h4.cell
  have f3:=h3.frozen
  have f4:=h4.frozen
  have e1:W4.heap.size≠w.heap.size+1:=by omega
  have e2:W4.heap.size≠w.heap.size+1+1:=by omega
  have HF:=Lib.hid (find_none (key:=key) (l:=l) fun r hr=>by
   have:r∈xs.map Prod.snd:=by rw [hS];exact List.mem_reverse.2 hr
   obtain ⟨y,hy,rfl⟩:=List.mem_map.1 this
   exact h1 y hy)
  clear h1 hS
  gi_wp2
  have hk2:=((Below.heap_setCell _ ⟨w.heap.size+1+1,0,none⟩ (.bool false) _ e2).trans (Below.heap_setCell V ⟨w.heap.size+1,0,none⟩ (.string ⟨#[]⟩) _ e1)).trans hk
  refine ⟨by simp, .inl ⟨_,_,rfl,run_takeDeferred hk2, ?_⟩⟩
  have k3:=boxed_put (boxed_set_far (u:= .bool false) (h3.set (.string ⟨#[]⟩)) (show w.heap.size+1≠w.heap.size+1+1 by omega)) (fun e=>e1 e.symm) (.deferred none)
  have k4:=boxed_put ((boxed_set_far (u:= .string ⟨#[]⟩) h4 (show w.heap.size+1+1≠w.heap.size+1 by omega)).set (.bool false)) (fun e=>e2 e.symm) (.deferred none)
  refine ⟨_,results_find rfl rfl k3.cell k4.cell,⟨#[]⟩,false,rfl,by rw [HF.out];rfl,by rw [HF.out];rfl, ?_⟩
  exact ((h5.setCell (p:=⟨w.heap.size+1,0,none⟩) (by show w.heap.size≤w.heap.size+1;omega) _).setCell (p:=⟨w.heap.size+1+1,0,none⟩) (by show w.heap.size≤w.heap.size+1+1;omega) _).grown (grownBy_putObj' _ _ _) (by simp [World.setCell];have:=h5.size;omega) (fun k hk=>by injection hk with hk;omega)
 case stop=>
  rintro j pre V hS ⟨rfl,p0,x,rfl,h2,h3,h4,h5,h6⟩ hsz hk
  have hsz4:=HS4.out
  have HF:=Lib.hid (find_last hS h2 h3)
  have e1:w.heap.size+1≠W4.heap.size:=by omega
  have e2:w.heap.size+1+1≠W4.heap.size:=by omega
  clear hS h2 h3
  gi_wp2
  refine ⟨by simp, .inl ⟨_,_,rfl,run_takeDeferred hk, ?_⟩⟩
  refine ⟨_,results_find rfl rfl (boxed_put h4 e1 _).cell (boxed_put h5 e2 _).cell,_,true,rfl,by rw [HF.out];rfl,by rw [HF.out];rfl, ?_⟩
  exact h6.grown (grownBy_putObj' _ _ _) h6.size (fun k hk=>by injection hk with hk;omega)
end Go.Proofs.YtjpmpjbembhldaaGreatDoor.Px
