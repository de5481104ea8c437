import Derived.RangeFuncNested
import Derived.RangeFuncBound
import Derived.RangeFuncCalls
import Derived.RangeFuncLeaves
import Derived.Shelf.Abstract
import Derived.Shelf.RegionOpen
import Derived.WalkKit
import Derived.OwnWalkIn
import Derived.TacticsInMore
import Derived.LoopNIn
import Derived.LoopIn
set_option linter.unusedVariables false
set_option linter.unusedSimpArgs false
namespace Go.Proofs.YtgbgngdakkiclaaGreatDoor
open Go.RowKit Go.Shelf
structure Turned (own:Nat→Prop) (A B:World):Prop where
 os:B.os=A.os
 tape:B.tape=A.tape
 output:B.output=A.output
 size:A.heap.size≤B.heap.size
 block: ∀ k,k<A.heap.size→ ¬ own k→B.heap[k]?=A.heap[k]?
section
variable {own own':Nat→Prop} {A B C:World}
theorem Turned.refl (own:Nat→Prop) (A:World):Turned own A A:=⟨rfl,rfl,rfl,Nat.le_refl _,fun _ _ _=>rfl⟩
theorem Turned.trans (h:Turned own A B) (k:Turned own B C):Turned own A C:=
 ⟨k.os.trans h.os,k.tape.trans h.tape,k.output.trans h.output,Nat.le_trans h.size k.size,fun i hi hn=>(k.block i (Nat.lt_of_lt_of_le hi h.size) hn).trans (h.block i hi hn)⟩
theorem Turned.mono (h:Turned own A B) (hm: ∀ k,own k→own' k):Turned own' A B:=
 ⟨h.os,h.tape,h.output,h.size,fun i hi hn=>h.block i hi (fun ho=>hn (hm i ho))⟩
theorem Turned.grown {row:Option Nat} (hg:A.grownBy B row) (hr: ∀ r,row=some r→own r):Turned own A B:=
 ⟨hg.os,hg.tape,hg.output,hg.size,fun i hi hn=>hg.block i hi (fun e=>hn (hr i e.symm))⟩
theorem Turned.alloc (own:Nat→Prop) (A:World) (o:Obj):Turned own A (A.alloc o):= .grown (World.grownBy_alloc A o none) (fun _ e=>by cases e)
theorem Turned.setCell {p:Addr} (hk:own p.block) (A:World) (v:Value):Turned own A (A.setCell p v):=
 ⟨rfl,rfl,rfl,by simp [World.setCell],fun k _ hn=>Below.heap_setCell A p v k (fun e=>hn (e▸hk))⟩
theorem Turned.drew (own:Nat→Prop) (A:World):Turned own A A.drew:=⟨rfl,rfl,rfl,Nat.le_refl _,fun _ _ _=>rfl⟩
theorem Turned.drewN (own:Nat→Prop) (A:World) (n:Nat):Turned own A (A.drewN n):=⟨rfl,rfl,rfl,Nat.le_refl _,fun _ _ _=>rfl⟩
theorem Turned.below {n:Nat} (h:Turned own A B) (hn: ∀ k,own k→n≤k) (hs:n≤A.heap.size):Below n A B:=
 ⟨h.os,h.tape,h.output,h.size,fun i hi=>h.block i (by omega) (fun ho=>by have:=hn i ho;omega)⟩
theorem Turned.of_below {n:Nat} (h:Below n A B) (hn: ∀ k,k<A.heap.size→n≤k→own k):Turned own A B:=
 ⟨h.os,h.tape,h.output,h.size,fun i hi ho=>h.block i (by have:=hn i hi;rcases Nat.lt_or_ge i n with hl|hl;exact hl;exact absurd (this hl) ho)⟩
theorem Turned.cell (h:Turned own A B) {p:Addr} {v:Value} (hc:A.cell? p=some v) (hn: ¬ own p.block):B.cell? p=some v:=by
 have hlt:p.block<A.heap.size:=World.block_lt_of_cell? _ _ hc
 exact (World.cell?_of_block (h.block _ hlt hn)).trans hc
end
structure Spared (own:Nat→Prop) (A B:World):Prop where
 size:A.heap.size≤B.heap.size
 block: ∀ k,own k→k<A.heap.size→B.heap[k]?=A.heap[k]?
theorem Spared.refl (own:Nat→Prop) (A:World):Spared own A A:=⟨Nat.le_refl _,fun _ _ _=>rfl⟩
theorem Spared.trans {own:Nat→Prop} {A B C:World} (h:Spared own A B) (k:Spared own B C):Spared own A C:=
 ⟨Nat.le_trans h.size k.size,fun i ho hi=>(k.block i ho (Nat.lt_of_lt_of_le hi h.size)).trans (h.block i ho hi)⟩
theorem Spared.mono {own own':Nat→Prop} {A B:World} (h:Spared own A B) (hm: ∀ k,own' k→own k):Spared own' A B:=⟨h.size,fun i ho hi=>h.block i (hm i ho) hi⟩
theorem Spared.grown {own:Nat→Prop} {A B:World} {row:Option Nat} (hg:A.grownBy B row) (hr: ∀ r,row=some r→ ¬ own r):Spared own A B:=
 ⟨hg.size,fun i ho hi=>hg.block i hi (fun e=>hr i e.symm ho)⟩
theorem Spared.turned {own own':Nat→Prop} {A B:World} (h:Turned own' A B) (hr: ∀ k,own' k→ ¬ own k):Spared own A B:=
 ⟨h.size,fun i ho hi=>h.block i hi (fun e=>hr i e ho)⟩
theorem Spared.below {own:Nat→Prop} {n:Nat} {A B:World} (h:Below n A B) (hr: ∀ k,own k→k<n):Spared own A B:=
 ⟨h.size,fun i ho _=>h.block i (hr i ho)⟩
theorem Spared.cell {own:Nat→Prop} {A B:World} (h:Spared own A B) {p:Addr} {v:Value} (hc:A.cell? p=some v) (hn:own p.block):B.cell? p=some v:=by
 have hlt:p.block<A.heap.size:=World.block_lt_of_cell? _ _ hc
 exact (World.cell?_of_block (h.block _ hn hlt)).trans hc
variable {P:Program}
end Go.Proofs.YtgbgngdakkiclaaGreatDoor
