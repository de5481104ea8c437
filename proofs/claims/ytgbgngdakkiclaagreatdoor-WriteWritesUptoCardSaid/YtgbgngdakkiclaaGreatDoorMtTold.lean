import Derived.Test.YtgbgngdakkiclaaGreatDoorStepZ
import Derived.Test.YtgbgngdakkiclaaGreatDoorMtTakeZ
import Derived.Test.YtgbgngdakkiclaaGreatDoorMtDelZ
set_option linter.unusedVariables false
set_option linter.unusedSimpArgs false
namespace Go.Proofs.YtgbgngdakkiclaaGreatDoor
open Go.RowKit Go.Lib
open Px (R2 tl)
attribute [local go_sem ↓] add_plain
section
variable {P:Program} {md:Region.Mode} {ops:Array Oper} {Q:Exit→Act→World→Prop} {S:World→Prop}
end
def RdT (w:World) (B:Nat) (A:Option Addr) (l:List ByteArray):Prop:=0<l.length→ ∃ b off,A=some ⟨b,off,none⟩∧b<B∧ ∀ k s,l[k]?=some s→w.cell? ⟨b,off+k,none⟩=some (.string s)
theorem RdT.below {w w':World} {B:Nat} {A:Option Addr} {l:List ByteArray} (h:RdT w B A l) (hb:Below B w w'):RdT w' B A l:=fun hn=>by
 obtain ⟨b,off,e,hB,hc⟩:=h hn
 exact ⟨b,off,e,hB,fun k s hs=>(hb.cell (p:=⟨b,off+k,none⟩) hB).trans (hc k s hs)⟩
structure TI (W wx:World) (g:Nat) (m:M.Met):Prop where
 lo:W.heap.size≤g
 met:MB wx g m (.slice none 0 0) (.slice none 0 0)
 below:Below W.heap.size W wx
theorem TI.set {W wx:World} {g:Nat} {m m':M.Met} (I:TI W wx g m) (i:Nat) (v:Value) (e:(mcells m (.slice none 0 0) (.slice none 0 0)).set! i v=mcells m' (.slice none 0 0) (.slice none 0 0)):TI W (wx.setCell ⟨g,i,none⟩ v) g m':=
 ⟨I.lo,I.met.set i v e,I.below.setCell (p:=⟨g,i,none⟩) I.lo v⟩
end Go.Proofs.YtgbgngdakkiclaaGreatDoor
