import Derived.Shelf.Bytes.GrowSliceCatch
import Derived.Shelf.Bytes.GrowSlice
import Derived.Shelf.Bytes.LenAt
import Derived.Shelf.Bytes.TryGrowAt
import Derived.Shelf.Bytes.GrowRow0At
import Derived.Shelf.Bytes.GrowRowAt
import Derived.Shelf.Bytes.GrowNilAt
import Derived.Shelf.Bytes.GrowAt
import Derived.Shelf.Bytes.WriteAt
import Derived.Test.YtgbgngdakkiclaaGreatDoorShelf
namespace Go.Proofs
open Go.Shelf
def Tryz.laysM324_ren:Go.Shelf.Ren:=⟨fun|324=>112|n=>n,fun|20=>20|4=>4|75=>70|0=>0|80=>263|9=>9|n=>n,fun|14=>0|n=>n⟩
def Tryz.laysM290_ren:Go.Shelf.Ren:=⟨fun|290=>77|324=>112|n=>n,fun|37=>22|3=>3|0=>0|4=>4|20=>20|75=>70|5=>5|80=>263|9=>9|n=>n,fun|14=>0|n=>n⟩
theorem Tryz.laysM290:Go.Proofs.LaysM.n290 Tryz.prog Tryz.laysM290_ren:= {
 mixed:=by kernel_rfl
 f290:=Tryz.func77.trans (congrArg some (by kernel_rfl))
 f324:=Tryz.func112.trans (congrArg some (by kernel_rfl))
 t0:=Tryz.underlying0
 a0:=Tryz.isAgg0
 z0:=Tryz.sizeOf0
 v0:=Tryz.zeroValue0
 t3:=Tryz.underlying3
 a3:=Tryz.isAgg3
 z3:=Tryz.sizeOf3
 v3:=Tryz.zeroValue3
 t4:=Tryz.underlying4
 a4:=Tryz.isAgg4
 z4:=Tryz.sizeOf4
 v4:=Tryz.zeroValue4
 t20:=Tryz.underlying20
 a20:=Tryz.isAgg20
 z20:=Tryz.sizeOf20
 v20:=Tryz.zeroValue20
 t37:=Tryz.underlying22
 a37:=Tryz.isAgg22
 z37:=Tryz.sizeOf22
 v37:=Tryz.zeroValue22
 t75:=Tryz.underlying70
 a75:=Tryz.isAgg70
 z75:=Tryz.sizeOf70
 v75:=Tryz.zeroValue70
 g14:=by kernel_rfl
 t5:=Tryz.underlying5
 a5:=Tryz.isAgg5
 z5:=Tryz.sizeOf5
 v5:=Tryz.zeroValue5
 t9:=Tryz.underlying9
 a9:=Tryz.isAgg9
 z9:=Tryz.sizeOf9
 v9:=Tryz.zeroValue9
 t80:=Tryz.underlying263
 a80:=Tryz.isAgg263
 z80:=Tryz.sizeOf263
 v80:=Tryz.zeroValue263
 i0:=by kernel_rfl
 i3:=by kernel_rfl
 i4:=by kernel_rfl
 i5:=by kernel_rfl
 i9:=by kernel_rfl
 i20:=by kernel_rfl
 i37:=by kernel_rfl
 i75:=by kernel_rfl
 i80:=by kernel_rfl
 m14:=by kernel_rfl }
open Go.RowKit in
theorem Tryz.bytes_growSlice_row (g l c n:Nat) (cur:Array Value) (w:World) (hg:w.heap[g]?=some (.cells cur 5 (0,0))) (hcs:cur.size=c) (hlc:l≤c) (hn:1≤n) (hlim:l+n≤140737488355328) (hc2:c≤140737488355328) (h1: ∀ v∈cur.toList.take l,v.oneCell'=true):
  Calls Tryz.prog 77 #[.slice (some ⟨g,0,none⟩) l c, .int .i64 n] w fun e w'=> ∃ cap2 cells,e= .returned (.slice (some ⟨w.heap.size,0,none⟩) l cap2)∧w'.heap[w.heap.size]?=some (.cells cells 5 (0,0))∧
   cells.size=cap2∧cells.toList.take l=cur.toList.take l∧l+n≤cap2∧cap2≤maxLen∧Below w.heap.size w w':=Any.bytes_growSlice_row Tryz.laysM290 g l c n cur w hg hcs hlc hn hlim hc2 h1
open Go.RowKit in
theorem Tryz.bytes_growSlice_nil (n:Nat) (w:World) (hn:1≤n) (hlim:n≤140737488355328):
  Calls Tryz.prog 77 #[.slice none 0 0, .int .i64 n] w fun e w'=> ∃ cap2 cells,e= .returned (.slice (some ⟨w.heap.size,0,none⟩) 0 cap2)∧w'.heap[w.heap.size]?=some (.cells cells 5 (0,0))∧
   cells.size=cap2∧n≤cap2∧cap2≤maxLen∧Below w.heap.size w w':=Any.bytes_growSlice_nil Tryz.laysM290 n w hn hlim
def Tryz.laysM181_ren:Go.Shelf.Ren:=⟨fun|181=>72|n=>n,fun|130=>85|3=>3|0=>0|93=>58|37=>22|91=>56|5=>5|n=>n,fun|n=>n⟩
theorem Tryz.laysM181:Go.Proofs.LaysM.n181 Tryz.prog Tryz.laysM181_ren:= {
 mixed:=by kernel_rfl
 f181:=Tryz.func72.trans (congrArg some (by kernel_rfl))
 t0:=Tryz.underlying0
 a0:=Tryz.isAgg0
 z0:=Tryz.sizeOf0
 v0:=Tryz.zeroValue0
 t3:=Tryz.underlying3
 a3:=Tryz.isAgg3
 z3:=Tryz.sizeOf3
 v3:=Tryz.zeroValue3
 t37:=Tryz.underlying22
 a37:=Tryz.isAgg22
 z37:=Tryz.sizeOf22
 v37:=Tryz.zeroValue22
 t93:=Tryz.underlying58
 a93:=Tryz.isAgg58
 z93:=Tryz.sizeOf58
 v93:=Tryz.zeroValue58
 t130:=Tryz.underlying85
 a130:=Tryz.isAgg85
 z130:=Tryz.sizeOf85
 v130:=Tryz.zeroValue85
 t5:=Tryz.underlying5
 a5:=Tryz.isAgg5
 z5:=Tryz.sizeOf5
 v5:=Tryz.zeroValue5
 t91:=Tryz.underlying56
 a91:=Tryz.isAgg56
 z91:=Tryz.sizeOf56
 v91:=Tryz.zeroValue56
 i0:=by kernel_rfl
 i3:=by kernel_rfl
 i5:=by kernel_rfl
 i37:=by kernel_rfl
 i91:=by kernel_rfl
 i93:=by kernel_rfl
 i130:=by kernel_rfl }
open Go.RowKit in
theorem Tryz.Buffer_Len_at (T:TypeId) (R:Nat→Option Value) (B b q:Nat) (bs:List Value) (w:World) (h:LibA.IsBuffer T R 5 B b q bs w):
  Calls Tryz.prog 72 #[.pointer (some ⟨b,q,none⟩)] w fun e w'=>e= .returned (.int .i64 bs.length)∧ ∃ n,w'=w.drewN n:=Any.Buffer_Len_at Tryz.laysM181 T R B b q bs w h
def Tryz.laysM251_ren:Go.Shelf.Ren:=⟨fun|251=>56|n=>n,fun|130=>85|3=>3|4=>4|0=>0|93=>58|37=>22|91=>56|5=>5|n=>n,fun|n=>n⟩
theorem Tryz.laysM251:Go.Proofs.LaysM.n251 Tryz.prog Tryz.laysM251_ren:= {
 mixed:=by kernel_rfl
 f251:=Tryz.func56.trans (congrArg some (by kernel_rfl))
 t0:=Tryz.underlying0
 a0:=Tryz.isAgg0
 z0:=Tryz.sizeOf0
 v0:=Tryz.zeroValue0
 t3:=Tryz.underlying3
 a3:=Tryz.isAgg3
 z3:=Tryz.sizeOf3
 v3:=Tryz.zeroValue3
 t4:=Tryz.underlying4
 a4:=Tryz.isAgg4
 z4:=Tryz.sizeOf4
 v4:=Tryz.zeroValue4
 t37:=Tryz.underlying22
 a37:=Tryz.isAgg22
 z37:=Tryz.sizeOf22
 v37:=Tryz.zeroValue22
 t93:=Tryz.underlying58
 a93:=Tryz.isAgg58
 z93:=Tryz.sizeOf58
 v93:=Tryz.zeroValue58
 t130:=Tryz.underlying85
 a130:=Tryz.isAgg85
 z130:=Tryz.sizeOf85
 v130:=Tryz.zeroValue85
 t5:=Tryz.underlying5
 a5:=Tryz.isAgg5
 z5:=Tryz.sizeOf5
 v5:=Tryz.zeroValue5
 t91:=Tryz.underlying56
 a91:=Tryz.isAgg56
 z91:=Tryz.sizeOf56
 v91:=Tryz.zeroValue56
 i0:=by kernel_rfl
 i3:=by kernel_rfl
 i4:=by kernel_rfl
 i5:=by kernel_rfl
 i37:=by kernel_rfl
 i91:=by kernel_rfl
 i93:=by kernel_rfl
 i130:=by kernel_rfl }
open Go.RowKit in
theorem Tryz.Buffer_tryGrow_room_at (b q:Nat) (ao:Option Addr) (l cap n:Nat) (w:World) (c0:w.cell? ⟨b,q,none⟩=some (.slice ao l cap)) (f0:w.frozen? ⟨b,q,none⟩=false) (hlc:l≤cap) (hcap:cap≤maxLen) (hn:n≤cap - l):
  Calls Tryz.prog 56 #[.pointer (some ⟨b,q,none⟩), .int .i64 n] w fun e w'=>e= .returned (.tuple #[.int .i64 l, .bool true])∧w'=w.setCell ⟨b,q,none⟩ (.slice ao (l+n) cap):=Any.Buffer_tryGrow_room_at Tryz.laysM251 b q ao l cap n w c0 f0 hlc hcap hn
open Go.RowKit in
theorem Tryz.Buffer_tryGrow_none_at (b q:Nat) (ao:Option Addr) (l cap n:Nat) (w:World) (c0:w.cell? ⟨b,q,none⟩=some (.slice ao l cap)) (hlc:l≤cap) (hcap:cap≤maxLen) (hn:cap - l<n):
  Calls Tryz.prog 56 #[.pointer (some ⟨b,q,none⟩), .int .i64 n] w fun e w'=>e= .returned (.tuple #[.int .i64 0, .bool false])∧w'=w:=Any.Buffer_tryGrow_none_at Tryz.laysM251 b q ao l cap n w c0 hlc hcap hn
open Go.RowKit in
open Go.RowKit in
open Go.RowKit in
open Go.RowKit in
open Go.RowKit in
open Go.RowKit in
def Tryz.laysM180_ren:Go.Shelf.Ren:=⟨fun|180=>26|251=>56|252=>57|181=>72|184=>76|290=>77|324=>112|n=>n,fun|130=>85|37=>22|3=>3|75=>70|0=>0|93=>58|91=>56|131=>105|4=>4|20=>20|5=>5|80=>263|9=>9|n=>n,fun|14=>0|n=>n⟩
theorem Tryz.laysM180:Go.Proofs.LaysM.n180 Tryz.prog Tryz.laysM180_ren:= {
 mixed:=by kernel_rfl
 f180:=Tryz.func26.trans (congrArg some (by kernel_rfl))
 f181:=Tryz.func72.trans (congrArg some (by kernel_rfl))
 f184:=Tryz.func76.trans (congrArg some (by kernel_rfl))
 f251:=Tryz.func56.trans (congrArg some (by kernel_rfl))
 f252:=Tryz.func57.trans (congrArg some (by kernel_rfl))
 f290:=Tryz.func77.trans (congrArg some (by kernel_rfl))
 f324:=Tryz.func112.trans (congrArg some (by kernel_rfl))
 t0:=Tryz.underlying0
 a0:=Tryz.isAgg0
 z0:=Tryz.sizeOf0
 v0:=Tryz.zeroValue0
 t3:=Tryz.underlying3
 a3:=Tryz.isAgg3
 z3:=Tryz.sizeOf3
 v3:=Tryz.zeroValue3
 t4:=Tryz.underlying4
 a4:=Tryz.isAgg4
 z4:=Tryz.sizeOf4
 v4:=Tryz.zeroValue4
 t20:=Tryz.underlying20
 a20:=Tryz.isAgg20
 z20:=Tryz.sizeOf20
 v20:=Tryz.zeroValue20
 t37:=Tryz.underlying22
 a37:=Tryz.isAgg22
 z37:=Tryz.sizeOf22
 v37:=Tryz.zeroValue22
 t75:=Tryz.underlying70
 a75:=Tryz.isAgg70
 z75:=Tryz.sizeOf70
 v75:=Tryz.zeroValue70
 t91:=Tryz.underlying56
 a91:=Tryz.isAgg56
 z91:=Tryz.sizeOf56
 v91:=Tryz.zeroValue56
 t93:=Tryz.underlying58
 a93:=Tryz.isAgg58
 z93:=Tryz.sizeOf58
 v93:=Tryz.zeroValue58
 t130:=Tryz.underlying85
 a130:=Tryz.isAgg85
 z130:=Tryz.sizeOf85
 v130:=Tryz.zeroValue85
 t131:=Tryz.underlying105
 a131:=Tryz.isAgg105
 z131:=Tryz.sizeOf105
 v131:=Tryz.zeroValue105
 g14:=by kernel_rfl
 t5:=Tryz.underlying5
 a5:=Tryz.isAgg5
 z5:=Tryz.sizeOf5
 v5:=Tryz.zeroValue5
 t9:=Tryz.underlying9
 a9:=Tryz.isAgg9
 z9:=Tryz.sizeOf9
 v9:=Tryz.zeroValue9
 t80:=Tryz.underlying263
 a80:=Tryz.isAgg263
 z80:=Tryz.sizeOf263
 v80:=Tryz.zeroValue263
 i0:=by kernel_rfl
 i3:=by kernel_rfl
 i4:=by kernel_rfl
 i5:=by kernel_rfl
 i9:=by kernel_rfl
 i20:=by kernel_rfl
 i37:=by kernel_rfl
 i75:=by kernel_rfl
 i80:=by kernel_rfl
 i91:=by kernel_rfl
 i93:=by kernel_rfl
 i130:=by kernel_rfl
 i131:=by kernel_rfl
 m14:=by kernel_rfl }
open Go.RowKit in
theorem Tryz.Buffer_Write_at (T:TypeId) (R:Nat→Option Value) (B b q:Nat) (bs cs:List Value) (a:Addr) (n c:Nat) (w:World) (h:LibA.IsBuffer T R 5 B b q bs w) (hBw:B≤w.heap.size) (h1: ∀ v∈bs,v.oneCell'=true) (hn:cs.length=n) (hab:a.block≠b) (hsrc: ∀ j v,cs[j]?=some v→w.cell? (a.add j)=some v) (h1c: ∀ v∈cs,v.oneCell'=true) (hlim:bs.length+n≤140737488355328):
  Calls Tryz.prog 26 #[.pointer (some ⟨b,q,none⟩), .slice (some a) n c] w fun e w'=>e= .returned (.tuple #[.int .i64 n, .nilIface])∧LibA.IsBuffer T R 5 B b q (bs++cs) w'∧Below B w w'∧Lib.OthersKept 5 (some b) w w':=Any.Buffer_Write_at Tryz.laysM180 T R B b q bs cs a n c w h hBw h1 hn hab hsrc h1c hlim
end Go.Proofs
