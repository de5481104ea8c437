/-
  How a header is laid in a block, and why it is not.
-/
import Derived.Test.YtcedcfagfklohaaKhHdMathP
import Derived.Test.YtcedcfagfklohaaKhHdFieldP
set_option linter.unusedVariables false
set_option linter.unusedSimpArgs false
namespace Go.Proofs.Ytcedcfagfklohaa.Hd
namespace M

/-- With what there is, else the error. -/
def bnd (o : Option (List Int)) (e : Int) (f : List Int → Int × List Int) : Int × List Int := match o with
  | none => (e, [])
  | some z => f z
def chk (b : Bool) (e : Int) (r : Int × List Int) : Int × List Int := if b = true then r else (e, [])
theorem bnd_none (e : Int) (f : List Int → Int × List Int) : bnd none e f = (e, []) := rfl
theorem bnd_some (z : List Int) (e : Int) (f : List Int → Int × List Int) : bnd (some z) e f = f z := rfl
theorem chk_no (e : Int) (r : Int × List Int) : chk false e r = (e, []) := rfl
theorem chk_yes (e : Int) (r : Int × List Int) : chk true e r = r := rfl

def putT (zs : List Int) (a m : Nat) (s : ByteArray) : Option (List Int) := (S.M.put s.data.toList m).map fun l => splice zs a (S.ints l)
def putN (zs : List Int) (a m : Nat) (there : Bool) (lo up x : Int) : Option (List Int) :=
  if there = true then if putOk x m lo up = true then some (splice zs a (putR x m)) else none
  else if x = 0 then some zs else none
/-- Parts, the first one's number is i. -/
def pputs : List Int → Nat → List (Int × Int) → Option (List Int)
  | zs, _, [] => some zs
  | zs, i, p :: l =>
    if p.1 = 0 ∧ p.2 = 0 then none
    else if putOk p.1 12 0 most = true then
      if putOk p.2 12 0 most = true then pputs (splice (splice zs (386 + 24 * i) (putR p.1 12)) (386 + 24 * i + 12) (putR p.2 12)) (i + 1) l else none
    else none
def putP (zs : List Int) (l : List (Int × Int)) : Option (List Int) := if l.length ≤ 4 then pputs zs 0 l else none
def blank (s : ByteArray) : Bool := s.toList == []
/-- Is there nothing where the way has nothing? -/
def bare (h : Hdr) : Bool := ((h.way != 0) || blank h.user) && (((h.way != 0) || blank h.group) && ((h.way == 1) || blank h.pre))
def isWay (v : Int) : Bool := decide (0 ≤ v) && decide (v < 3)
def flat (h : Hdr) : Bool := (h.kind == 83) || (decide (h.parts.length = 0) && !h.more)

def hprint (h : Hdr) : Int × List Int :=
  chk (known h.kind && may h.kind h.way) 31 <|
  bnd (putT ((nils 512).set 156 h.kind) 0 100 h.name) 33 fun z1 =>
  bnd (putT z1 157 100 h.link) 33 fun z2 =>
  bnd (putT z2 265 32 h.user) 33 fun z3 =>
  bnd (putT z3 297 32 h.group) 33 fun z4 =>
  bnd (putT z4 345 155 h.pre) 33 fun z5 =>
  chk (bare h) 32 <|
  chk (isWay h.way) 32 <|
  bnd (putN (splice z5 257 (magic h.way.toNat)) 100 8 true 0 most h.mode) 32 fun y1 =>
  bnd (putN y1 108 8 true 0 most h.uid) 32 fun y2 =>
  bnd (putN y2 116 8 true 0 most h.gid) 32 fun y3 =>
  bnd (putN y3 124 12 true 0 maxSize h.size) 32 fun y4 =>
  bnd (putN y4 136 12 true (-most) most h.mtime) 32 fun y5 =>
  bnd (putN y5 329 8 (h.way != 0) 0 most h.major) 32 fun y6 =>
  bnd (putN y6 337 8 (h.way != 0) 0 most h.minor) 32 fun y7 =>
  bnd (putN y7 483 12 (h.kind == 83 && h.way == 2) 0 maxSize h.real) 32 fun y8 =>
  chk (flat h) 32 <|
  bnd (putP y8 h.parts) 32 fun x =>
  (0, sld (if h.more = true then x.set 482 1 else x))
end M
end Go.Proofs.Ytcedcfagfklohaa.Hd
