/-
  What a block tells of a header, and why it tells none.
-/
import Derived.Test.YtcedcfagfklohaaKhHdMath
set_option linter.unusedVariables false
set_option linter.unusedSimpArgs false
namespace Go.Proofs.Ytcedcfagfklohaa.Hd
namespace M
/-- The texts, one behind the other: k of them are read. -/
def rt (zs : List Int) (h : Hdr) : Nat → Hdr
  | 0 => h
  | 1 => { h with name := txt zs 0 100 }
  | 2 => { h with name := txt zs 0 100, link := txt zs 157 100 }
  | 3 => { h with name := txt zs 0 100, link := txt zs 157 100, user := if h.way != 0 then txt zs 265 32 else h.user }
  | 4 => { h with name := txt zs 0 100, link := txt zs 157 100, user := if h.way != 0 then txt zs 265 32 else h.user, group := if h.way != 0 then txt zs 297 32 else h.group }
  | _ => { h with name := txt zs 0 100, link := txt zs 157 100, user := if h.way != 0 then txt zs 265 32 else h.user, group := if h.way != 0 then txt zs 297 32 else h.group, pre := if h.way == 1 then txt zs 345 155 else h.pre }
def maxSize : Int := 1099511627776
def holed (h : Hdr) : Bool := h.kind == 83 && h.way == 2
/-- The numbers: k of them are read. -/
def rn (zs : List Int) (h : Hdr) (k : Nat) : Hdr :=
  { h with
    mode := if 1 ≤ k then num zs 100 8 else h.mode
    uid := if 2 ≤ k then num zs 108 8 else h.uid
    gid := if 3 ≤ k then num zs 116 8 else h.gid
    size := if 4 ≤ k then num zs 124 12 else h.size
    mtime := if 5 ≤ k then num zs 136 12 else h.mtime
    major := if 6 ≤ k then if h.way != 0 then num zs 329 8 else h.major else h.major
    minor := if 7 ≤ k then if h.way != 0 then num zs 337 8 else h.minor else h.minor
    real := if 8 ≤ k then if holed h then num zs 483 12 else h.real else h.real }
/-- The first one that may not be. -/
def rnOk (zs : List Int) (kind way : Int) : Nat → Bool
  | 0 => numOk zs 100 8 0 most
  | 1 => numOk zs 108 8 0 most
  | 2 => numOk zs 116 8 0 most
  | 3 => numOk zs 124 12 0 maxSize
  | 4 => numOk zs 136 12 (-most) most
  | 5 => !(way != 0) || numOk zs 329 8 0 most
  | 6 => !(way != 0) || numOk zs 337 8 0 most
  | _ => !(kind == 83 && way == 2) || numOk zs 483 12 0 maxSize
def allOk (zs : List Int) (kind way : Int) : Bool := rnOk zs kind way 0 && (rnOk zs kind way 1 && (rnOk zs kind way 2 && (rnOk zs kind way 3 && (rnOk zs kind way 4 && (rnOk zs kind way 5 && (rnOk zs kind way 6 && rnOk zs kind way 7))))))
/-- What a block's fields tell, but for what a sparse one alone has. -/
def told (zs : List Int) (w : Nat) : Hdr := rn zs (rt zs { kind := kind zs, way := w } 5) 8
/-- The error's number, the header. -/
def hparse (zs : List Int) : Int × Hdr :=
  if zs.length ≠ 512 then (21, {})
  else if right zs = false then (30, {})
  else if known (kind zs) = false then (31, {})
  else match way zs with
    | none => (32, {})
    | some w =>
      if allOk zs (kind zs) w = false then (32, {})
      else if may (kind zs) w = false then (31, {})
      else if kind zs = 83 then
        match parts zs 386 4 with
        | none => (32, {})
        | some l => (0, { told zs w with parts := l, more := byt zs 482 != 0 })
      else (0, told zs w)
end M
end Go.Proofs.Ytcedcfagfklohaa.Hd
