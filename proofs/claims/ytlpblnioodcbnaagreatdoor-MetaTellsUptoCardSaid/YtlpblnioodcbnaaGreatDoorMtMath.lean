/-
  What is known of a member, as plain data: what is told of it, and what a header and records tell. No program.
-/
import Derived.Test.YtlpblnioodcbnaaGreatDoorKX
import Derived.Test.YtlpblnioodcbnaaGreatDoorKT
import Derived.Test.YtlpblnioodcbnaaGreatDoorKS
import Derived.Test.YtlpblnioodcbnaaGreatDoorKN
set_option linter.unusedVariables false
set_option linter.unusedSimpArgs false
namespace Go.Proofs.YtlpblnioodcbnaaGreatDoor
namespace M
open Px (tl R2 ltB)
open Px.M (Rc find merge)

structure Met where
  name : ByteArray := ⟨#[]⟩
  link : ByteArray := ⟨#[]⟩
  kind : Int := 0
  mode : Int := 0
  uid : Int := 0
  gid : Int := 0
  user : ByteArray := ⟨#[]⟩
  group : ByteArray := ⟨#[]⟩
  sec : Int := 0
  nan : Int := 0
  major : Int := 0
  minor : Int := 0
  size : Int := 0
  real : Int := 0
  holes : Bool := false
  parts : List (Int × Int) := []
  extra : List R2 := []

structure Hdr where
  name : ByteArray := ⟨#[]⟩
  mode : Int := 0
  uid : Int := 0
  gid : Int := 0
  size : Int := 0
  mtime : Int := 0
  kind : Int := 0
  link : ByteArray := ⟨#[]⟩
  way : Int := 0
  user : ByteArray := ⟨#[]⟩
  group : ByteArray := ⟨#[]⟩
  major : Int := 0
  minor : Int := 0
  pre : ByteArray := ⟨#[]⟩
  parts : List (Int × Int) := []
  more : Bool := false
  real : Int := 0

def kPath : ByteArray := ⟨#[112, 97, 116, 104]⟩
def kLink : ByteArray := ⟨#[108, 105, 110, 107, 112, 97, 116, 104]⟩
def kUser : ByteArray := ⟨#[117, 110, 97, 109, 101]⟩
def kGroup : ByteArray := ⟨#[103, 110, 97, 109, 101]⟩
def kUid : ByteArray := ⟨#[117, 105, 100]⟩
def kGid : ByteArray := ⟨#[103, 105, 100]⟩
def kSize : ByteArray := ⟨#[115, 105, 122, 101]⟩
def kTime : ByteArray := ⟨#[109, 116, 105, 109, 101]⟩
def kMap : ByteArray := ⟨#[71, 78, 85, 46, 115, 112, 97, 114, 115, 101, 46, 109, 97, 112]⟩
def kReal : ByteArray := ⟨#[71, 78, 85, 46, 115, 112, 97, 114, 115, 101, 46, 115, 105, 122, 101]⟩
def keys : List (List UInt8) := [tl kPath, tl kLink, tl kUser, tl kGroup, tl kUid, tl kGid, tl kSize, tl kTime, tl kMap, tl kReal]
def isKey (k : List UInt8) : Bool := decide (k ∈ keys)

def within (n lo up : Int) : Bool := decide (lo ≤ n) && decide (n ≤ up)
def isLink (k : Int) : Bool := k == 49 || k == 50
def isDev (k : Int) : Bool := k == 51 || k == 52
def noNul (l : List UInt8) : Bool := l.all fun c => !(c == 0)
def isText (s : ByteArray) (lo up : Int) : Bool := within (s.size : Int) lo up && noNul (tl s)
def slash (l : List UInt8) : Bool := l.getLast? == some 47

def cutsAt (l : List UInt8) (i : Nat) : Bool := (l[i]? == some 47) && decide (1 ≤ i) && decide (i ≤ 155) && decide (i + 2 ≤ l.length) && decide (l.length ≤ i + 101)
def cutPlace (l : List UInt8) : Option Nat := (List.range l.length).find? (cutsAt l)
def split (s : ByteArray) : ByteArray × ByteArray × Bool :=
  if s.size ≤ 100 then (⟨#[]⟩, s, true)
  else match cutPlace (tl s) with
    | some i => (s.extract 0 i, s.extract (i + 1) s.size, true)
    | none => (⟨#[]⟩, s.extract 0 100, false)

def dec (t : List UInt8) (most : Int) : Option Int :=
  match Lib.atoiAll t with
  | .ok n => if within n 0 most = true ∧ Lib.itoa n = t then some n else none
  | _ => none

def lastOf (l : List ByteArray) (o : ByteArray) : ByteArray := l.getLast?.getD o
def nameOf (h : Hdr) : ByteArray := if h.pre.size = 0 then h.name else h.pre ++ ⟨#[47]⟩ ++ h.name
def told (h : Hdr) (names links : List ByteArray) : Met :=
  { name := lastOf names (nameOf h), link := lastOf links h.link, kind := h.kind, mode := h.mode, uid := h.uid, gid := h.gid, user := h.user, group := h.group,
    sec := (St.M.norm (h.mtime, 0)).1, nan := (St.M.norm (h.mtime, 0)).2, major := h.major, minor := h.minor, size := h.size }
def textR (r : List Rc) (k : ByteArray) (o : ByteArray) : ByteArray :=
  match find r (tl k) with
  | some v => ⟨v.toArray⟩
  | none => o
def numR (r : List Rc) (k : ByteArray) (most o : Int) : Option Int :=
  match find r (tl k) with
  | some v => dec v most
  | none => some o
def timeR (r : List Rc) (k : ByteArray) (o : St.M.Tm) : Option St.M.Tm :=
  match find r (tl k) with
  | some v => (St.M.parse v).map St.M.norm
  | none => some o
def taken (r : List Rc) (m : Met) : Option Met :=
  match numR r kUid 4611686018427387904 m.uid, numR r kGid 4611686018427387904 m.gid, numR r kSize 1099511627776 m.size, timeR r kTime (m.sec, m.nan) with
  | some u, some g, some s, some t => some { m with name := textR r kPath m.name, link := textR r kLink m.link, user := textR r kUser m.user, group := textR r kGroup m.group, uid := u, gid := g, size := s, sec := t.1, nan := t.2 }
  | _, _, _, _ => none
def kindOf (m : Met) : Int :=
  if (if m.kind = 55 ∨ m.kind = 83 then 48 else m.kind) = 48 ∧ slash (tl m.name) = true then 53 else if m.kind = 55 ∨ m.kind = 83 then 48 else m.kind
def strip (m : Met) : Met :=
  { m with kind := kindOf m, link := if isLink (kindOf m) then m.link else ⟨#[]⟩, major := if isDev (kindOf m) then m.major else 0, minor := if isDev (kindOf m) then m.minor else 0,
           size := if kindOf m = 48 then m.size else 0, real := if kindOf m = 48 then m.size else 0 }
def some_ (l : List (Int × Int)) : List (Int × Int) := l.filter fun p => !(p.2 == 0)
def dig (m : Met) (h : Hdr) (r : List Rc) (more : List (Int × Int)) : Option Met :=
  if m.kind = 48 then
    match find r (tl kMap), find r (tl kReal) with
    | none, none => if h.kind = 83 then some { m with holes := true, parts := some_ (h.parts ++ more), real := h.real } else some m
    | some t, some s =>
      match Sp.M.parse t, dec s 1099511627776 with
      | some l, some n => some { m with holes := true, parts := some_ l, real := n }
      | _, _ => none
    | _, _ => none
  else some m

def mk (r : Rc) : R2 := (⟨r.1.toArray⟩, ⟨r.2.toArray⟩)
def rc (r : R2) : Rc := (tl r.1, tl r.2)
def hasTexts (m : Met) : Bool :=
  !(m.kind == 48 && slash (tl m.name)) && (isText m.name 1 4096 && (isText m.link (if isLink m.kind then 1 else 0) (if isLink m.kind then 4096 else 0) && (isText m.user 0 4096 && isText m.group 0 4096)))
def hasNumbers (m : Met) : Bool :=
  within m.mode 0 2097151 && (within m.major 0 (if isDev m.kind then 2097151 else 0) && (within m.minor 0 (if isDev m.kind then 2097151 else 0) && (within m.uid 0 4611686018427387904 && (within m.gid 0 4611686018427387904 &&
    (decide (St.M.norm (m.sec, m.nan) = (m.sec, m.nan)) && (within m.size 0 (if m.kind = 48 then 1099511627776 else 0) && (m.holes || m.real == m.size && m.parts.isEmpty)))))))
def extraOk (last : List UInt8) (r : R2) : Bool := Px.M.right (rc r) && (!isKey (tl r.1) && (!(r.2.size == 0) && ltB last (tl r.1)))
def isExtra : List UInt8 → List R2 → Bool
  | _, [] => true
  | last, r :: l => extraOk last r && isExtra (tl r.1) l
def hasHoles (m : Met) : Bool := m.kind == 48 && (m.parts.all (fun p => !(p.2 == 0)) && Sp.M.check m.parts m.size m.real == 0)
def wrong (m : Met) : Nat :=
  if within m.kind 48 54 = false then 31
  else if hasTexts m = false then 33
  else if hasNumbers m = false then 32
  else if isExtra [] m.extra = false ∨ (m.holes = true ∧ hasHoles m = false) then 34
  else 0

def fits (n : Int) (wide : Int) : Bool := Nm.M.octFits n wide
def gName (m : Met) : List Rc := if (split m.name).2.2 = true then [] else [(tl kPath, tl m.name)]
def gText (k s : ByteArray) (wide : Nat) : List Rc := if s.size ≤ wide then [] else [(tl k, tl s)]
def gNum (k : ByteArray) (n : Int) (wide : Int) : List Rc := if fits n wide = true then [] else [(tl k, Lib.itoa n)]
def timeFits (m : Met) : Bool := fits m.sec 12 && m.nan == 0
def gTime (m : Met) : List Rc := if timeFits m = true then [] else [(tl kTime, St.M.pr (St.M.norm (m.sec, m.nan)))]
def layout (l : List (Int × Int)) : List UInt8 := if l = [] then [48, 44, 48] else Sp.M.print l
def gHoles (m : Met) : List Rc := if m.holes = true then [(tl kMap, layout m.parts), (tl kReal, Lib.itoa m.real)] else []
def gives (m : Met) : List Rc :=
  gName m ++ (gText kLink m.link 100 ++ (gText kUser m.user 32 ++ (gText kGroup m.group 32 ++ (gNum kUid m.uid 8 ++ (gNum kGid m.gid 8 ++ (gNum kSize m.size 12 ++ (gTime m ++ gHoles m)))))))
def recsOf (m : Met) : List Rc := merge ltB (gives m) (m.extra.map rc)
def head (m : Met) : Hdr :=
  { way := 1, kind := m.kind, mode := m.mode, major := m.major, minor := m.minor, pre := (split m.name).1, name := (split m.name).2.1,
    link := m.link.extract 0 100, user := m.user.extract 0 32, group := m.group.extract 0 32,
    uid := if fits m.uid 8 then m.uid else 0, gid := if fits m.gid 8 then m.gid else 0, size := if fits m.size 12 then m.size else 0,
    mtime := if timeFits m then m.sec else 0 }
def toE (m : Met) : Nat := if wrong m ≠ 0 then wrong m else Px.M.printE (recsOf m)
def toH (m : Met) : Hdr := if toE m = 0 then head m else {}
def toR (m : Met) : List Rc := if toE m = 0 then recsOf m else []

def kindMay (k : Int) : Bool := within k 48 55 || k == 83
def known (h : Hdr) (recs : List Rc) (names links : List ByteArray) (more : List (Int × Int)) : Option Met :=
  ((taken (merge ltB recs []) (told h names links)).bind fun m => dig (strip m) h (merge ltB recs []) more).map
    fun m => { m with extra := ((merge ltB recs []).filter fun r => !isKey r.1).map mk }
def fromE (h : Hdr) (recs : List Rc) (names links : List ByteArray) (more : List (Int × Int)) : Nat :=
  if kindMay h.kind = false then 31
  else match known h recs names links more with
    | none => 34
    | some m => toE m
def fromM (h : Hdr) (recs : List Rc) (names links : List ByteArray) (more : List (Int × Int)) : Met :=
  if fromE h recs names links more = 0 then (known h recs names links more).getD {} else {}
end M
end Go.Proofs.YtlpblnioodcbnaaGreatDoor
