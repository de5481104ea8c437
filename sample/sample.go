// Package sample makes records, headers and archives that the tests of the layers above meta work on; no layer stands on it.
package sample

import (
	"bytes"
	"slices"
	"strings"

	"mudlark/api"
	"mudlark/head"
	"mudlark/meta"
	"mudlark/num"
	"mudlark/pax"
	"mudlark/sum"
)

// Recs are records of keys, each with its value behind it.
func Recs(texts ...string) []api.Rec {
	var l []api.Rec
	for pair := range slices.Chunk(texts, 2) {
		l = append(l, api.Rec{Key: pair[0], Value: pair[1]})
	}
	return l
}

// Parts are those of numbers, each At with the Len behind it.
func Parts(numbers ...int) []api.Part {
	var l []api.Part
	for pair := range slices.Chunk(numbers, 2) {
		l = append(l, api.Part{At: pair[0], Len: pair[1]})
	}
	return l
}

// Letters are so many of a text's.
func Letters(n int) string {
	return strings.Repeat("n", n)
}

// Some is so many bytes, of which none is 00 and neighbouring blocks differ.
func Some(n int) []byte {
	b := make([]byte, n)
	for i := range b {
		b[i] = byte(1 + (i+i/api.Block*7)%255)
	}
	return b
}

// Filled is b with as few noughts behind it as make blocks; Noughts are so many blocks of them.
func Filled(b []byte) []byte {
	rest := len(b) % api.Block
	if rest == 0 {
		return bytes.Clone(b)
	}
	return append(bytes.Clone(b), make([]byte, api.Block-rest)...)
}

func Noughts(n int) []byte {
	return make([]byte, n*api.Block)
}

// Laid is a header's block; it must have one.
func Laid(h api.Header) []byte {
	b, e := head.Print(h)
	if e != api.OK {
		panic("no block of " + h.Name)
	}
	return b
}

// Named is a header of a kind with a name, a size, and what else it may not lack; Main is the block of such a one.
func Named(kind byte, name string, size int) api.Header {
	h := api.Header{Name: name, Kind: kind, Way: api.Gnu, Size: size}
	if kind == api.Hard || kind == api.Soft {
		h.Link = "to"
	}
	return h
}

func Main(kind byte, name string, size int) []byte {
	return Laid(Named(kind, name, size))
}

// File is one of a name, with its bytes, as it stands in an archive.
func File(name string, data []byte) []byte {
	return append(Main(api.File, name, len(data)), Filled(data)...)
}

// Written is a member as the writer lays it, byte by byte; it must be one that may be.
func Written(m api.Member) []byte {
	h, l, e := meta.To(m.Meta)
	if e != api.OK {
		panic("no header of " + m.Meta.Name)
	}
	var b []byte
	if len(l) > 0 {
		payload := []byte(Lines(l))
		b = append(Laid(api.Header{Name: "pax", Mode: 0o644, Size: len(payload), Kind: api.Local, Way: api.Ustar}), Filled(payload)...)
	}
	return slices.Concat(b, Laid(h), Filled(m.Data))
}

// Archived are pieces, one behind the other, with the end.
func Archived(pieces ...[]byte) []byte {
	return append(slices.Concat(pieces...), Noughts(2)...)
}

// Same says whether members are alike, and so is what they have behind them; SameGroup whether groups are, SameFound whether members that were found.
func Same(l, want []api.Member) bool {
	return slices.EqualFunc(l, want, func(a, b api.Member) bool {
		return meta.Same(a.Meta, b.Meta) && bytes.Equal(a.Data, b.Data)
	})
}

func SameGroup(a, b api.Group) bool {
	return a.At == b.At && a.Main == b.Main && a.Data == b.Data && a.Next == b.Next &&
		slices.Equal(a.Global, b.Global) && meta.Same(a.Meta, b.Meta)
}

func SameFound(a, b api.Found) bool {
	return a.At == b.At && a.Data == b.Data && a.Len == b.Len && a.Partial == b.Partial && meta.Same(a.Meta, b.Meta)
}

// FileMeta is what is known of a file of a name with so many bytes, SoftMeta of a link; With is m with records of no field.
func FileMeta(name string, size int) api.Meta {
	return api.Meta{Name: name, Kind: api.File, Size: size, Real: size}
}

func SoftMeta(name, link string) api.Meta {
	return api.Meta{Name: name, Link: link, Kind: api.Soft}
}

func With(m api.Meta, texts ...string) api.Meta {
	m.Extra = Recs(texts...)
	return m
}

// Found is a member of which so many bytes are there.
func Found(at, data, n int, m api.Meta) api.Found {
	return api.Found{At: at, Data: data, Len: n, Partial: n < m.Size, Meta: m}
}

// Lines is the payload of records; they must have one.
func Lines(l []api.Rec) string {
	b, e := pax.Print(l)
	if e != api.OK {
		panic("no payload of records")
	}
	return string(b)
}

// Extension is a header of a kind, with a payload behind it; Records is one of keys, each with its value behind it.
func Extension(kind byte, payload string) []byte {
	return append(Main(kind, "ext", len(payload)), Filled([]byte(payload))...)
}

func Records(kind byte, texts ...string) []byte {
	return Extension(kind, Lines(Recs(texts...)))
}

// Holed is the header of a file with holes, Further a block of parts behind it.
func Holed(size, real int, more bool, l ...api.Part) []byte {
	h := Named(api.Sparse, "s", size)
	h.Real, h.More, h.Parts = real, more, l
	return Laid(h)
}

func Further(goesOn byte, l ...api.Part) []byte {
	var b []byte
	for _, p := range l {
		for _, n := range []int{p.At, p.Len} {
			field, _ := num.Put(n, 12)
			b = append(b, field...)
		}
	}
	b = Filled(append(b, 0))
	b[504] = goesOn
	return b
}

// Changed is a block with another text at a place, sealed; Unsealed one that does not tell its sum.
func Changed(b []byte, place int, text string) []byte {
	b = bytes.Clone(b)
	copy(b[place:], text)
	return sum.Seal(b)
}

func Unsealed(b []byte) []byte {
	b = bytes.Clone(b)
	b[0]++
	return b
}

// NoGroup is blocks at the first of which no group begins, and why; NoGroups are some, by what they are.
type NoGroup struct {
	Bytes []byte
	Errno api.Errno
}

func NoGroups() map[string]NoGroup {
	main, ext := Main(api.File, "a", 3), Records(api.Local, "k", "v")
	return map[string]NoGroup{
		"no block":           {nil, api.ErrEnd},
		"part of one":        {main[:511], api.ErrShort},
		"noughts":            {Noughts(1), api.ErrSum},
		"a suspect":          {Unsealed(main), api.ErrSum},
		"another kind":       {Changed(main, 156, "N"), api.ErrKind},
		"no size":            {Changed(main, 124, "x"), api.ErrField},
		"no name":            {Changed(main, 0, "\x00"), api.ErrText},
		"no records":         {Extension(api.Local, "x"), api.ErrRecs},
		"a global":           {Records(api.Global, "k", "v"), api.ErrOrder},
		"two of a kind":      {slices.Concat(ext, ext, main), api.ErrOrder},
		"nothing behind":     {ext, api.ErrEnd},
		"a payload too long": {Main(api.LongName, "l", api.MaxExt+1), api.ErrLong},
	}
}

// Like is a block of so many points that is no header, as its sum is none: 5 or 6 of them.
func Like(points int) []byte {
	b := make([]byte, api.Block)
	copy(b[148:], "x")
	copy(b[257:], "ustar\x0000")
	copy(b, "a")
	if points == api.Sure {
		b[156] = api.File
	}
	return b
}

// Torn is an extension, so many blocks that were lost, and what is behind them. What was lost would do, were it read.
func Torn(ext []byte, lost int, behind ...[]byte) api.Image {
	x := Image(ext, bytes.Repeat(Main(api.File, "a", 0), lost), slices.Concat(behind...))
	for i := range lost {
		x.Bad = append(x.Bad, len(ext)/api.Block+i)
	}
	return x
}

// Image is one of blocks, all of which can be read; Spoilt has some that can't, Cut lacks so many of its last bytes.
func Image(blocks ...[]byte) api.Image {
	return api.Image{Bytes: slices.Concat(blocks...)}
}

func Spoilt(x api.Image, bad ...int) api.Image {
	return api.Image{Bytes: x.Bytes, Bad: bad}
}

func Cut(x api.Image, n int) api.Image {
	return api.Image{Bytes: x.Bytes[:len(x.Bytes)-n], Bad: x.Bad}
}
