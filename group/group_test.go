package group

import (
	"bytes"
	"math"
	"reflect"
	"slices"
	"strconv"
	"strings"
	"testing"

	"mudlark/api"
	"mudlark/head"
	"mudlark/num"
	"mudlark/pax"
	"mudlark/sum"
)

// recs are records of keys, each with its value behind it.
func recs(texts ...string) []api.Rec {
	var l []api.Rec
	for pair := range slices.Chunk(texts, 2) {
		l = append(l, api.Rec{Key: pair[0], Value: pair[1]})
	}
	return l
}

// parts are those of numbers, each At with the Len behind it.
func parts(numbers ...int) []api.Part {
	var l []api.Part
	for pair := range slices.Chunk(numbers, 2) {
		l = append(l, api.Part{At: pair[0], Len: pair[1]})
	}
	return l
}

// letters are so many of a text's.
func letters(n int) string {
	return strings.Repeat("n", n)
}

// some is so many bytes, of which none is 00 and neighbouring blocks differ.
func some(n int) []byte {
	b := make([]byte, n)
	for i := range b {
		b[i] = byte(1 + (i+i/512*7)%255)
	}
	return b
}

// filled is b with as few noughts behind it as make blocks.
func filled(b []byte) []byte {
	return append(bytes.Clone(b), make([]byte, (512-len(b)%512)%512)...)
}

// laid is a header's block.
func laid(h api.Header) []byte {
	b, e := head.Print(h)
	if e != api.OK {
		panic("no block of " + h.Name)
	}
	return b
}

// named is a header of a kind with a name, a size, and what else it may not lack.
func named(kind byte, name string, size int) api.Header {
	h := api.Header{Name: name, Kind: kind, Way: api.Gnu, Size: size}
	if kind == api.Hard || kind == api.Soft {
		h.Link = "to"
	}
	return h
}

// mainBlock is the block of such a one.
func mainBlock(kind byte, name string, size int) []byte {
	return laid(named(kind, name, size))
}

// lines is the payload of records.
func lines(l []api.Rec) string {
	b, e := pax.Print(l)
	if e != api.OK {
		panic("no payload of records")
	}
	return string(b)
}

// extension is a header of a kind, with a payload behind it.
func extension(kind byte, payload string) []byte {
	return append(mainBlock(kind, "ext", len(payload)), filled([]byte(payload))...)
}

// further is a block of parts behind a header.
func further(goesOn byte, l ...api.Part) []byte {
	var b []byte
	for _, p := range l {
		for _, n := range []int{p.At, p.Len} {
			field, _ := num.Put(n, 12)
			b = append(b, field...)
		}
	}
	b = filled(append(b, 0))
	b[504] = goesOn
	return b
}

// holedBlock is the header of a file with holes.
func holedBlock(size, real int, more bool, l ...api.Part) []byte {
	h := named(api.Sparse, "s", size)
	h.Real, h.More, h.Parts = real, more, l
	return laid(h)
}

// changed is a block with another text at a place, sealed.
func changed(b []byte, place int, text string) []byte {
	b = bytes.Clone(b)
	copy(b[place:], text)
	return sum.Seal(b)
}

// unsealed is a block that does not tell its sum.
func unsealed(b []byte) []byte {
	b = bytes.Clone(b)
	b[0]++
	return b
}

// image is one of blocks, all of which can be read; spoilt has some that can't.
func image(blocks ...[]byte) api.Image {
	return api.Image{Bytes: slices.Concat(blocks...)}
}

func spoilt(x api.Image, bad ...int) api.Image {
	return api.Image{Bytes: x.Bytes, Bad: bad}
}

// cut is an image without so many of its last bytes.
func cut(x api.Image, n int) api.Image {
	return api.Image{Bytes: x.Bytes[:len(x.Bytes)-n], Bad: x.Bad}
}

// wrongBlocks are blocks that are no header, and why.
func wrongBlocks() map[string]struct {
	b []byte
	e api.Errno
} {
	plain := mainBlock(api.File, "a", 0)
	return map[string]struct {
		b []byte
		e api.Errno
	}{
		"noughts":        {make([]byte, 512), api.ErrSum},
		"another sum":    {unsealed(plain), api.ErrSum},
		"another kind":   {changed(plain, 156, "N"), api.ErrKind},
		"S, of Ustar":    {changed(plain, 156, "S"+strings.Repeat("\x00", 100)+"ustar\x0000"), api.ErrKind},
		"no way":         {changed(plain, 257, "tar"), api.ErrField},
		"no mode":        {changed(plain, 100, "9"), api.ErrField},
		"a size below 0": {changed(plain, 124, "\xff\xff\xff\xff\xff\xff\xff\xff\xff\xff\xff\xff"), api.ErrField},
	}
}

// payloads holds a payload against what it should be.
func payloads(t *testing.T, name string, x api.Image, i, size int, want []byte, behind int) {
	t.Helper()
	// Of all that a header tells the size alone counts.
	for _, h := range []api.Header{{Size: size}, {Name: "a", Kind: api.Global, Size: size, Real: 9000}, {Kind: 'N', Size: size, More: true}} {
		b, n, e := Payload(x, i, h)
		if !bytes.Equal(b, want) || n != behind || e != api.OK {
			t.Errorf("%s: Payload at %d, of %d = %d bytes, %d, %d; want %d, %d", name, i, size, len(b), n, e, len(want), behind)
		}
	}
}

func payloadsNone(t *testing.T, name string, x api.Image, i, size int, want api.Errno) {
	t.Helper()
	if b, n, e := Payload(x, i, api.Header{Kind: api.Local, Size: size}); len(b) != 0 || n != 0 || e != want {
		t.Errorf("%s: Payload at %d, of %d = %d bytes, %d, %d; want %d", name, i, size, len(b), n, e, want)
	}
}

func TestPayload(t *testing.T) {
	b := some(5 * 512)
	x := image(b)
	for i := -1; i < 5; i++ {
		front := b[(i+1)*512:]
		for size := 0; size <= len(front); size++ {
			payloads(t, "whole", x, i, size, front[:size], i+1+(size+511)/512)
		}
		for _, size := range []int{-1, -511, -512, -513, math.MinInt} {
			payloads(t, "below 0", x, i, size, nil, i+1)
		}
		for _, size := range []int{len(front) + 1, len(front) + 512, len(front) + 513, api.MaxExt} {
			payloadsNone(t, "beyond the end", x, i, size, api.ErrEnd)
		}
	}
}

// A payload of no bytes needs no block.
func TestPayloadOfNothing(t *testing.T) {
	for _, x := range []api.Image{{}, image(some(512)), image(some(5)), spoilt(image(some(1024)), 0, 1, 2, 8)} {
		for _, i := range []int{-512, -2, -1, 0, 1, 2, 7, 1 << 40} {
			payloads(t, "nothing", x, i, 0, nil, i+1)
			payloads(t, "less", x, i, -1, nil, i+1)
		}
	}
}

func TestPayloadOfTooMuch(t *testing.T) {
	b := some(api.MaxExt + 1024)
	x := image(b)
	payloads(t, "as much as may be", x, 0, api.MaxExt, b[512:512+api.MaxExt], 2049)
	payloads(t, "one less", x, 1, api.MaxExt-1, b[1024:1024+api.MaxExt-1], 2050)
	for _, size := range []int{api.MaxExt + 1, api.MaxExt + 512, 1 << 40, math.MaxInt - 511, math.MaxInt} {
		payloadsNone(t, "too much", x, 0, size, api.ErrLong)
		// That is told ahead of all that is wrong with the blocks.
		payloadsNone(t, "too much, bad", spoilt(x, 1), 0, size, api.ErrLong)
		payloadsNone(t, "too much, of nothing", api.Image{}, 0, size, api.ErrLong)
		payloadsNone(t, "too much, far off", x, math.MaxInt, size, api.ErrLong)
	}
}

func TestPayloadOutside(t *testing.T) {
	x := image(some(1024))
	for _, i := range []int{-2, -3, -512, math.MinInt, 1, 2, 3, 1 << 31, 1 << 54, 1 << 55, 1 << 56, math.MaxInt - 1, math.MaxInt} {
		for _, size := range []int{1, 512, 513, api.MaxExt} {
			payloadsNone(t, "outside", x, i, size, api.ErrEnd)
		}
	}
}

// Block by block: what is wrong first is told.
func TestPayloadErrors(t *testing.T) {
	whole := image(some(4 * 512))
	short := cut(whole, 1)
	for _, c := range []struct {
		name    string
		x       api.Image
		i, size int
		want    api.Errno
	}{
		{"the first one is bad", spoilt(whole, 1), 0, 1, api.ErrBad},
		{"the second one is bad", spoilt(whole, 2), 0, 513, api.ErrBad},
		{"the last one is bad", spoilt(whole, 3), 0, 1025, api.ErrBad},
		{"all are bad", spoilt(whole, 0, 1, 2, 3), 0, 1, api.ErrBad},
		{"bad ones in no order", spoilt(whole, 3, 2, 2), 0, 513, api.ErrBad},
		{"bad ahead of the end", spoilt(whole, 3), 2, 5000, api.ErrBad},
		{"the end ahead of what is bad", spoilt(whole, 4), 2, 5000, api.ErrEnd},
		{"bad, and no block", spoilt(whole, 4), 3, 1, api.ErrEnd},
		{"bad, and no block, in front", spoilt(whole, -1), -2, 1, api.ErrEnd},
		{"a byte lacks", short, 2, 512, api.ErrEnd},
		{"a byte lacks that is none of it", short, 2, 1, api.ErrEnd},
		{"all but a byte lack", cut(whole, 511), 2, 1, api.ErrEnd},
		{"a byte lacks, far behind", short, 0, 1025, api.ErrEnd},
		{"a byte lacks, and it is bad", spoilt(short, 3), 2, 1, api.ErrBad},
		{"bad ahead of one that lacks a byte", spoilt(short, 2), 0, 1500, api.ErrBad},
		{"no bytes", api.Image{}, 0, 1, api.ErrEnd},
		{"no bytes, at the front", api.Image{}, -1, 1, api.ErrEnd},
		{"no bytes, bad", spoilt(api.Image{}, 0), -1, 1, api.ErrEnd},
	} {
		payloadsNone(t, c.name, c.x, c.i, c.size, c.want)
	}
}

// Blocks that are none of it may be as they are, the header's own one among them.
func TestPayloadBesideBadBlocks(t *testing.T) {
	b := some(5*512 + 7)
	x := spoilt(image(b), 0, 1, 4, 5, 9, -1)
	payloads(t, "between", x, 1, 1024, b[1024:2048], 4)
	payloads(t, "between, less", x, 1, 513, b[1024:1537], 4)
	payloadsNone(t, "one more", x, 1, 1025, api.ErrBad)
	payloadsNone(t, "one block ahead", x, 0, 512, api.ErrBad)
	payloads(t, "ahead of one that lacks bytes", image(b), 3, 512, b[2048:2560], 5)
}

// globals holds the records of all that follow against what they should be.
func globals(t *testing.T, name string, x api.Image, i int, want []api.Rec, behind int) {
	t.Helper()
	if l, n, e := Global(x, i); !slices.Equal(l, want) || n != behind || e != api.OK {
		t.Errorf("%s: Global at %d = %v, %d, %d; want %v, %d", name, i, l, n, e, want, behind)
	}
}

func globalsNone(t *testing.T, name string, x api.Image, i int, want api.Errno) {
	t.Helper()
	if l, n, e := Global(x, i); len(l) != 0 || n != 0 || e != want {
		t.Errorf("%s: Global at %d = %v, %d, %d; want %d", name, i, l, n, e, want)
	}
}

func TestGlobal(t *testing.T) {
	globals(t, "none", image(extension('g', "")), 0, nil, 1)
	globals(t, "one", image(extension('g', "6 a=b\n")), 0, recs("a", "b"), 2)
	globals(t, "as they stand", image(extension('g', "6 b=1\n5 a=\n6 b=2\n")), 0, recs("b", "1", "a", "", "b", "2"), 2)
	for _, n := range []int{505, 506, 507, 1016, 1017, 1018, 1019, 100000} {
		l := recs("k", letters(n))
		behind := 1 + (len(lines(l))+511)/512
		globals(t, "of "+strconv.Itoa(n), image(extension('g', lines(l)), some(512)), 0, l, behind)
		globals(t, "of "+strconv.Itoa(n)+", behind others", image(some(1024), extension('g', lines(l))), 2, l, 2+behind)
	}
	// Of each way, and whatever else its header tells.
	for way := range 3 {
		h := api.Header{Name: "d/", Kind: 'g', Way: way, Size: 6, Mode: 7, Uid: 1, Link: "x", Mtime: -5}
		globals(t, "way "+strconv.Itoa(way), image(laid(h), filled([]byte("6 a=b\n"))), 0, recs("a", "b"), 2)
	}
}

func TestGlobalOfOtherKinds(t *testing.T) {
	for _, kind := range []byte("01234567SxLK") {
		x := image(extension(kind, "6 a=b\n"))
		globalsNone(t, string(kind), x, 0, api.ErrKind)
		// That is told ahead of all that is wrong with the payload.
		globalsNone(t, string(kind)+", cut", cut(x, 1), 0, api.ErrKind)
		globalsNone(t, string(kind)+", bad", spoilt(x, 1), 0, api.ErrKind)
		globalsNone(t, string(kind)+", too long", image(mainBlock(kind, "a", api.MaxExt+1)), 0, api.ErrKind)
	}
	globalsNone(t, "00", image(changed(mainBlock('0', "a", 0), 156, "\x00")), 0, api.ErrKind)
}

func TestGlobalErrors(t *testing.T) {
	x := image(extension('g', "6 a=b\n"))
	for i, want := range map[int]api.Errno{
		-1: api.ErrEnd, math.MinInt: api.ErrEnd, 2: api.ErrEnd, 3: api.ErrEnd, 1 << 55: api.ErrEnd, math.MaxInt: api.ErrEnd, 1: api.ErrSum,
	} {
		globalsNone(t, "outside", x, i, want)
		globalsNone(t, "outside, and bad", spoilt(x, 2, 3, -1), i, want)
	}
	globalsNone(t, "no bytes", api.Image{}, 0, api.ErrEnd)
	globalsNone(t, "bad", spoilt(x, 0), 0, api.ErrBad)
	globalsNone(t, "bad, and no header", spoilt(image(some(512)), 0), 0, api.ErrBad)
	globalsNone(t, "bad, and short", spoilt(image(some(511)), 0), 0, api.ErrBad)
	globalsNone(t, "short", image(mainBlock('g', "g", 0)[:511]), 0, api.ErrShort)
	for name, c := range wrongBlocks() {
		globalsNone(t, name, image(c.b), 0, c.e)
	}
	globalsNone(t, "cut ahead of the payload", cut(x, 512), 0, api.ErrEnd)
	globalsNone(t, "cut in the payload", cut(x, 1), 0, api.ErrEnd)
	globalsNone(t, "a bad payload", spoilt(x, 1), 0, api.ErrBad)
	globalsNone(t, "too long", image(mainBlock('g', "g", api.MaxExt+1)), 0, api.ErrLong)
	globalsNone(t, "no records", image(extension('g', "x")), 0, api.ErrRecs)
	globalsNone(t, "noughts behind records", image(mainBlock('g', "g", 7), filled([]byte("6 a=b\n"))), 0, api.ErrRecs)
	globalsNone(t, "one byte less", image(mainBlock('g', "g", 5), filled([]byte("6 a=b\n"))), 0, api.ErrRecs)
	globalsNone(t, "too many", image(extension('g', strings.Repeat("6 a=b\n", 1001))), 0, api.ErrLong)
	globalsNone(t, "too many, and cut", cut(image(extension('g', strings.Repeat("6 a=b\n", 1001))), 513), 0, api.ErrEnd)
}

func TestGlobalOfAsManyAsMayBe(t *testing.T) {
	globals(t, "1000", image(extension('g', strings.Repeat("6 a=b\n", 1000))), 0, slices.Repeat(recs("a", "b"), 1000), 13)
	l := recs("k", letters(api.MaxExt-len("1048576 k=\n")))
	globals(t, "2^20 bytes", image(extension('g', lines(l))), 0, l, 2049)
}

func TestBytes(t *testing.T) {
	b := some(2000)
	x := spoilt(image(b), 1, 2)
	for _, from := range []int{math.MinInt, -1, 0, 1, 511, 512, 1999, 2000, 2001, 1 << 40, math.MaxInt} {
		for _, size := range []int{math.MinInt, -1, 0, 1, 2, 512, 1488, 1489, 1999, 2000, 2001, 1 << 40, math.MaxInt - 512, math.MaxInt} {
			front := b[min(max(from, 0), 2000):]
			want := front[:min(max(size, 0), len(front))]
			// Data and Size alone count, be the blocks bad or not.
			for _, g := range []api.Group{
				{Data: from, Meta: api.Meta{Size: size}},
				{At: 7, Main: 7, Next: 1, Data: from, Global: recs("size", "3"), Meta: api.Meta{Size: size, Real: 5, Holes: true, Parts: parts(0, 1), Kind: api.Dir}},
			} {
				if got := Bytes(x, g); !bytes.Equal(got, want) {
					t.Errorf("Bytes from %d, of %d: %d bytes; want %d", from, size, len(got), len(want))
				}
			}
			if got := Bytes(api.Image{}, api.Group{Data: from, Meta: api.Meta{Size: size}}); len(got) != 0 {
				t.Errorf("Bytes of nothing, from %d, of %d: %d bytes", from, size, len(got))
			}
		}
	}
}

func TestExample(t *testing.T) {
	if g, e := Read(api.Image{}, 0, nil, nil); !reflect.DeepEqual(g, api.Group{}) || e != api.ErrEnd {
		t.Errorf("Read = %+v, %d; want ErrEnd", g, e)
	}
}
