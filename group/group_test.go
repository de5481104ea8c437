package group

import (
	"bytes"
	"math"
	"reflect"
	"slices"
	"strconv"
	"strings"
	"testing"

	"mudlark/api"
	"mudlark/sample"
)

// wrongBlocks are blocks that are no header, and why.
func wrongBlocks() map[string]struct {
	b []byte
	e api.Errno
} {
	plain := sample.Main(api.File, "a", 0)
	return map[string]struct {
		b []byte
		e api.Errno
	}{
		"noughts":        {make([]byte, 512), api.ErrSum},
		"another sum":    {sample.Unsealed(plain), api.ErrSum},
		"another kind":   {sample.Changed(plain, 156, "N"), api.ErrKind},
		"S, of Ustar":    {sample.Changed(plain, 156, "S"+strings.Repeat("\x00", 100)+"ustar\x0000"), api.ErrKind},
		"no way":         {sample.Changed(plain, 257, "tar"), api.ErrField},
		"no mode":        {sample.Changed(plain, 100, "9"), api.ErrField},
		"a size below 0": {sample.Changed(plain, 124, "\xff\xff\xff\xff\xff\xff\xff\xff\xff\xff\xff\xff"), api.ErrField},
	}
}

// payloads holds a payload against what it should be.
func payloads(t *testing.T, name string, x api.Image, i, size int, want []byte, behind int) {
	t.Helper()
	// Of all that a header tells the size alone counts.
	for _, h := range []api.Header{{Size: size}, {Name: "a", Kind: api.Global, Size: size, Real: 9000}, {Kind: 'N', Size: size, More: true}} {
		b, n, e := Payload(x, i, h)
		if !bytes.Equal(b, want) || n != behind || e != api.OK {
			t.Errorf("%s: Payload at %d, of %d = %d bytes, %d, %d; want %d, %d", name, i, size, len(b), n, e, len(want), behind)
		}
	}
}

func payloadsNone(t *testing.T, name string, x api.Image, i, size int, want api.Errno) {
	t.Helper()
	if b, n, e := Payload(x, i, api.Header{Kind: api.Local, Size: size}); len(b) != 0 || n != 0 || e != want {
		t.Errorf("%s: Payload at %d, of %d = %d bytes, %d, %d; want %d", name, i, size, len(b), n, e, want)
	}
}

func TestPayload(t *testing.T) {
	b := sample.Some(5 * 512)
	x := sample.Image(b)
	for i := -1; i < 5; i++ {
		front := b[(i+1)*512:]
		for size := 0; size <= len(front); size++ {
			payloads(t, "whole", x, i, size, front[:size], i+1+(size+511)/512)
		}
		for _, size := range []int{-1, -511, -512, -513, math.MinInt} {
			payloads(t, "below 0", x, i, size, nil, i+1)
		}
		for _, size := range []int{len(front) + 1, len(front) + 512, len(front) + 513, api.MaxExt} {
			payloadsNone(t, "beyond the end", x, i, size, api.ErrEnd)
		}
	}
}

// A payload of no bytes needs no block.
func TestPayloadOfNothing(t *testing.T) {
	for _, x := range []api.Image{{}, sample.Image(sample.Some(512)), sample.Image(sample.Some(5)), sample.Spoilt(sample.Image(sample.Some(1024)), 0, 1, 2, 8)} {
		for _, i := range []int{-512, -2, -1, 0, 1, 2, 7, 1 << 40} {
			payloads(t, "nothing", x, i, 0, nil, i+1)
			payloads(t, "less", x, i, -1, nil, i+1)
		}
	}
}

func TestPayloadOfTooMuch(t *testing.T) {
	b := sample.Some(api.MaxExt + 1024)
	x := sample.Image(b)
	payloads(t, "as much as may be", x, 0, api.MaxExt, b[512:512+api.MaxExt], 2049)
	payloads(t, "one less", x, 1, api.MaxExt-1, b[1024:1024+api.MaxExt-1], 2050)
	for _, size := range []int{api.MaxExt + 1, api.MaxExt + 512, 1 << 40, math.MaxInt - 511, math.MaxInt} {
		payloadsNone(t, "too much", x, 0, size, api.ErrLong)
		// That is told ahead of all that is wrong with the blocks.
		payloadsNone(t, "too much, bad", sample.Spoilt(x, 1), 0, size, api.ErrLong)
		payloadsNone(t, "too much, of nothing", api.Image{}, 0, size, api.ErrLong)
		payloadsNone(t, "too much, far off", x, math.MaxInt, size, api.ErrLong)
	}
}

func TestPayloadOutside(t *testing.T) {
	x := sample.Image(sample.Some(1024))
	for _, i := range []int{-2, -3, -512, math.MinInt, 1, 2, 3, 1 << 31, 1 << 54, 1 << 55, 1 << 56, math.MaxInt - 1, math.MaxInt} {
		for _, size := range []int{1, 512, 513, api.MaxExt} {
			payloadsNone(t, "outside", x, i, size, api.ErrEnd)
		}
	}
}

// Block by block: what is wrong first is told.
func TestPayloadErrors(t *testing.T) {
	whole := sample.Image(sample.Some(4 * 512))
	short := sample.Cut(whole, 1)
	for _, c := range []struct {
		name    string
		x       api.Image
		i, size int
		want    api.Errno
	}{
		{"the first one is bad", sample.Spoilt(whole, 1), 0, 1, api.ErrBad},
		{"the second one is bad", sample.Spoilt(whole, 2), 0, 513, api.ErrBad},
		{"the last one is bad", sample.Spoilt(whole, 3), 0, 1025, api.ErrBad},
		{"all are bad", sample.Spoilt(whole, 0, 1, 2, 3), 0, 1, api.ErrBad},
		{"bad ones in no order", sample.Spoilt(whole, 3, 2, 2), 0, 513, api.ErrBad},
		{"bad ahead of the end", sample.Spoilt(whole, 3), 2, 5000, api.ErrBad},
		{"the end ahead of what is bad", sample.Spoilt(whole, 4), 2, 5000, api.ErrEnd},
		{"bad, and no block", sample.Spoilt(whole, 4), 3, 1, api.ErrEnd},
		{"bad, and no block, in front", sample.Spoilt(whole, -1), -2, 1, api.ErrEnd},
		{"a byte lacks", short, 2, 512, api.ErrEnd},
		{"a byte lacks that is none of it", short, 2, 1, api.ErrEnd},
		{"all but a byte lack", sample.Cut(whole, 511), 2, 1, api.ErrEnd},
		{"a byte lacks, far behind", short, 0, 1025, api.ErrEnd},
		{"a byte lacks, and it is bad", sample.Spoilt(short, 3), 2, 1, api.ErrBad},
		{"bad ahead of one that lacks a byte", sample.Spoilt(short, 2), 0, 1500, api.ErrBad},
		{"no bytes", api.Image{}, 0, 1, api.ErrEnd},
		{"no bytes, at the front", api.Image{}, -1, 1, api.ErrEnd},
		{"no bytes, bad", sample.Spoilt(api.Image{}, 0), -1, 1, api.ErrEnd},
	} {
		payloadsNone(t, c.name, c.x, c.i, c.size, c.want)
	}
}

// Blocks that are none of it may be as they are, the header's own one among them.
func TestPayloadBesideBadBlocks(t *testing.T) {
	b := sample.Some(5*512 + 7)
	x := sample.Spoilt(sample.Image(b), 0, 1, 4, 5, 9, -1)
	payloads(t, "between", x, 1, 1024, b[1024:2048], 4)
	payloads(t, "between, less", x, 1, 513, b[1024:1537], 4)
	payloadsNone(t, "one more", x, 1, 1025, api.ErrBad)
	payloadsNone(t, "one block ahead", x, 0, 512, api.ErrBad)
	payloads(t, "ahead of one that lacks bytes", sample.Image(b), 3, 512, b[2048:2560], 5)
}

// globals holds the records of all that follow against what they should be.
func globals(t *testing.T, name string, x api.Image, i int, want []api.Rec, behind int) {
	t.Helper()
	if l, n, e := Global(x, i); !slices.Equal(l, want) || n != behind || e != api.OK {
		t.Errorf("%s: Global at %d = %v, %d, %d; want %v, %d", name, i, l, n, e, want, behind)
	}
}

func globalsNone(t *testing.T, name string, x api.Image, i int, want api.Errno) {
	t.Helper()
	if l, n, e := Global(x, i); len(l) != 0 || n != 0 || e != want {
		t.Errorf("%s: Global at %d = %v, %d, %d; want %d", name, i, l, n, e, want)
	}
}

func TestGlobal(t *testing.T) {
	globals(t, "none", sample.Image(sample.Extension('g', "")), 0, nil, 1)
	globals(t, "one", sample.Image(sample.Extension('g', "6 a=b\n")), 0, sample.Recs("a", "b"), 2)
	globals(t, "as they stand", sample.Image(sample.Extension('g', "6 b=1\n5 a=\n6 b=2\n")), 0, sample.Recs("b", "1", "a", "", "b", "2"), 2)
	for _, n := range []int{505, 506, 507, 1016, 1017, 1018, 1019, 100000} {
		l := sample.Recs("k", sample.Letters(n))
		behind := 1 + (len(sample.Lines(l))+511)/512
		globals(t, "of "+strconv.Itoa(n), sample.Image(sample.Extension('g', sample.Lines(l)), sample.Some(512)), 0, l, behind)
		globals(t, "of "+strconv.Itoa(n)+", behind others", sample.Image(sample.Some(1024), sample.Extension('g', sample.Lines(l))), 2, l, 2+behind)
	}
	// Of each way, and whatever else its header tells.
	for way := range 3 {
		h := api.Header{Name: "d/", Kind: 'g', Way: way, Size: 6, Mode: 7, Uid: 1, Link: "x", Mtime: -5}
		globals(t, "way "+strconv.Itoa(way), sample.Image(sample.Laid(h), sample.Filled([]byte("6 a=b\n"))), 0, sample.Recs("a", "b"), 2)
	}
}

func TestGlobalOfOtherKinds(t *testing.T) {
	for _, kind := range []byte("01234567SxLK") {
		x := sample.Image(sample.Extension(kind, "6 a=b\n"))
		globalsNone(t, string(kind), x, 0, api.ErrKind)
		// That is told ahead of all that is wrong with the payload.
		globalsNone(t, string(kind)+", cut", sample.Cut(x, 1), 0, api.ErrKind)
		globalsNone(t, string(kind)+", bad", sample.Spoilt(x, 1), 0, api.ErrKind)
		globalsNone(t, string(kind)+", too long", sample.Image(sample.Main(kind, "a", api.MaxExt+1)), 0, api.ErrKind)
	}
	globalsNone(t, "00", sample.Image(sample.Changed(sample.Main('0', "a", 0), 156, "\x00")), 0, api.ErrKind)
}

func TestGlobalErrors(t *testing.T) {
	x := sample.Image(sample.Extension('g', "6 a=b\n"))
	for i, want := range map[int]api.Errno{
		-1: api.ErrEnd, math.MinInt: api.ErrEnd, 2: api.ErrEnd, 3: api.ErrEnd, 1 << 55: api.ErrEnd, math.MaxInt: api.ErrEnd, 1: api.ErrSum,
	} {
		globalsNone(t, "outside", x, i, want)
		globalsNone(t, "outside, and bad", sample.Spoilt(x, 2, 3, -1), i, want)
	}
	globalsNone(t, "no bytes", api.Image{}, 0, api.ErrEnd)
	globalsNone(t, "bad", sample.Spoilt(x, 0), 0, api.ErrBad)
	globalsNone(t, "bad, and no header", sample.Spoilt(sample.Image(sample.Some(512)), 0), 0, api.ErrBad)
	globalsNone(t, "bad, and short", sample.Spoilt(sample.Image(sample.Some(511)), 0), 0, api.ErrBad)
	globalsNone(t, "short", sample.Image(sample.Main('g', "g", 0)[:511]), 0, api.ErrShort)
	for name, c := range wrongBlocks() {
		globalsNone(t, name, sample.Image(c.b), 0, c.e)
	}
	globalsNone(t, "cut ahead of the payload", sample.Cut(x, 512), 0, api.ErrEnd)
	globalsNone(t, "cut in the payload", sample.Cut(x, 1), 0, api.ErrEnd)
	globalsNone(t, "a bad payload", sample.Spoilt(x, 1), 0, api.ErrBad)
	globalsNone(t, "too long", sample.Image(sample.Main('g', "g", api.MaxExt+1)), 0, api.ErrLong)
	globalsNone(t, "no records", sample.Image(sample.Extension('g', "x")), 0, api.ErrRecs)
	globalsNone(t, "noughts behind records", sample.Image(sample.Main('g', "g", 7), sample.Filled([]byte("6 a=b\n"))), 0, api.ErrRecs)
	globalsNone(t, "one byte less", sample.Image(sample.Main('g', "g", 5), sample.Filled([]byte("6 a=b\n"))), 0, api.ErrRecs)
	globalsNone(t, "too many", sample.Image(sample.Extension('g', strings.Repeat("6 a=b\n", 1001))), 0, api.ErrLong)
	globalsNone(t, "too many, and cut", sample.Cut(sample.Image(sample.Extension('g', strings.Repeat("6 a=b\n", 1001))), 513), 0, api.ErrEnd)
}

func TestGlobalOfAsManyAsMayBe(t *testing.T) {
	globals(t, "1000", sample.Image(sample.Extension('g', strings.Repeat("6 a=b\n", 1000))), 0, slices.Repeat(sample.Recs("a", "b"), 1000), 13)
	l := sample.Recs("k", sample.Letters(api.MaxExt-len("1048576 k=\n")))
	globals(t, "2^20 bytes", sample.Image(sample.Extension('g', sample.Lines(l))), 0, l, 2049)
}

func TestBytes(t *testing.T) {
	b := sample.Some(2000)
	x := sample.Spoilt(sample.Image(b), 1, 2)
	for _, from := range []int{math.MinInt, -1, 0, 1, 511, 512, 1999, 2000, 2001, 1 << 40, math.MaxInt} {
		for _, size := range []int{math.MinInt, -1, 0, 1, 2, 512, 1488, 1489, 1999, 2000, 2001, 1 << 40, math.MaxInt - 512, math.MaxInt} {
			front := b[min(max(from, 0), 2000):]
			want := front[:min(max(size, 0), len(front))]
			// Data and Size alone count, be the blocks bad or not.
			for _, g := range []api.Group{
				{Data: from, Meta: api.Meta{Size: size}},
				{At: 7, Main: 7, Next: 1, Data: from, Global: sample.Recs("size", "3"), Meta: api.Meta{Size: size, Real: 5, Holes: true, Parts: sample.Parts(0, 1), Kind: api.Dir}},
			} {
				if got := Bytes(x, g); !bytes.Equal(got, want) {
					t.Errorf("Bytes from %d, of %d: %d bytes; want %d", from, size, len(got), len(want))
				}
			}
			if got := Bytes(api.Image{}, api.Group{Data: from, Meta: api.Meta{Size: size}}); len(got) != 0 {
				t.Errorf("Bytes of nothing, from %d, of %d: %d bytes", from, size, len(got))
			}
		}
	}
}

func TestExample(t *testing.T) {
	if g, e := Read(api.Image{}, 0, nil, nil); !reflect.DeepEqual(g, api.Group{}) || e != api.ErrEnd {
		t.Errorf("Read = %+v, %d; want ErrEnd", g, e)
	}
}
