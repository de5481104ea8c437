package group

import (
	"bytes"
	"math"
	"slices"
	"strconv"
	"strings"
	"testing"

	"mudlark/api"
	"mudlark/sample"
)

func reads(t *testing.T, name string, x api.Image, i int, global, own []api.Rec, want api.Group) {
	t.Helper()
	if g, e := Read(x, i, global, own); !sample.SameGroup(g, want) || e != api.OK {
		t.Errorf("%s: Read at %d = %+v, %d; want %+v", name, i, g, e, want)
	}
}

func readsNone(t *testing.T, name string, x api.Image, i int, want api.Errno) {
	t.Helper()
	readsNoneWith(t, name, x, i, nil, nil, want)
}

func readsNoneWith(t *testing.T, name string, x api.Image, i int, global, own []api.Rec, want api.Errno) {
	t.Helper()
	if g, e := Read(x, i, global, own); !sample.SameGroup(g, api.Group{}) || e != want {
		t.Errorf("%s: Read at %d = %+v, %d; want %d", name, i, g, e, want)
	}
}

// file is what is known of one that has nothing but a name and a size.
func file(name string, size int) api.Meta {
	return api.Meta{Name: name, Kind: api.File, Size: size, Real: size}
}

// grouped is a group of these blocks, with Data behind its headers.
func grouped(at, main, behind, next int, m api.Meta) api.Group {
	return api.Group{At: at, Main: main, Data: 512 * behind, Next: next, Meta: m}
}

func TestReadEachKind(t *testing.T) {
	metas := map[byte]api.Meta{
		'0': file("a", 700), '7': file("a", 700), '1': {Name: "a", Kind: '1', Link: "to"}, '2': {Name: "a", Kind: '2', Link: "to"},
		'3': {Name: "a", Kind: '3'}, '4': {Name: "a", Kind: '4'}, '5': {Name: "a", Kind: '5'}, '6': {Name: "a", Kind: '6'},
	}
	for kind, m := range metas {
		// A size counts of files alone: others have no bytes.
		next := 3
		if m.Size > 0 {
			next = 5
		}
		x := sample.Image(sample.Some(1024), sample.Main(kind, "a", 700), sample.Some(1024))
		reads(t, string(kind), x, 2, nil, nil, grouped(2, 2, 3, next, m))
		readsNone(t, string(kind)+", ahead of it", x, 1, api.ErrSum)
	}
	x := sample.Image(sample.Holed(7, 12, false, sample.Parts(0, 5, 10, 2)...), sample.Some(512))
	reads(t, "S", x, 0, nil, nil, grouped(0, 0, 1, 2, holed(7, 12, sample.Parts(0, 5, 10, 2))))
	reads(t, "00", sample.Image(sample.Changed(sample.Main('0', "a", 5), 156, "\x00")), 0, nil, nil, grouped(0, 0, 1, 2, file("a", 5)))
	reads(t, "a File that is a Dir", sample.Image(sample.Main('0', "a/", 700)), 0, nil, nil, grouped(0, 0, 1, 1, api.Meta{Name: "a/", Kind: '5'}))
}

func holed(size, real int, l []api.Part) api.Meta {
	return api.Meta{Name: "s", Kind: api.File, Size: size, Real: real, Holes: true, Parts: l}
}

func TestReadAll(t *testing.T) {
	h := api.Header{
		Name: "name", Mode: 0o644, Uid: 1000, Gid: 100, Size: 10, Mtime: 7, Kind: '0', Way: api.Ustar,
		User: "user", Group: "group", Prefix: "prefix",
	}
	m := api.Meta{
		Name: "prefix/name", Mode: 0o644, Uid: 1000, Gid: 100, Size: 10, Real: 10, Mtime: api.Time{S: 7}, Kind: '0',
		User: "user", Group: "group",
	}
	reads(t, "Ustar", sample.Image(sample.Laid(h), sample.Some(512)), 0, nil, nil, grouped(0, 0, 1, 2, m))
	h.Kind, h.Major, h.Minor = '3', 4, 64
	m.Kind, m.Major, m.Minor, m.Size, m.Real = '3', 4, 64, 0, 0
	reads(t, "a Char", sample.Image(sample.Laid(h)), 0, nil, nil, grouped(0, 0, 1, 1, m))
	reads(t, "V7", sample.Image(sample.Laid(api.Header{Name: "name", Kind: '0', Size: 512})), 0, nil, nil, grouped(0, 0, 1, 2, file("name", 512)))
}

// Next is behind as many blocks as have bytes, be they there or not, bad or not.
func TestReadNext(t *testing.T) {
	for size, count := range map[int]int{
		0: 0, 1: 1, 511: 1, 512: 1, 513: 2, 1023: 2, 1024: 2, 1025: 3, 1<<33 - 1: 1 << 24, 1 << 33: 1 << 24, 1<<33 + 1: 1<<24 + 1,
		1<<40 - 1: 1 << 31, 1 << 40: 1 << 31,
	} {
		for i := range 3 {
			x := sample.Image(sample.Some(512*i), sample.Main('0', "a", size))
			want := grouped(i, i, i+1, i+1+count, file("a", size))
			reads(t, "of "+strconv.Itoa(size), x, i, nil, nil, want)
			reads(t, "of "+strconv.Itoa(size)+", with others behind", sample.Image(x.Bytes, sample.Some(600)), i, nil, nil, want)
			reads(t, "of "+strconv.Itoa(size)+", with bad ones behind", sample.Spoilt(sample.Image(x.Bytes, sample.Some(600)), i+1, i+2, i+3), i, nil, nil, want)
			// A record of the size counts ahead of the header's.
			x = sample.Image(sample.Some(512*i), sample.Extension('x', sample.Lines(sample.Recs("size", strconv.Itoa(size)))), sample.Main('0', "a", 77))
			reads(t, "of a record "+strconv.Itoa(size), x, i, nil, nil, grouped(i, i+2, i+3, i+3+count, file("a", size)))
		}
	}
}

// extensions are one of each kind, how many blocks it has, and what it makes of a Soft.
var extensions = []struct {
	kind    byte
	payload string
	blocks  int
	of      func(m *api.Meta)
}{
	{'x', "11 uid=300\n8 k=val\n", 2, func(m *api.Meta) {
		m.Uid, m.Extra = 300, []api.Rec{{Key: "k", Value: "val"}}
	}},
	{'L', strings.Repeat("N", 512) + "\x00behind", 3, func(m *api.Meta) { m.Name = strings.Repeat("N", 512) }},
	{'K', strings.Repeat("L", 1024), 3, func(m *api.Meta) { m.Link = strings.Repeat("L", 1024) }},
}

// orders are all lists of the numbers 0 to 2, each of which is there once, or not at all.
func orders() [][]int {
	l := [][]int{nil}
	for at := 0; at < len(l); at++ {
		for n := range 3 {
			if !slices.Contains(l[at], n) {
				l = append(l, append(slices.Clone(l[at]), n))
			}
		}
	}
	return l
}

func TestReadInEachOrder(t *testing.T) {
	for _, order := range orders() {
		m := api.Meta{Name: "a", Kind: '2', Link: "to"}
		var b []byte
		blocks, name := 0, "in order "
		for _, n := range order {
			e := extensions[n]
			b = append(b, sample.Extension(e.kind, e.payload)...)
			blocks += e.blocks
			name += string(e.kind)
			e.of(&m)
		}
		x := sample.Image(b, sample.Main('2', "a", 0), sample.Some(512))
		reads(t, name, x, 0, nil, nil, grouped(0, blocks, blocks+1, blocks+1, m))
		x = sample.Image(sample.Some(1024), x.Bytes)
		reads(t, name+", behind others", x, 2, nil, nil, grouped(2, blocks+2, blocks+3, blocks+3, m))
	}
}

// After any extensions another one of a kind that was there, or one for all that follow, is in no order.
func TestReadStray(t *testing.T) {
	for _, order := range orders() {
		ahead, name := sample.Image(), "behind "
		seen := "g"
		for _, n := range order {
			ahead = sample.Image(ahead.Bytes, sample.Extension(extensions[n].kind, extensions[n].payload))
			seen += string(extensions[n].kind)
			name += string(extensions[n].kind)
		}
		for _, kind := range []byte(seen) {
			x := sample.Image(ahead.Bytes, sample.Extension(kind, "6 a=b\n"), sample.Main('2', "a", 0))
			readsNone(t, name+", "+string(kind), x, 0, api.ErrOrder)
			// That is told ahead of all that is wrong behind it.
			at := len(ahead.Bytes)/512 + 1
			readsNone(t, name+", "+string(kind)+" at the end", sample.Cut(x, 1024), 0, api.ErrOrder)
			readsNone(t, name+", "+string(kind)+" of bad ones", sample.Spoilt(x, at), 0, api.ErrOrder)
			readsNone(t, name+", "+string(kind)+" too long", sample.Image(ahead.Bytes, sample.Main(kind, "a", api.MaxExt+1)), 0, api.ErrOrder)
			readsNone(t, name+", "+string(kind)+" of no records", sample.Image(ahead.Bytes, sample.Extension(kind, "nothing"), sample.Main('2', "a", 0)), 0, api.ErrOrder)
		}
	}
}

// What is wrong with a payload is told ahead of what follows.
func TestReadErrorsOfPayloads(t *testing.T) {
	stray := sample.Extension('g', "")
	for _, kind := range []byte("xLK") {
		for _, size := range []int{1, 511, 512, 513, 1024, 1025, 5000} {
			count := (size + 511) / 512
			b := append(sample.Main(kind, "e", size), sample.Some(512*count)...)
			for at := range count {
				x := sample.Image(b, stray)
				readsNone(t, string(kind)+", bad", sample.Spoilt(x, at+1), 0, api.ErrBad)
				readsNone(t, string(kind)+", bad and cut", sample.Cut(sample.Spoilt(x, at+1), len(x.Bytes)-at*512-513), 0, api.ErrBad)
				readsNone(t, string(kind)+", cut", sample.Cut(x, len(x.Bytes)-at*512-512), 0, api.ErrEnd)
				readsNone(t, string(kind)+", cut in a block", sample.Cut(x, len(x.Bytes)-at*512-1023), 0, api.ErrEnd)
			}
		}
		readsNone(t, string(kind)+", too long", sample.Image(sample.Main(kind, "e", api.MaxExt+1), stray), 0, api.ErrLong)
		readsNone(t, string(kind)+", far too long", sample.Image(sample.Main(kind, "e", api.MaxSize), stray), 0, api.ErrLong)
	}
	for payload, want := range map[string]api.Errno{
		"x": api.ErrRecs, "6 a=b": api.ErrRecs, "6 a=b\n\x00": api.ErrRecs, "7 a=b\n": api.ErrRecs, strings.Repeat("6 a=b\n", 1001): api.ErrLong,
	} {
		readsNone(t, "records", sample.Image(sample.Extension('x', payload), stray), 0, want)
		readsNone(t, "records behind a name", sample.Image(sample.Extension('L', "a"), sample.Extension('x', payload), stray), 0, want)
		// Names may be anything.
		reads(t, "a name", sample.Image(sample.Extension('L', "b\x00"+payload), sample.Main('0', "a", 0)), 0, nil, nil, grouped(0, 2+(len(payload)+1)/512, 3+(len(payload)+1)/512, 3+(len(payload)+1)/512, file("b", 0)))
	}
}

// Each header may be none.
func TestReadErrorsOfHeaders(t *testing.T) {
	for _, order := range orders() {
		var b []byte
		name := "behind "
		for _, n := range order {
			b = append(b, sample.Extension(extensions[n].kind, extensions[n].payload)...)
			name += string(extensions[n].kind)
		}
		at := len(b) / 512
		x := sample.Image(b, sample.Main('2', "a", 0))
		readsNone(t, name+", nothing", sample.Image(b), 0, api.ErrEnd)
		readsNone(t, name+", nothing, and bad", sample.Spoilt(sample.Image(b), at, at+1), 0, api.ErrEnd)
		readsNone(t, name+", bad", sample.Spoilt(x, at), 0, api.ErrBad)
		readsNone(t, name+", short", sample.Cut(x, 1), 0, api.ErrShort)
		readsNone(t, name+", short and bad", sample.Spoilt(sample.Cut(x, 511), at), 0, api.ErrBad)
		readsNone(t, name+", bad from the front", sample.Spoilt(x, 0, at), 0, api.ErrBad)
		for wrong, c := range wrongBlocks() {
			readsNone(t, name+", "+wrong, sample.Image(b, c.b, sample.Main('2', "a", 0)), 0, c.e)
		}
	}
}

func TestReadOutside(t *testing.T) {
	x := sample.Image(sample.Main('0', "a", 0))
	for _, i := range []int{-1, -512, math.MinInt, 1, 2, 512, 1 << 31, 1 << 55, 1 << 56, math.MaxInt} {
		readsNone(t, "outside", x, i, api.ErrEnd)
		readsNone(t, "outside, and bad", sample.Spoilt(x, i), i, api.ErrEnd)
	}
	// Bad ones that are no blocks, or others, do not count.
	reads(t, "beside bad ones", sample.Spoilt(sample.Image(sample.Some(512), sample.Main('0', "a", 600), sample.Some(1024)), 0, 2, 3, 7, -1), 1, nil, nil, grouped(1, 1, 2, 4, file("a", 600)))
}

func TestReadLongNames(t *testing.T) {
	for _, c := range []struct{ payload, want string }{
		{"b", "b"}, {"b\x00", "b"}, {"b\x00c", "b"}, {"d/b\x00\x00\x00", "d/b"}, {sample.Letters(4096), sample.Letters(4096)}, {sample.Letters(4096) + "\x00", sample.Letters(4096)},
		{"\xff\n ", "\xff\n "}, {sample.Letters(511) + "\x00", sample.Letters(511)}, {sample.Letters(512), sample.Letters(512)},
	} {
		at := 1 + (len(c.payload)+511)/512
		x := sample.Image(sample.Extension('L', c.payload), sample.Main('0', "a", 0))
		reads(t, "L", x, 0, nil, nil, grouped(0, at, at+1, at+1, file(c.want, 0)))
		x = sample.Image(sample.Extension('K', c.payload), sample.Main('1', "a", 0))
		reads(t, "K", x, 0, nil, nil, grouped(0, at, at+1, at+1, api.Meta{Name: "a", Kind: '1', Link: c.want}))
		// Of a File no link is told.
		x = sample.Image(sample.Extension('K', c.payload), sample.Main('0', "a", 0))
		reads(t, "K of a File", x, 0, nil, nil, grouped(0, at, at+1, at+1, file("a", 0)))
	}
	// One without a byte is one all the same.
	for _, payload := range []string{"", "\x00", "\x00b", sample.Letters(4097), sample.Letters(5000)} {
		readsNone(t, "L", sample.Image(sample.Extension('L', payload), sample.Main('0', "a", 0)), 0, api.ErrText)
		readsNone(t, "K", sample.Image(sample.Extension('K', payload), sample.Main('2', "a", 0)), 0, api.ErrText)
	}
	x := sample.Image(sample.Extension('L', ""), sample.Extension('x', sample.Lines(sample.Recs("path", "p"))), sample.Main('0', "a", 0))
	reads(t, "a record path", x, 0, nil, nil, grouped(0, 3, 4, 4, file("p", 0)))
	x = sample.Image(sample.Extension('x', sample.Lines(sample.Recs("linkpath", "p"))), sample.Extension('K', "k"), sample.Extension('L', "b/"), sample.Main('2', "a", 0))
	reads(t, "a record linkpath", x, 0, nil, nil, grouped(0, 6, 7, 7, api.Meta{Name: "b/", Kind: '2', Link: "p"}))
	x = sample.Image(sample.Extension('L', "d/"), sample.Main('0', "a", 700))
	reads(t, "a directory", x, 0, nil, nil, grouped(0, 2, 3, 3, api.Meta{Name: "d/", Kind: '5'}))
}

// Which of global, own and x's records counts.
func TestReadRecords(t *testing.T) {
	for _, c := range []struct {
		name                string
		global, own, locals []api.Rec
		uid                 int
		extra               []api.Rec
	}{
		{"none", nil, nil, nil, 5, nil},
		{"global", sample.Recs("uid", "1", "k", "1"), nil, nil, 1, sample.Recs("k", "1")},
		{"own", nil, sample.Recs("uid", "2", "k", "2"), nil, 2, sample.Recs("k", "2")},
		{"x", nil, nil, sample.Recs("uid", "3", "k", "3"), 3, sample.Recs("k", "3")},
		{"own over global", sample.Recs("uid", "1", "k", "1"), sample.Recs("uid", "2", "k", "2"), nil, 2, sample.Recs("k", "2")},
		{"x over global", sample.Recs("uid", "1", "k", "1"), nil, sample.Recs("uid", "3", "k", "3"), 3, sample.Recs("k", "3")},
		{"x over own", nil, sample.Recs("uid", "2", "k", "2"), sample.Recs("uid", "3", "k", "3"), 3, sample.Recs("k", "3")},
		{"x over all", sample.Recs("uid", "1"), sample.Recs("uid", "2"), sample.Recs("uid", "3"), 3, nil},
		{"each another key", sample.Recs("c", "1"), sample.Recs("b", "2"), sample.Recs("a", "3"), 5, sample.Recs("a", "3", "b", "2", "c", "1")},
		{"the last one of each", sample.Recs("c", "0", "c", "1"), sample.Recs("b", "0", "b", "2"), sample.Recs("a", "0", "a", "3"), 5, sample.Recs("a", "3", "b", "2", "c", "1")},
		// One without a value takes away what is merged below it, and is gone itself then.
		{"nothing in x over own", nil, sample.Recs("uid", "2", "k", "2"), sample.Recs("uid", "", "k", ""), 5, nil},
		{"nothing in x over global", sample.Recs("uid", "1", "k", "1"), nil, sample.Recs("uid", "", "k", ""), 1, sample.Recs("k", "1")},
		{"nothing in x over own over global", sample.Recs("uid", "1"), sample.Recs("uid", "2"), sample.Recs("uid", ""), 1, nil},
		{"nothing in own over global", sample.Recs("uid", "1", "k", "1"), sample.Recs("uid", "", "k", ""), nil, 1, sample.Recs("k", "1")},
		{"x over nothing in own", nil, sample.Recs("uid", ""), sample.Recs("uid", "3"), 3, nil},
		{"nothing in global", sample.Recs("uid", "1", "uid", "", "k", ""), nil, nil, 5, nil},
	} {
		h := sample.Named('0', "a", 3)
		h.Uid = 5
		blocks := [][]byte{sample.Laid(h)}
		if c.locals != nil {
			blocks = [][]byte{sample.Extension('x', sample.Lines(c.locals)), sample.Laid(h)}
		}
		at := len(slices.Concat(blocks...))/512 - 1
		want := grouped(0, at, at+1, at+2, file("a", 3))
		want.Meta.Uid, want.Meta.Extra, want.Global = c.uid, c.extra, c.global
		reads(t, c.name, sample.Image(blocks...), 0, c.global, c.own, want)
	}
}

// Global comes back as it was handed in, whatever is in it.
func TestReadTellsGlobal(t *testing.T) {
	x := sample.Image(sample.Extension('x', sample.Lines(sample.Recs("b", "3"))), sample.Main('0', "a", 0))
	for _, global := range [][]api.Rec{
		nil, {}, sample.Recs("b", "1"), sample.Recs("z", "1", "a", "2", "z", "3", "b", ""), sample.Recs("path", "p", "path", ""), sample.Recs("uid", "7", "uid", ""),
	} {
		g, e := Read(x, 0, global, sample.Recs("own", "1"))
		if !slices.Equal(g.Global, global) || e != api.OK {
			t.Errorf("Global of %v: %v, %d", global, g.Global, e)
		}
	}
}

// What records of all that follow, or own ones, make of each field.
func TestReadOtherRecords(t *testing.T) {
	x := sample.Image(sample.Main('2', "a", 0))
	l := sample.Recs("path", "p", "linkpath", "q", "uname", "u", "gname", "g", "uid", "1", "gid", "2", "mtime", "-1.5", "size", "9")
	m := api.Meta{Name: "p", Link: "q", Kind: '2', User: "u", Group: "g", Uid: 1, Gid: 2, Mtime: api.Time{S: -2, N: 500000000}}
	want := grouped(0, 0, 1, 1, m)
	reads(t, "own", x, 0, nil, l, want)
	want.Global = l
	reads(t, "global", x, 0, l, nil, want)

	l = sample.Recs("GNU.sparse.map", "0,5,10,2", "GNU.sparse.size", "12")
	want = grouped(0, 0, 1, 2, holed(7, 12, sample.Parts(0, 5, 10, 2)))
	reads(t, "holes, own", sample.Image(sample.Main('0', "s", 7)), 0, nil, l, want)
	want = grouped(0, 2, 3, 4, holed(7, 12, sample.Parts(0, 5, 10, 2)))
	reads(t, "holes, of x", sample.Image(sample.Extension('x', sample.Lines(l)), sample.Main('0', "s", 7)), 0, nil, nil, want)
}

func TestReadErrorsOfMeta(t *testing.T) {
	for name, c := range map[string]struct {
		b    []byte
		l    []api.Rec
		want api.Errno
	}{
		"no name":              {sample.Main('0', "", 0), nil, api.ErrText},
		"no link":              {sample.Changed(sample.Main('2', "a", 0), 157, "\x00\x00"), nil, api.ErrText},
		"a long mode":          {sample.Laid(api.Header{Name: "a", Kind: '0', Mode: 1 << 21}), nil, api.ErrField},
		"parts beyond the end": {sample.Holed(7, 11, false, sample.Parts(0, 5, 10, 2)...), nil, api.ErrRecs},
		"no decimal":           {sample.Main('0', "a", 0), sample.Recs("uid", "x"), api.ErrRecs},
		"no time":              {sample.Main('0', "a", 0), sample.Recs("mtime", "x"), api.ErrRecs},
		"a map alone":          {sample.Main('0', "a", 0), sample.Recs("GNU.sparse.map", "0,0"), api.ErrRecs},
		"a 00 in a name":       {sample.Main('0', "a", 0), sample.Recs("path", "a\x00"), api.ErrText},
		"no right record":      {sample.Main('0', "a", 0), sample.Recs("=", "a"), api.ErrRecs},
		"too long a record":    {sample.Main('0', "a", 0), sample.Recs("k", sample.Letters(api.MaxExt)), api.ErrLong},
	} {
		readsNoneWith(t, name+", global", sample.Image(c.b), 0, c.l, nil, c.want)
		readsNoneWith(t, name+", own", sample.Image(c.b), 0, nil, c.l, c.want)
	}
	readsNone(t, "of x", sample.Image(sample.Extension('x', sample.Lines(sample.Recs("uid", "x"))), sample.Main('0', "a", 0)), 0, api.ErrRecs)
	// What is wrong with blocks comes ahead of it.
	readsNoneWith(t, "own, of no header", sample.Image(sample.Extension('L', "a")), 0, nil, sample.Recs("uid", "x"), api.ErrEnd)
	readsNoneWith(t, "own, of none further", sample.Image(sample.Holed(0, 0, true)), 0, nil, sample.Recs("uid", "x"), api.ErrEnd)
}

func TestReadFurtherParts(t *testing.T) {
	data := sample.Some(512)
	x := sample.Image(sample.Holed(1, 50, true, sample.Parts(0, 1)...), sample.Further(0), data)
	reads(t, "none in one more", x, 0, nil, nil, grouped(0, 0, 2, 3, holed(1, 50, sample.Parts(0, 1))))
	x = sample.Image(sample.Holed(2, 50, true, sample.Parts(0, 1)...), sample.Further(0, sample.Parts(5, 1)...), data)
	reads(t, "one in one more", x, 0, nil, nil, grouped(0, 0, 2, 3, holed(2, 50, sample.Parts(0, 1, 5, 1))))
	x = sample.Image(sample.Holed(4, 50, true, sample.Parts(0, 1)...), sample.Further(1, sample.Parts(5, 1)...), sample.Further(255, sample.Parts(7, 1)...), sample.Further(0, sample.Parts(9, 1)...), data)
	reads(t, "in three more", x, 0, nil, nil, grouped(0, 0, 4, 5, holed(4, 50, sample.Parts(0, 1, 5, 1, 7, 1, 9, 1))))
	x = sample.Image(sample.Holed(2, 50, true), sample.Further(1), sample.Further(1), sample.Further(0, sample.Parts(9, 2)...), data)
	reads(t, "in the last one alone", x, 0, nil, nil, grouped(0, 0, 4, 5, holed(2, 50, sample.Parts(9, 2))))
	x = sample.Image(sample.Extension('L', "s"), sample.Holed(2, 50, true, sample.Parts(0, 1)...), sample.Further(0, sample.Parts(5, 1)...), data)
	reads(t, "behind an extension", x, 0, nil, nil, grouped(0, 2, 4, 5, holed(2, 50, sample.Parts(0, 1, 5, 1))))
	// Without More what follows is data, however it looks.
	x = sample.Image(sample.Holed(1, 50, false, sample.Parts(0, 1)...), sample.Further(1, sample.Parts(5, 1)...))
	reads(t, "without More", x, 0, nil, nil, grouped(0, 0, 1, 2, holed(1, 50, sample.Parts(0, 1))))
	// Of another kind the byte of More tells nothing.
	x = sample.Image(sample.Changed(sample.Main('0', "s", 1), 482, "\x01"), sample.Further(1, sample.Parts(5, 1)...))
	reads(t, "of a File", x, 0, nil, nil, grouped(0, 0, 1, 2, file("s", 1)))
	// Records of holes count ahead of parts, but the blocks are there all the same.
	x = sample.Image(sample.Holed(7, 50, true, sample.Parts(0, 1)...), sample.Further(0, sample.Parts(5, 1)...), data)
	reads(t, "of records", x, 0, nil, sample.Recs("GNU.sparse.map", "0,5,10,2", "GNU.sparse.size", "12"), grouped(0, 0, 2, 3, holed(7, 12, sample.Parts(0, 5, 10, 2))))
}

func TestReadManyParts(t *testing.T) {
	for count, want := range map[int]api.Errno{25: api.OK, 1000: api.OK, 1001: api.ErrRecs} {
		var l []api.Part
		for i := range count {
			l = append(l, api.Part{At: 3 * i, Len: 1})
		}
		b := sample.Holed(count, 9000, true, l[:4]...)
		left := l[4:]
		for len(left) > 21 {
			b = append(b, sample.Further(1, left[:21]...)...)
			left = left[21:]
		}
		b = append(b, sample.Further(0, left...)...)
		behind := len(b) / 512
		if want != api.OK {
			readsNone(t, "too many", sample.Image(b), 0, want)
			continue
		}
		reads(t, strconv.Itoa(count), sample.Image(b), 0, nil, nil, grouped(0, 0, behind, behind+(count+511)/512, holed(count, 9000, l)))
	}
}

func TestReadErrorsOfFurtherParts(t *testing.T) {
	front := sample.Image(sample.Holed(2, 50, true, sample.Parts(0, 1)...), sample.Further(1, sample.Parts(5, 1)...))
	x := sample.Image(front.Bytes, sample.Further(0, sample.Parts(7, 0)...))
	reads(t, "whole", x, 0, nil, nil, grouped(0, 0, 3, 4, holed(2, 50, sample.Parts(0, 1, 5, 1))))
	readsNone(t, "nothing behind the header", sample.Cut(front, 512), 0, api.ErrEnd)
	readsNone(t, "nothing behind one more", front, 0, api.ErrEnd)
	readsNone(t, "nothing, and bad", sample.Spoilt(front, 2), 0, api.ErrEnd)
	readsNone(t, "bad", sample.Spoilt(x, 2), 0, api.ErrBad)
	readsNone(t, "the first one is bad", sample.Spoilt(x, 1), 0, api.ErrBad)
	readsNone(t, "bad, and nothing behind it", sample.Spoilt(front, 1), 0, api.ErrBad)
	readsNone(t, "short", sample.Cut(x, 1), 0, api.ErrField)
	readsNone(t, "a byte alone", sample.Cut(x, 511), 0, api.ErrField)
	readsNone(t, "short, and bad", sample.Spoilt(sample.Cut(x, 1), 2), 0, api.ErrBad)
	for _, wrong := range []string{"9", "x", "\xff\xff\xff\xff\xff\xff\xff\xff\xff\xff\xff\xff"} {
		b := sample.Further(0, sample.Parts(7, 0)...)
		copy(b, wrong)
		readsNone(t, "no number", sample.Image(front.Bytes, b), 0, api.ErrField)
		b = sample.Further(0, sample.Parts(7, 0)...)
		copy(b[12:], wrong)
		readsNone(t, "no second number", sample.Image(front.Bytes, b), 0, api.ErrField)
		b = sample.Further(1, sample.Parts(5, 1)...)
		copy(b, wrong)
		readsNone(t, "no number in the first one", sample.Image(front.Bytes[:512], b), 0, api.ErrField)
	}
	// Blocks of noughts tell of no parts, and of none that follow.
	reads(t, "noughts", sample.Image(sample.Holed(1, 50, true, sample.Parts(0, 1)...), make([]byte, 1024)), 0, nil, nil, grouped(0, 0, 2, 3, holed(1, 50, sample.Parts(0, 1))))
}

// The bytes of a group that was read are those behind its headers.
func TestBytesOfWhatIsRead(t *testing.T) {
	data := sample.Some(1300)
	x := sample.Image(sample.Some(512), sample.Extension('L', sample.Letters(700)), sample.Main('0', "a", 1300), data)
	for n := range 1301 {
		short := sample.Cut(x, n)
		g, e := Read(short, 1, nil, nil)
		if got := Bytes(short, g); !bytes.Equal(got, data[:1300-n]) || e != api.OK || g.Next != 8 {
			t.Fatalf("without %d: %d bytes, %d, Next %d", n, len(got), e, g.Next)
		}
	}
	g, _ := Read(x, 1, nil, nil)
	if got := Bytes(sample.Image(x.Bytes, sample.Some(5000)), g); !bytes.Equal(got, data) {
		t.Errorf("with others behind: %d bytes", len(got))
	}
}
