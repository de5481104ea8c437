package strict

import (
	"bytes"
	"slices"
	"testing"

	"mudlark/api"
	"mudlark/sample"
)

// joined are pieces, one behind the other.
func joined(pieces ...[]byte) []byte {
	return slices.Concat(pieces...)
}

// known is a file of a name, a size and other records.
func known(name string, size int, extra ...api.Rec) api.Meta {
	return api.Meta{Name: name, Kind: api.File, Size: size, Real: size, Extra: extra}
}

// reads holds what is read against what it should be.
func reads(t *testing.T, name string, b []byte, want ...api.Member) {
	t.Helper()
	l, at, e := Read(b)
	if !sample.Same(l, want) || at != 0 || e != api.OK {
		t.Errorf("%s: Read = %+v, %d, %d; want %+v", name, l, at, e, want)
	}
	if !Right(b) {
		t.Errorf("%s: Right is false", name)
	}
}

func readsNone(t *testing.T, name string, b []byte, at int, want api.Errno) {
	t.Helper()
	l, i, e := Read(b)
	if len(l) != 0 || i != at || e != want {
		t.Errorf("%s: Read = %d members, %d, %d; want %d, %d", name, len(l), i, e, at, want)
	}
	if Right(b) {
		t.Errorf("%s: Right is true", name)
	}
}

func TestExamples(t *testing.T) {
	reads(t, "1024 noughts", make([]byte, 1024))
	readsNone(t, "no bytes", nil, 0, api.ErrEnd)
}

func TestMembers(t *testing.T) {
	a, b := sample.Some(600), sample.Some(1024)
	reads(t, "one", sample.Archived(sample.File("a", a)), api.Member{Meta: known("a", 600), Data: a})
	reads(t, "one of no bytes", sample.Archived(sample.File("a", nil)), api.Member{Meta: known("a", 0)})
	reads(t, "two", sample.Archived(sample.File("a", a), sample.File("b", b)),
		api.Member{Meta: known("a", 600), Data: a}, api.Member{Meta: known("b", 1024), Data: b})
	// A member may come again.
	reads(t, "three of a name", sample.Archived(sample.File("a", a), sample.File("a", nil), sample.File("a", b)),
		api.Member{Meta: known("a", 600), Data: a}, api.Member{Meta: known("a", 0)}, api.Member{Meta: known("a", 1024), Data: b})
	reads(t, "a file of noughts", sample.Archived(sample.File("a", sample.Noughts(3))), api.Member{Meta: known("a", 1536), Data: sample.Noughts(3)})
	// What a file holds is none of the archive's own.
	inner := sample.Archived(sample.File("b", b))
	reads(t, "an archive within", sample.Archived(sample.File("a", inner)), api.Member{Meta: known("a", len(inner)), Data: inner})
}

func TestKinds(t *testing.T) {
	for _, kind := range []byte("0123456") {
		m := api.Meta{Name: "a", Kind: kind}
		if kind == api.Hard || kind == api.Soft {
			m.Link = "to"
		}
		reads(t, string(kind), sample.Archived(sample.Main(kind, "a", 0)), api.Member{Meta: m})
	}
	reads(t, "dense", sample.Archived(sample.Main(api.Dense, "a", 5), sample.Filled(sample.Some(5))), api.Member{Meta: known("a", 5), Data: sample.Some(5)})
	reads(t, "a directory by its name", sample.Archived(sample.Main(api.File, "a/", 0)), api.Member{Meta: api.Meta{Name: "a/", Kind: api.Dir}})
	// A size that a directory tells is none that is stored.
	reads(t, "a directory with a size", sample.Archived(sample.Main(api.Dir, "d", 600), sample.File("a", nil)),
		api.Member{Meta: api.Meta{Name: "d", Kind: api.Dir}}, api.Member{Meta: known("a", 0)})
	m := api.Meta{Name: "s", Kind: api.File, Size: 7, Real: 50, Holes: true, Parts: sample.Parts(1, 2, 9, 5)}
	reads(t, "with holes", sample.Archived(sample.Holed(7, 50, false, m.Parts...), sample.Filled(sample.Some(7))), api.Member{Meta: m, Data: sample.Some(7)})
	reads(t, "with parts behind", sample.Archived(sample.Holed(7, 50, true, m.Parts[0]), sample.Further(0, sample.Parts(9, 5)...), sample.Filled(sample.Some(7)), sample.File("a", nil)),
		api.Member{Meta: m, Data: sample.Some(7)}, api.Member{Meta: known("a", 0)})
}

func TestExtensions(t *testing.T) {
	reads(t, "records", sample.Archived(sample.Records(api.Local, "path", "b", "k", "v"), sample.File("a", sample.Some(3)), sample.File("a", nil)),
		api.Member{Meta: known("b", 3, sample.Recs("k", "v")...), Data: sample.Some(3)}, api.Member{Meta: known("a", 0)})
	reads(t, "a size in a record", sample.Archived(sample.Records(api.Local, "size", "513"), sample.Main(api.File, "a", 0), sample.Filled(sample.Some(513)), sample.File("b", nil)),
		api.Member{Meta: known("a", 513), Data: sample.Some(513)}, api.Member{Meta: known("b", 0)})
	reads(t, "a long name", sample.Archived(sample.Extension(api.LongName, sample.Letters(600)+"\x00"), sample.File("a", sample.Some(3))),
		api.Member{Meta: known(sample.Letters(600), 3), Data: sample.Some(3)})
	reads(t, "a long link", sample.Archived(sample.Extension(api.LongLink, sample.Letters(600)+"\x00"), sample.Main(api.Soft, "a", 0)),
		api.Member{Meta: api.Meta{Name: "a", Kind: api.Soft, Link: sample.Letters(600)}})
}

// Records for all that follow hold up to the end, each until another of its key comes.
func TestGlobals(t *testing.T) {
	file := sample.File("a", sample.Some(3))
	// named is such a file, by another name, if it has a byte, with other records.
	named := func(name string, extra ...string) api.Member {
		if name == "" {
			name = "a"
		}
		return api.Member{Meta: known(name, 3, sample.Recs(extra...)...), Data: sample.Some(3)}
	}
	for _, c := range []struct {
		name   string
		pieces [][]byte
		want   []api.Member
	}{
		{"none ahead", [][]byte{file, sample.Records(api.Global, "k", "v"), file}, []api.Member{named(""), named("", "k", "v")}},
		{"one for all", [][]byte{sample.Records(api.Global, "k", "v", "path", "b"), file, file, file}, []api.Member{named("b", "k", "v"), named("b", "k", "v"), named("b", "k", "v")}},
		{"one over another", [][]byte{sample.Records(api.Global, "k", "v", "j", "u"), sample.Records(api.Global, "k", "w"), file}, []api.Member{named("", "j", "u", "k", "w")}},
		{"another key", [][]byte{sample.Records(api.Global, "k", "v"), file, sample.Records(api.Global, "j", "u"), file}, []api.Member{named("", "k", "v"), named("", "j", "u", "k", "v")}},
		{"the last one of a key", [][]byte{sample.Records(api.Global, "k", "v", "k", "w"), sample.Records(api.Global, "j", "1", "j", "2", "j", "3"), file}, []api.Member{named("", "j", "3", "k", "w")}},
		{"a key taken away", [][]byte{sample.Records(api.Global, "k", "v", "j", "u"), file, sample.Records(api.Global, "k", ""), file}, []api.Member{named("", "j", "u", "k", "v"), named("", "j", "u")}},
		{"a key taken away, and back", [][]byte{sample.Records(api.Global, "k", "v"), sample.Records(api.Global, "k", ""), sample.Records(api.Global, "k", "w"), file}, []api.Member{named("", "k", "w")}},
		{"a name taken away", [][]byte{sample.Records(api.Global, "path", "b"), file, sample.Records(api.Global, "path", ""), file}, []api.Member{named("b"), named("")}},
		{"own ones over it", [][]byte{sample.Records(api.Global, "k", "v", "path", "b"), sample.Records(api.Local, "k", "w"), file, file}, []api.Member{named("b", "k", "w"), named("b", "k", "v")}},
		{"none of records", [][]byte{sample.Records(api.Global, "k", "v"), sample.Extension(api.Global, ""), file}, []api.Member{named("", "k", "v")}},
		{"at the end", [][]byte{file, sample.Records(api.Global, "k", "v"), sample.Records(api.Global, "j", "u")}, []api.Member{named("")}},
		{"alone", [][]byte{sample.Records(api.Global, "k", "v")}, nil},
	} {
		reads(t, c.name, sample.Archived(c.pieces...), c.want...)
	}
	size := sample.Archived(sample.Records(api.Global, "size", "513"), sample.Main(api.File, "a", 0), sample.Filled(sample.Some(513)), sample.Main(api.Dir, "d", 0))
	reads(t, "a size", size, api.Member{Meta: known("a", 513), Data: sample.Some(513)}, api.Member{Meta: api.Meta{Name: "d", Kind: api.Dir}})
}

// Those of one extension can be as many as may be; of many extensions they are more.
func TestManyGlobals(t *testing.T) {
	var all []api.Rec
	var pieces [][]byte
	for i := range 3 {
		var l []api.Rec
		for j := range api.MaxRecs {
			l = append(l, sample.Recs(string([]byte{'a' + byte(i), 'a' + byte(j/100), 'a' + byte(j/10%10), 'a' + byte(j%10)}), "v")...)
		}
		all = append(all, l...)
		pieces = append(pieces, sample.Extension(api.Global, sample.Lines(l)))
	}
	readsNone(t, "more than may be", sample.Archived(append(pieces[:3:3], sample.File("a", nil))...), len(joined(pieces...))/512, api.ErrLong)
	reads(t, "two of three", sample.Archived(append(pieces[:1:1], sample.Extension(api.Global, sample.Lines(sample.Recs("aaaa", "w"))), sample.File("a", nil))...),
		api.Member{Meta: known("a", 0, append(sample.Recs("aaaa", "w"), all[1:1000]...)...)})
}

// Many of the same key do not make what follows slow.
func TestGlobalsAgainAndAgain(t *testing.T) {
	b := joined(sample.Records(api.Global, "k", "v"), sample.File("a", nil))
	l, _, e := Read(sample.Archived(bytes.Repeat(b, 4000)))
	if len(l) != 4000 || e != api.OK || !slices.Equal(l[3999].Meta.Extra, sample.Recs("k", "v")) {
		t.Errorf("Read = %d members, %d", len(l), e)
	}
}

func TestEnd(t *testing.T) {
	a := sample.File("a", sample.Some(600)) // blocks 0 to 2
	want := api.Member{Meta: known("a", 600), Data: sample.Some(600)}
	for n := 2; n < 30; n++ {
		reads(t, "noughts", sample.Noughts(n))
		reads(t, "a file", joined(a, sample.Noughts(n)), want)
	}
	readsNone(t, "no end", a, 3, api.ErrEnd)
	readsNone(t, "one block", joined(a, sample.Noughts(1)), 4, api.ErrEnd)
	readsNone(t, "one block alone", sample.Noughts(1), 1, api.ErrEnd)
	for n := 1; n < 512; n++ {
		readsNone(t, "a piece of a block", make([]byte, n), 0, api.ErrEnd)
		readsNone(t, "a piece of a block behind a file", joined(a, make([]byte, n)), 3, api.ErrEnd)
		readsNone(t, "a piece of the second one", make([]byte, 512+n), 1, api.ErrEnd)
		readsNone(t, "a piece of the second one behind a file", joined(a, make([]byte, 512+n)), 4, api.ErrEnd)
		readsNone(t, "a piece of the third one", make([]byte, 1024+n), 2, api.ErrEnd)
		readsNone(t, "a piece of the last one", joined(a, make([]byte, 5*512+n)), 8, api.ErrEnd)
	}
	readsNone(t, "a piece that is a header's front", a[:511], 0, api.ErrEnd)
}

// Behind the end is nothing but noughts.
func TestBehindTheEnd(t *testing.T) {
	a := sample.File("a", sample.Some(600))
	readsNone(t, "a file", joined(sample.Noughts(2), a), 2, api.ErrEnd)
	readsNone(t, "two archives", joined(sample.Archived(a), sample.Archived(a)), 5, api.ErrEnd)
	readsNone(t, "a file behind one block", joined(a, sample.Noughts(1), a, sample.Noughts(2)), 4, api.ErrEnd)
	readsNone(t, "a file behind many", joined(sample.Noughts(7), a, sample.Noughts(2)), 7, api.ErrEnd)
	for i := range 2048 - 512 {
		b := make([]byte, 2048)
		b[512+i] = 1
		readsNone(t, "a byte", b, 1+i/512, api.ErrEnd)
		b[2047] = 0xff
		readsNone(t, "two bytes", b, 1+i/512, api.ErrEnd)
	}
}

// What is wrong with a head is told with the block where it begins.
func TestWrongHeads(t *testing.T) {
	a := sample.File("a", sample.Some(600))
	plain := sample.Main(api.File, "a", 0)
	want := map[string]struct {
		b []byte
		e api.Errno
	}{
		"another sum":                {sample.Unsealed(plain), api.ErrSum},
		"bytes":                      {sample.Some(512), api.ErrSum},
		"a byte in noughts":          {append(make([]byte, 511), 1), api.ErrSum},
		"another kind":               {sample.Changed(plain, 156, "N"), api.ErrKind},
		"no way":                     {sample.Changed(plain, 257, "tar"), api.ErrField},
		"no mode":                    {sample.Changed(plain, 100, "9"), api.ErrField},
		"no name":                    {sample.Main(api.File, "", 0), api.ErrText},
		"a global of no records":     {sample.Extension(api.Global, "x"), api.ErrRecs},
		"a global of too much":       {sample.Main(api.Global, "g", api.MaxExt+1), api.ErrLong},
		"a global of another sum":    {sample.Unsealed(sample.Records(api.Global, "k", "v")), api.ErrSum},
		"records that are none":      {joined(sample.Extension(api.Local, "x"), plain), api.ErrRecs},
		"records of too much":        {joined(sample.Main(api.Local, "x", api.MaxExt+1), plain), api.ErrLong},
		"records twice":              {joined(sample.Records(api.Local, "k", "v"), sample.Records(api.Local, "k", "v"), plain), api.ErrOrder},
		"a long name twice":          {joined(sample.Extension(api.LongName, "n"), sample.Extension(api.LongName, "n"), plain), api.ErrOrder},
		"a global within":            {joined(sample.Records(api.Local, "k", "v"), sample.Records(api.Global, "k", "v"), plain), api.ErrOrder},
		"records, and no head":       {joined(sample.Records(api.Local, "k", "v"), sample.Noughts(2)), api.ErrSum},
		"a long name, another sum":   {joined(sample.Extension(api.LongName, "n"), sample.Unsealed(plain)), api.ErrSum},
		"no size in a record":        {joined(sample.Records(api.Local, "size", "x"), plain), api.ErrRecs},
		"parts behind that are none": {joined(sample.Holed(7, 50, true), sample.Some(512)), api.ErrField},
		"parts that may not be":      {sample.Holed(7, 50, false, api.Part{At: 49, Len: 7}), api.ErrRecs},
	}
	for name, c := range want {
		readsNone(t, name, sample.Archived(c.b), 0, c.e)
		readsNone(t, name, sample.Archived(c.b, a), 0, c.e)
		readsNone(t, name+", behind a file", sample.Archived(a, c.b), 3, c.e)
		readsNone(t, name+", behind a global", sample.Archived(sample.Records(api.Global, "k", "v"), a, sample.Records(api.Global, "k", "v"), c.b), 7, c.e)
		// What comes behind it is not told.
		readsNone(t, name+", and others", joined(a, a, c.b, sample.Some(512), sample.Noughts(1)), 6, c.e)
	}
	// Of the block behind one of noughts nothing else is told, be it as wrong as it may.
	for name, c := range want {
		readsNone(t, name+", behind noughts", joined(a, sample.Noughts(1), c.b), 4, api.ErrEnd)
	}
}

// A global's size makes the member wrong that it is for.
func TestWrongGlobals(t *testing.T) {
	plain := sample.Main(api.File, "a", 0)
	g := sample.Records(api.Global, "size", "x")
	reads(t, "for none", sample.Archived(g))
	readsNone(t, "for a file", sample.Archived(g, plain), 2, api.ErrRecs)
	readsNone(t, "for a file with its own records", sample.Archived(plain, g, sample.Records(api.Local, "k", "v"), plain), 3, api.ErrRecs)
	reads(t, "mended", sample.Archived(g, sample.Records(api.Local, "size", "0"), plain), api.Member{Meta: known("a", 0)})
	reads(t, "mended for all", sample.Archived(g, sample.Records(api.Global, "size", "0"), plain), api.Member{Meta: known("a", 0)})
}

// Where an archive is cut off, that is told of the block where what is cut begins.
func TestCutOff(t *testing.T) {
	for _, c := range []struct {
		name  string
		ahead []byte
		ends  [][3]int // below how many bytes, which block, why
	}{
		{"a member", sample.Records(api.Local, "k", sample.Letters(600)), [][3]int{{1537, 0, 42}, {3584, 0, 21}}},
		{"a member behind a global", sample.Records(api.Global, "k", sample.Letters(600)), [][3]int{{1536, 0, 42}, {2048, 3, 42}, {3584, 3, 21}}},
		{"a long name", sample.Extension(api.LongName, sample.Letters(600)), [][3]int{{1537, 0, 42}, {3584, 0, 21}}},
	} {
		b := sample.Archived(c.ahead, sample.File("a", sample.Some(1100)))
		for n := range len(b) {
			at, e := n/512, api.ErrEnd
			if i := slices.IndexFunc(c.ends, func(end [3]int) bool { return n < end[0] }); i >= 0 {
				at, e = c.ends[i][1], api.Errno(c.ends[i][2])
			}
			readsNone(t, c.name, b[:n], at, e)
		}
		if !Right(b) {
			t.Errorf("%s: Right is false of the whole", c.name)
		}
	}
}

func TestShort(t *testing.T) {
	for _, size := range []int{1, 511, 512, 513, 1024, 1025, api.MaxSize} {
		head := sample.Main(api.File, "a", size)
		data := sample.Filled(sample.Some(min(size, 5000)))
		for n := range len(data) {
			readsNone(t, "cut", joined(head, data[:n]), 0, api.ErrShort)
		}
		// Bytes that lack are told ahead of the padding, and of the end.
		readsNone(t, "of another file ahead", joined(sample.File("b", sample.Some(5)), head, data[:len(data)-1]), 2, api.ErrShort)
	}
	readsNone(t, "more than there are", sample.Archived(sample.Main(api.File, "a", 1025)), 0, api.ErrShort)
	readsNone(t, "all noughts, and no end", sample.Archived(sample.Main(api.File, "a", 1024)), 3, api.ErrEnd)
	readsNone(t, "one of the end", sample.Archived(sample.Main(api.File, "a", 512)), 3, api.ErrEnd)
	readsNone(t, "a size in a record", sample.Archived(sample.Records(api.Local, "size", "1099511627776"), sample.Main(api.File, "a", 0)), 0, api.ErrShort)
	readsNone(t, "a size above all", sample.Archived(sample.Records(api.Local, "size", "1099511627777"), sample.Main(api.File, "a", 0)), 0, api.ErrRecs)
}

func TestPadding(t *testing.T) {
	for _, size := range []int{1, 2, 510, 511, 513, 600, 1023} {
		b := sample.Archived(sample.File("b", nil), sample.File("a", sample.Some(size)))
		for i := 1024 + size; i < len(b)-1024; i++ {
			for _, c := range []byte{1, ' ', 0x80, 0xff} {
				wrong := bytes.Clone(b)
				wrong[i] = c
				readsNone(t, "a byte behind", wrong, 1, api.ErrPad)
				// That is told ahead of what is wrong behind it.
				readsNone(t, "a byte behind, and no end", wrong[:len(b)-1024], 1, api.ErrPad)
			}
		}
		reads(t, "noughts behind", b, api.Member{Meta: known("b", 0)}, api.Member{Meta: known("a", size), Data: sample.Some(size)})
	}
	for _, size := range []int{0, 512, 1024} {
		b := joined(sample.File("a", sample.Some(size)), sample.Some(512), sample.Noughts(2))
		readsNone(t, "a block behind", b, 1+size/512, api.ErrSum)
	}
	// A payload's padding is not asked for.
	b := sample.Archived(sample.Records(api.Global, "k", "v"), sample.Records(api.Local, "j", "u"), sample.Extension(api.LongName, "n"), sample.File("a", nil))
	for _, i := range []int{600, 1023, 1700, 2047, 2700, 3071} {
		b[i] = 'x'
	}
	reads(t, "payloads' padding", b, api.Member{Meta: known("n", 0, sample.Recs("j", "u", "k", "v")...)})
	h := joined(sample.Holed(7, 50, false, api.Part{At: 9, Len: 7}), sample.Some(512), sample.Noughts(2))
	readsNone(t, "of a file with holes", h, 0, api.ErrPad)
}

func TestRight(t *testing.T) {
	if !Right(sample.Noughts(2)) || Right(sample.Noughts(1)) || Right(nil) || Right([]byte{1}) || Right(sample.Some(2000)) {
		t.Error("Right")
	}
}

func TestNilIsEmpty(t *testing.T) {
	for _, b := range [][]byte{nil, {}, sample.Noughts(4)[:0]} {
		readsNone(t, "nothing", b, 0, api.ErrEnd)
	}
}

func TestWhatIsHandedInStays(t *testing.T) {
	whole := sample.Archived(sample.Records(api.Global, "k", "v"), sample.File("a", sample.Some(600)), sample.Records(api.Global, "k", "w"), sample.File("b", sample.Some(3)))
	for _, n := range []int{len(whole), 2600, 1500, 0} {
		b := append(bytes.Clone(whole[:n]), sample.Some(700)...)
		kept := bytes.Clone(b)
		Read(b[:n])
		Right(b[:n])
		if !bytes.Equal(b, kept) {
			t.Errorf("of %d bytes some are changed", n)
		}
	}
	// What lies behind the bytes is none of the archive, even where it would complete it.
	readsNone(t, "the end behind the bytes", whole[:len(whole)-512], 10, api.ErrEnd)
}

func TestWhatComesOutIsNew(t *testing.T) {
	b := sample.Archived(sample.Records(api.Global, "k", "v"), sample.File("a", sample.Some(600)), sample.Holed(7, 50, false, api.Part{At: 9, Len: 7}), sample.Filled(sample.Some(7)))
	l, _, _ := Read(b)
	again, _, _ := Read(b)
	want := []api.Member{
		{Meta: known("a", 600, sample.Recs("k", "v")...), Data: sample.Some(600)},
		{Meta: api.Meta{Name: "s", Kind: api.File, Size: 7, Real: 50, Holes: true, Parts: sample.Parts(9, 7), Extra: sample.Recs("k", "v")}, Data: sample.Some(7)},
	}
	if !sample.Same(l, want) || !sample.Same(again, want) {
		t.Fatalf("Read = %+v, %+v; want %+v", l, again, want)
	}
	for _, m := range l {
		whole := m.Data[:cap(m.Data)]
		for i := range whole {
			whole[i] = 'x'
		}
	}
	l[0].Data = append(l[0].Data, 'x')
	l[1].Meta.Name = "x"
	if !sample.Same(again, want) {
		t.Errorf("another answer became %+v", again)
	}
	clear(b)
	if !sample.Same(again, want) {
		t.Errorf("an answer became %+v with its bytes", again)
	}
	reads(t, "noughts", b)
}

// The bytes of one member are not those of another.
func TestMembersShareNoBytes(t *testing.T) {
	l, _, _ := Read(sample.Archived(sample.File("a", sample.Some(5)), sample.File("b", sample.Some(5))))
	first := l[0].Data[:cap(l[0].Data)]
	for i := range first {
		first[i] = 0
	}
	if !bytes.Equal(l[1].Data, sample.Some(5)) {
		t.Errorf("another one's bytes became %v", l[1].Data)
	}
}

// Who has enough members gets no more, and what was told stays with the archive.
func TestMembersStop(t *testing.T) {
	for n := 1; n <= 3; n++ {
		a := archive{image: api.Image{Bytes: sample.Archived(sample.File("a", sample.Some(5)), sample.File("b", nil), sample.File("c", sample.Some(600)))}}
		count := 0
		for range a.members {
			count++
			if count == n {
				break
			}
		}
		if want := []int{2, 3, 6}[n-1]; count != n || a.at != want || a.errno != api.OK {
			t.Errorf("%d members: at %d, %d; want %d, at %d", count, a.at, a.errno, n, want)
		}
	}
}
