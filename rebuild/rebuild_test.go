package rebuild

import (
	"bytes"
	"math"
	"slices"
	"testing"

	"mudlark/api"
	"mudlark/sample"
	"mudlark/sink"
)

// partialText is the key of the record that tells how many bytes a file had.
const partialText = "SALVAGE.partial"

// member is one of what is known, and its bytes.
func member(m api.Meta, data []byte) api.Member {
	return api.Member{Meta: m, Data: data}
}

// file is one of a name, with its bytes; part one of which some are cut off, with how many there were.
func file(name string, data []byte) api.Member {
	return member(sample.FileMeta(name, len(data)), data)
}

func part(name string, data []byte, had string) api.Member {
	return member(sample.With(sample.FileMeta(name, len(data)), partialText, had), data)
}

// same says whether members are alike.
func same(a, b api.Member) bool {
	return sample.Same([]api.Member{a}, []api.Member{b})
}

// is holds what was found against the member that it should be.
func is(t *testing.T, name string, x api.Image, f api.Found, want api.Member) {
	t.Helper()
	if m := Member(x, f); !same(m, want) {
		t.Errorf("%s: Member of %+v = %+v, %q; want %+v, %q", name, f, m.Meta, m.Data, want.Meta, want.Data)
	}
}

// salvages holds all of an image against the members that there should be, and what is rebuilt of it against their archive.
func salvages(t *testing.T, name string, x api.Image, want ...api.Member) {
	t.Helper()
	if l := Salvage(x); !sample.Same(l, want) {
		t.Errorf("%s: Salvage = %+v; want %+v", name, l, want)
	}
	var archive []byte
	for _, m := range want {
		archive = append(archive, sample.Written(m)...)
	}
	if b := Rebuild(x); !bytes.Equal(b, sample.Archived(archive)) {
		t.Errorf("%s: Rebuild has %d bytes; want %d, or others", name, len(b), len(archive)+1024)
	}
}

// recovers holds the member at a block against the one that it should be, recoversNone none against why.
func recovers(t *testing.T, name string, x api.Image, i int, want api.Member) {
	t.Helper()
	if m, e := Recover(x, i); !same(m, want) || e != api.OK {
		t.Errorf("%s: Recover at %d = %+v, %q, %d; want %+v, %q", name, i, m.Meta, m.Data, e, want.Meta, want.Data)
	}
}

func recoversNone(t *testing.T, name string, x api.Image, i int, want api.Errno) {
	t.Helper()
	if m, e := Recover(x, i); !same(m, api.Member{}) || e != want {
		t.Errorf("%s: Recover at %d = %+v, %d; want %d", name, i, m, e, want)
	}
}

func TestExamples(t *testing.T) {
	for name, x := range map[string]api.Image{
		"no bytes":       {},
		"1024 noughts":   sample.Image(sample.Noughts(2)),
		"one block":      sample.Image(sample.Noughts(1)),
		"a byte":         sample.Image([]byte{1}),
		"others":         sample.Image(sample.Some(5000)),
		"bad":            sample.Spoilt(sample.Image(sample.File("a", sample.Some(5))), 0, 1),
		"no bytes, bad":  {Bad: []int{0, 1}},
		"part of one":    sample.Cut(sample.Image(sample.Main(api.File, "a", 0)), 1),
		"a suspect":      sample.Image(sample.Unsealed(sample.Main(api.File, "a", 0))),
		"an orphan":      sample.Image(sample.Extension(api.LongName, "a")),
		"records of all": sample.Image(sample.Records(api.Global, "path", "a")),
	} {
		salvages(t, name, x)
		if b := Rebuild(x); !bytes.Equal(b, make([]byte, 1024)) {
			t.Errorf("%s: Rebuild = %d bytes", name, len(b))
		}
	}
	x := sample.Image(sample.Main(api.File, "a", 3), sample.Noughts(1))
	salvages(t, "without an end", x, file("a", []byte{0, 0, 0}))
}

// So many bytes as are there are a member's, wherever it is told that they are.
func TestDataIsClipped(t *testing.T) {
	const first, last = math.MinInt, math.MaxInt
	x := sample.Image([]byte("0123456789"))
	for _, c := range []struct {
		data, n int
		want    string
	}{
		{0, 0, ""}, {0, 1, "0"}, {0, 3, "012"}, {0, 10, "0123456789"}, {0, 11, "0123456789"}, {0, last, "0123456789"},
		{2, 3, "234"}, {8, 2, "89"}, {8, 3, "89"}, {8, last, "89"}, {9, 1, "9"}, {9, 5, "9"}, {5, last - 5, "56789"}, {5, last - 4, "56789"},
		{10, 0, ""}, {10, 1, ""}, {10, last, ""}, {11, 1, ""}, {1000, 1000, ""}, {last, 1, ""}, {last, last, ""}, {last - 9, 10, ""},
		{-1, 3, "012"}, {-5, 3, "012"}, {-5, 100, "0123456789"}, {first, 2, "01"}, {first, last, "0123456789"}, {-3, 0, ""},
		{0, -1, ""}, {3, -3, ""}, {5, first, ""}, {-1, -1, ""}, {first, first, ""}, {last, first, ""},
	} {
		for _, kind := range []byte("015S\x00") {
			m := api.Meta{Name: "a", Kind: kind, Size: 7, Real: 9}
			is(t, "clipped", x, api.Found{At: 5, Data: c.data, Len: c.n, Meta: m}, member(m, []byte(c.want)))
		}
		f := api.Found{At: 5, Data: c.data, Len: c.n, Partial: true, Meta: sample.FileMeta("a", 77)}
		is(t, "clipped, and partial", x, f, part("a", []byte(c.want), "77"))
		is(t, "of nothing", api.Image{}, f, part("a", nil, "77"))
	}
	// Bytes of a bad block are those that stand there.
	f := sample.Found(0, 2, 3, sample.FileMeta("a", 3))
	is(t, "bad", sample.Spoilt(x, 0), f, file("a", []byte("234")))
}

// Of a member that is not partial nothing is another, whatever is known of it.
func TestWhatIsNotPartialStays(t *testing.T) {
	x := sample.Image(sample.Some(1000))
	d := sample.Draw(1)
	for range 300 {
		m := sample.Meta(&d)
		f := api.Found{Data: 3, Len: d.Below(20), Meta: m}
		is(t, "not partial", x, f, member(m, sample.Some(1000)[3:3+f.Len]))
		f.Meta = sample.With(m, "z", "1", "a", "", "path", "2", partialText, "3")
		is(t, "not partial, with others", x, f, member(f.Meta, sample.Some(1000)[3:3+f.Len]))
	}
}

// What is cut off counts for a file alone.
func TestPartialOfEachKind(t *testing.T) {
	x := sample.Image([]byte("0123456789"))
	for kind := range 256 {
		m := api.Meta{Name: "a", Kind: byte(kind), Size: 100, Real: 200, Holes: true, Parts: sample.Parts(0, 4, 10, 96), Extra: sample.Recs("z", "1", "a", "2")}
		want := member(m, []byte("234567"))
		if kind == '0' {
			want.Meta.Size, want.Meta.Parts, want.Meta.Extra = 6, sample.Parts(0, 4, 10, 2), sample.Recs(partialText, "100", "a", "2", "z", "1")
		}
		is(t, "partial", x, api.Found{Data: 2, Len: 6, Partial: true, Meta: m}, want)
	}
}

func TestPartialFile(t *testing.T) {
	x := sample.Image(sample.Some(1000))
	for n := range 12 {
		f := sample.Found(0, 3, n, sample.FileMeta("a", 12))
		is(t, "cut off", x, f, part("a", sample.Some(1000)[3:3+n], "12"))
	}
	for had, text := range map[int]string{
		1: "1", 1000: "1000", 1 << 31: "2147483648", 1 << 40: "1099511627776",
		// What is told is told, be it right or not.
		0: "0", -7: "-7", math.MaxInt: "9223372036854775807", math.MinInt: "-9223372036854775808",
	} {
		f := api.Found{Data: 3, Len: 4, Partial: true, Meta: sample.FileMeta("a", had)}
		is(t, "had many", x, f, part("a", sample.Some(1000)[3:7], text))
		f.Meta.Real = 5
		is(t, "another Real", x, f, part("a", sample.Some(1000)[3:7], text))
	}
	// Parts of one without holes stay, though there may be none: it may not be written so, and tells nothing.
	m := sample.With(sample.FileMeta("a", 9), "k", "v")
	m.Parts = sample.Parts(0, 9)
	want := sample.With(sample.FileMeta("a", 4), "k", "v")
	want.Parts = sample.Parts(0, 9)
	is(t, "parts without holes", x, api.Found{Data: 3, Len: 4, Partial: true, Meta: m}, member(want, sample.Some(1000)[3:7]))
}

// All else that is known of a file stays as it is.
func TestPartialKeepsTheRest(t *testing.T) {
	m := sample.With(sample.FileMeta(sample.Letters(300), 1<<40), "k", "v")
	m.Mode, m.Uid, m.Gid, m.User, m.Group, m.Mtime = 0o644, 5, 3000000, "u", sample.Letters(40), api.Time{S: -1, N: 7}
	want := sample.With(m, partialText, "1099511627776", "k", "v")
	want.Size, want.Real = 2, 2
	is(t, "much is known", sample.Image([]byte("0123")), api.Found{At: 9, Data: 2, Len: 5, Partial: true, Meta: m}, member(want, []byte("23")))
}

// The record stands among the others by its key, and over one of that key; those without a value are none.
func TestPartialAmongRecords(t *testing.T) {
	for _, c := range []struct{ extra, want []api.Rec }{
		{nil, sample.Recs(partialText, "9")},
		{[]api.Rec{}, sample.Recs(partialText, "9")},
		{sample.Recs("A", "1"), sample.Recs("A", "1", partialText, "9")},
		{sample.Recs("a", "1"), sample.Recs(partialText, "9", "a", "1")},
		{sample.Recs("SALVAGE", "1", "SALVAGE.partia", "2", "SALVAGE.partiam", "3"), sample.Recs("SALVAGE", "1", "SALVAGE.partia", "2", partialText, "9", "SALVAGE.partiam", "3")},
		{sample.Recs(partialText, "20"), sample.Recs(partialText, "9")},
		{sample.Recs("A", "1", partialText, "20", "a", "2"), sample.Recs("A", "1", partialText, "9", "a", "2")},
		{sample.Recs("z", "1", "a", "2"), sample.Recs(partialText, "9", "a", "2", "z", "1")},
		{sample.Recs("a", "1", "a", "2"), sample.Recs(partialText, "9", "a", "2")},
		{sample.Recs("a", "", "b", "2", partialText, ""), sample.Recs(partialText, "9", "b", "2")},
	} {
		f := api.Found{Len: 3, Partial: true, Meta: sample.FileMeta("a", 9)}
		f.Meta.Extra = c.extra
		want := sample.FileMeta("a", 3)
		want.Extra = c.want
		is(t, "among others", sample.Image([]byte("0123")), f, member(want, []byte("012")))
	}
}

// Of one with holes as many parts are left as have any of the bytes; how long it is stays.
func TestPartialHoles(t *testing.T) {
	x := sample.Image([]byte("0123456789"))
	m := sample.With(api.Meta{Name: "s", Kind: api.File, Size: 7, Real: 50, Holes: true, Parts: sample.Parts(1, 2, 9, 4, 20, 1)}, "k", "v")
	for n, parts := range [][]api.Part{
		nil, sample.Parts(1, 1), sample.Parts(1, 2), sample.Parts(1, 2, 9, 1), sample.Parts(1, 2, 9, 2), sample.Parts(1, 2, 9, 3), sample.Parts(1, 2, 9, 4),
		sample.Parts(1, 2, 9, 4, 20, 1), sample.Parts(1, 2, 9, 4, 20, 1),
	} {
		want := sample.With(m, partialText, "7", "k", "v")
		want.Size, want.Parts = n, parts
		if n == 8 {
			// More bytes than all parts have may not be written.
			want.Extra = m.Extra
		}
		is(t, "holes", x, api.Found{Len: n, Partial: true, Meta: m}, member(want, x.Bytes[:n]))
	}
	m.Parts, m.Real = sample.Parts(3, 7), 10
	want := sample.With(m, partialText, "7", "k", "v")
	want.Size, want.Parts = 6, sample.Parts(3, 6)
	is(t, "one part", x, api.Found{Len: 6, Partial: true, Meta: m}, member(want, x.Bytes[:6]))
}

func TestSalvage(t *testing.T) {
	long := sample.Letters(300)
	holed := api.Meta{Name: "s", Kind: api.File, Size: 7, Real: 50, Holes: true, Parts: sample.Parts(1, 2, 9, 5)}
	x := sample.Image(
		sample.Noughts(1), sample.File("a", sample.Some(600)), sample.Like(6),
		sample.Records(api.Global, "uid", "9"),
		sample.Extension(api.LongName, long), sample.Main(api.Soft, "short", 0), sample.Some(512),
		sample.Holed(7, 50, true, sample.Parts(1, 2)...), sample.Further(0, sample.Parts(9, 5)...), sample.Filled(sample.Some(7)),
		sample.Records(api.Local, "k", "v", "uid", "3"), sample.Main(api.Dir, "d/", 0),
		sample.Noughts(2), sample.File("b", sample.Some(3)),
	)
	link, dir, b := sample.SoftMeta(long, "to"), sample.With(api.Meta{Name: "d/", Kind: api.Dir, Uid: 3}, "k", "v"), file("b", sample.Some(3))
	link.Uid, b.Meta.Uid = 9, 9
	sparse := member(holed, sample.Some(7))
	sparse.Meta.Uid = 9
	want := []api.Member{file("a", sample.Some(600)), member(link, nil), sparse, member(dir, nil), b}
	salvages(t, "of all", x, want...)
	// With the end ahead of what is found, and none behind, all is there.
	salvages(t, "behind an end", sample.Image(sample.Noughts(2), x.Bytes), want...)
	for n := 1; n <= 509; n++ {
		salvages(t, "its last padding cut off", sample.Cut(x, n), want...)
	}
	b.Data, b.Meta.Size, b.Meta.Real, b.Meta.Extra = b.Data[:2], 2, 2, sample.Recs(partialText, "3")
	salvages(t, "a byte cut off", sample.Cut(x, 510), append(want[:4:4], b)...)
	salvages(t, "a member cut off", sample.Cut(x, 1025), want[:4]...)
}

// Whatever is cut off of the last file, the rest is there.
func TestSalvageOfACutEnd(t *testing.T) {
	a, dir := sample.Some(1000), member(api.Meta{Name: "d/", Kind: api.Dir}, nil)
	x := sample.Image(sample.Main(api.Dir, "d/", 0), sample.File("a", a))
	for n := range 1025 {
		want := file("a", a)
		if n > 24 {
			want = part("a", a[:1024-n], "1000")
		}
		salvages(t, "cut off", sample.Cut(x, n), dir, want)
		recovers(t, "cut off", sample.Cut(x, n), 1, want)
	}
	for n := 1025; n <= 1536; n++ {
		salvages(t, "cut off in its header", sample.Cut(x, n), dir)
	}
	// Of a size that is a lie all that is behind are its bytes, and so told.
	lie := sample.Image(sample.Main(api.File, "a", 1<<40), sample.File("b", a), sample.Noughts(2))
	salvages(t, "a lie", lie, part("a", lie.Bytes[512:], "1099511627776"))
}

func TestSalvageOfBadBlocks(t *testing.T) {
	x := sample.Image(sample.File("a", sample.Some(1000)), sample.File("b", sample.Some(600)))
	a, b := sample.Some(1000), sample.Some(600)
	salvages(t, "none", x, file("a", a), file("b", b))
	salvages(t, "a header", sample.Spoilt(x, 0), file("b", b))
	salvages(t, "the other header", sample.Spoilt(x, 3), file("a", a))
	salvages(t, "both", sample.Spoilt(x, 3, 0))
	// Bytes that could not be read are noughts, if the image has them so; they are no less.
	x = sample.Spoilt(sample.Image(x.Bytes[:1024], sample.Noughts(1), x.Bytes[1536:]), 2)
	salvages(t, "bytes", x, file("a", append(sample.Some(512), make([]byte, 488)...)), file("b", b))
	// What is left of a group is a member, whose records are told.
	name := sample.Letters(150)
	torn := sample.Torn(sample.Records(api.Local, "path", name, "k", "v"), 2, sample.Main(api.File, name[:100], 600), sample.Some(600))
	salvages(t, "torn", torn, member(sample.With(sample.FileMeta(name, 600), "k", "v"), sample.Some(600)))
	salvages(t, "torn, and cut off", sample.Cut(torn, 599), member(sample.With(sample.FileMeta(name, 1), partialText, "600", "k", "v"), sample.Some(1)))
}

// What was rebuilt of a file that was cut off is whole, and is cut off again as such.
func TestCutOffTwice(t *testing.T) {
	x := sample.Cut(sample.Image(sample.File("a", sample.Some(1024))), 24)
	salvages(t, "cut off", x, part("a", sample.Some(1000), "1024"))
	x = sample.Image(Rebuild(x))
	salvages(t, "rebuilt", x, part("a", sample.Some(1000), "1024"))
	// It has records now: two blocks ahead of its header.
	salvages(t, "cut off again", sample.Cut(x, len(x.Bytes)-3*512-700), part("a", sample.Some(700), "1000"))
	salvages(t, "without a byte", sample.Cut(x, len(x.Bytes)-3*512), part("a", nil, "1000"))
	salvages(t, "rebuilt without a byte", sample.Image(Rebuild(sample.Cut(x, len(x.Bytes)-3*512))), part("a", nil, "1000"))
}

// A sink has as much of what is rebuilt as it has room for, behind what it had.
func TestInto(t *testing.T) {
	x := sample.Image(sample.File("a", sample.Some(5)))
	b := Rebuild(x)
	for _, room := range []int{math.MinInt, -1, 0, 1, 511, 512, 513, 1024, 2047, 2048, 2049, 5000, math.MaxInt} {
		s, n := sink.New(room), min(max(room, 0), len(b))
		want := api.OK
		if n < len(b) {
			want = api.ErrFull
		}
		if e := Into(x, s); e != want || !bytes.Equal(s.Bytes(), b[:n]) || s.Left() != max(room, 0)-n {
			t.Errorf("Into a room of %d = %d, with %d bytes, %d left; want %d, %d", room, e, len(s.Bytes()), s.Left(), want, n)
		}
	}
	s := sink.New(7 + 2*len(b) + 3)
	s.Write([]byte("already"))
	if e, again, more := Into(x, s), Into(x, s), Into(x, s); e != api.OK || again != api.OK || more != api.ErrFull {
		t.Errorf("Into three times = %d, %d, %d", e, again, more)
	}
	if !bytes.Equal(s.Bytes(), slices.Concat([]byte("already"), b, b, b[:3])) {
		t.Errorf("behind what it had a sink has %d bytes", len(s.Bytes()))
	}
	for _, x := range []api.Image{{}, x} {
		if e := Into(x, nil); e != api.ErrFull {
			t.Errorf("Into no sink = %d", e)
		}
	}
	// Be it of no bytes, there is an archive.
	if e := Into(api.Image{}, sink.New(1023)); e != api.ErrFull {
		t.Errorf("Into a room of 1023 = %d", e)
	}
	if e := Into(api.Image{}, sink.New(1024)); e != api.OK {
		t.Errorf("Into a room of 1024 = %d", e)
	}
}

// A member is recovered at each header, with what stands from there on, and without what is for all.
func TestRecover(t *testing.T) {
	inner := sample.Archived(sample.File("in", sample.Some(600)))
	x := sample.Image(
		sample.Records(api.Global, "uid", "9", "k", "for all"), sample.Records(api.Local, "uid", "7"),
		sample.File("out", inner), sample.Noughts(2), sample.File("last", sample.Some(1000)),
	)
	out := file("out", inner)
	recovers(t, "without its records", x, 4, out)
	out.Meta.Uid = 7
	recovers(t, "with its records", x, 2, out)
	recovers(t, "in another", x, 5, file("in", sample.Some(600)))
	recovers(t, "behind an end", x, 12, file("last", sample.Some(1000)))
	recovers(t, "cut off", sample.Cut(x, 100), 12, part("last", sample.Some(924), "1000"))
	recovers(t, "all cut off", sample.Cut(x, 1024), 12, part("last", nil, "1000"))
	recovers(t, "others bad", sample.Spoilt(x, 0, 1, 2, 3, 4), 5, file("in", sample.Some(600)))
	holed := sample.With(api.Meta{Name: "s", Kind: api.File, Size: 2, Real: 50, Holes: true, Parts: sample.Parts(1, 2)}, partialText, "7")
	recovers(t, "holes, cut off", sample.Cut(sample.Image(sample.Holed(7, 50, false, sample.Parts(1, 2, 9, 5)...), sample.Some(512)), 510), 0, member(holed, sample.Some(2)))
}

func TestRecoverTellsWhyNot(t *testing.T) {
	for name, c := range sample.NoGroups() {
		recoversNone(t, name, sample.Image(c.Bytes), 0, c.Errno)
	}
	main := sample.Main(api.File, "a", 3)
	x := sample.Image(main, sample.Some(512))
	for _, i := range []int{-1, 2, 3, math.MaxInt, math.MinInt, math.MaxInt / 512, math.MinInt / 512} {
		recoversNone(t, "no such block", x, i, api.ErrEnd)
	}
	recoversNone(t, "bad", sample.Spoilt(x, 0), 0, api.ErrBad)
	recoversNone(t, "bytes", x, 1, api.ErrSum)
	// Of a group that is torn its own headers alone tell nothing, though it is salvaged.
	torn := sample.Torn(sample.Extension(api.LongName, "a"), 1, main, sample.Some(512))
	recoversNone(t, "torn", torn, 0, api.ErrBad)
	salvages(t, "torn", torn, file("a", sample.Some(3)))
}
