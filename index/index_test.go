package index

import (
	"bytes"
	"math"
	"reflect"
	"slices"
	"strings"
	"testing"

	"mudlark/api"
	"mudlark/sample"
)

// header is the entry of one, suspect of a block that is only like one.
func header(at, points int, kind byte, size int) api.Item {
	return api.Item{At: at, Points: points, Header: true, Kind: kind, Size: size}
}

func suspect(at, points int) api.Item {
	return api.Item{At: at, Points: points}
}

// lists holds what is told of all blocks, and of each, against the entries that there should be.
func lists(t *testing.T, name string, x api.Image, want ...api.Item) {
	t.Helper()
	if l := List(x); !slices.Equal(l, want) {
		t.Errorf("%s: List = %+v; want %+v", name, l, want)
	}
	for i := -2; i < len(x.Bytes)/512+3; i++ {
		var one api.Item
		at := slices.IndexFunc(want, func(item api.Item) bool { return item.At == i })
		if at >= 0 {
			one = want[at]
		}
		if item, ok := At(x, i); item != one || ok != (at >= 0) {
			t.Errorf("%s: At %d = %+v, %v; want %+v", name, i, item, ok, one)
		}
	}
}

// members holds a member against what it should be, tells none against why.
func members(t *testing.T, name string, x api.Image, i int, want api.Found) {
	t.Helper()
	if f, e := Member(x, i); !sample.SameFound(f, want) || e != api.OK {
		t.Errorf("%s: Member at %d = %+v, %d; want %+v", name, i, f, e, want)
	}
}

func membersNone(t *testing.T, name string, x api.Image, i int, want api.Errno) {
	t.Helper()
	if f, e := Member(x, i); !sample.SameFound(f, api.Found{}) || e != want {
		t.Errorf("%s: Member at %d = %+v, %d; want %d", name, i, f, e, want)
	}
}

// all holds those of all headers against what they should be.
func all(t *testing.T, name string, x api.Image, want ...api.Found) {
	t.Helper()
	if l := All(x); !slices.EqualFunc(l, want, sample.SameFound) {
		t.Errorf("%s: All = %+v; want %+v", name, l, want)
	}
}

func TestList(t *testing.T) {
	plainFile := sample.Main(api.File, "a", 3)
	x := sample.Image(
		sample.Noughts(1),
		sample.Records(api.Global, "k", "v"),
		sample.Records(api.Local, "k", "v"), plainFile, sample.Some(512),
		sample.Unsealed(plainFile), sample.Like(6), sample.Like(5),
		sample.Main(api.Dir, "d/", 0),
		sample.Noughts(2),
		sample.Main(api.File, "last", 1<<40),
	)
	lists(t, "of all", x,
		header(1, 15, 'g', 6), header(3, 15, 'x', 6), header(5, 15, '0', 3),
		suspect(7, 12), suspect(8, 6), header(10, 15, '5', 0), header(13, 15, '0', 1<<40))
	all(t, "of all", x,
		sample.Found(3, 6*512, 3, sample.With(sample.FileMeta("a", 3), "k", "v")), sample.Found(5, 6*512, 3, sample.FileMeta("a", 3)),
		sample.Found(10, 11*512, 0, api.Meta{Name: "d/", Kind: api.Dir}), sample.Found(13, 14*512, 0, sample.FileMeta("last", 1<<40)))
}

func TestNothing(t *testing.T) {
	for name, x := range map[string]api.Image{
		"no bytes":         {},
		"noughts":          sample.Image(sample.Noughts(2)),
		"others":           sample.Image(sample.Some(5000)),
		"bad":              sample.Spoilt(sample.Image(sample.Noughts(2)), 0, 1),
		"no bytes, bad":    {Bad: []int{0, 1}},
		"like a header":    sample.Image(sample.Like(5)),
		"none is whole":    sample.Image(sample.Main(api.File, "a", 0)[:511]),
		"none is in place": sample.Image(sample.Some(1), sample.Main(api.File, "a", 0)),
	} {
		lists(t, name, x)
		all(t, name, x)
	}
}

// Every kind is told, as it stands in its header; so is a size that has no bytes.
func TestEachKind(t *testing.T) {
	for _, kind := range []byte("01234567xgLKS") {
		h := sample.Named(kind, "a", 700)
		lists(t, "a kind", sample.Image(sample.Noughts(1), sample.Laid(h)), header(1, 15, kind, 700))
	}
	// Of no kind, it is a File; but its byte is not known, and gives no point.
	old := sample.Changed(sample.Main(api.File, "a", 9), 156, "\x00")
	lists(t, "no kind", sample.Image(old), header(0, 14, api.File, 9))
	all(t, "no kind", sample.Image(old), sample.Found(0, 512, 0, sample.FileMeta("a", 9)))
	lists(t, "another kind", sample.Image(sample.Changed(old, 156, "N")), suspect(0, 14))
	all(t, "another kind", sample.Image(sample.Changed(old, 156, "N")))
}

// A header of few points is one; a block of many is none, if it is not one.
func TestPointsDontMakeOne(t *testing.T) {
	bare := sample.Laid(api.Header{Kind: api.File, Way: api.V7})
	lists(t, "no name", sample.Image(bare), header(0, 10, api.File, 0))
	membersNone(t, "no name", sample.Image(bare), 0, api.ErrText)
	all(t, "no name", sample.Image(bare))
	empty := bytes.Clone(bare)
	for i := range 148 {
		empty[i] = 0
	}
	empty = sample.Changed(empty, 156, "\x00")
	lists(t, "nothing but a sum", sample.Image(empty), header(0, 4, api.File, 0))
	wrong := sample.Changed(sample.Main(api.File, "a", 3), 124, "-1")
	lists(t, "a wrong size", sample.Image(wrong), suspect(0, 14))
}

func TestBadBlocks(t *testing.T) {
	main := sample.Main(api.File, "a", 1000)
	x := sample.Image(main, sample.Some(1024), sample.Unsealed(main), main, sample.Some(1024))
	whole := []api.Item{header(0, 15, '0', 1000), suspect(3, 12), header(4, 15, '0', 1000)}
	lists(t, "none", x, whole...)
	lists(t, "beside them", sample.Spoilt(x, 1, 2, 5, 6, 7, 99, -1), whole...)
	lists(t, "the first", sample.Spoilt(x, 0), whole[1:]...)
	lists(t, "the suspect", sample.Spoilt(x, 3), whole[0], whole[2])
	lists(t, "the last", sample.Spoilt(x, 4), whole[:2]...)
	lists(t, "all, in no order", sample.Spoilt(x, 4, 0, 3))
	// Bytes that were not read are there, as noughts.
	members(t, "bytes", sample.Spoilt(x, 1, 2), 0, sample.Found(0, 512, 1000, sample.FileMeta("a", 1000)))
	membersNone(t, "its header", sample.Spoilt(x, 0), 0, api.ErrBad)
	all(t, "its header", sample.Spoilt(x, 0), sample.Found(4, 5*512, 1000, sample.FileMeta("a", 1000)))
}

// Wherever an image ends, so many of a member's bytes are there.
func TestPartial(t *testing.T) {
	x := sample.Image(sample.Main(api.Dir, "d/", 0), sample.File("a", sample.Some(1000)))
	for n := range 1025 {
		members(t, "cut off", sample.Cut(x, n), 1, sample.Found(1, 1024, min(1024-n, 1000), sample.FileMeta("a", 1000)))
	}
	for n := 1025; n < 1536; n++ {
		membersNone(t, "cut off in its header", sample.Cut(x, n), 1, api.ErrShort)
	}
	members(t, "all but one", sample.Cut(x, 25), 1, api.Found{At: 1, Data: 1024, Len: 999, Partial: true, Meta: sample.FileMeta("a", 1000)})
	members(t, "just all", sample.Cut(x, 24), 1, api.Found{At: 1, Data: 1024, Len: 1000, Meta: sample.FileMeta("a", 1000)})
	members(t, "none", sample.Cut(x, 1024), 1, api.Found{At: 1, Data: 1024, Partial: true, Meta: sample.FileMeta("a", 1000)})
	members(t, "of none", x, 0, api.Found{Data: 512, Meta: api.Meta{Name: "d/", Kind: api.Dir}})
	membersNone(t, "no block", sample.Cut(x, 1536), 1, api.ErrEnd)
}

// A member begins at each of its headers, with what stands from there on.
func TestEachHeaderOfAGroup(t *testing.T) {
	long := sample.Letters(200)
	x := sample.Image(
		sample.Records(api.Global, "uid", "9"),
		sample.Extension(api.LongLink, "to/"+long),
		sample.Extension(api.LongName, long),
		sample.Records(api.Local, "uid", "7"),
		sample.Main(api.Soft, "short", 0),
	)
	soft := func(name, link string, uid int) api.Meta {
		return api.Meta{Name: name, Link: link, Kind: api.Soft, Uid: uid}
	}
	all(t, "a group", x,
		sample.Found(2, 9*512, 0, soft(long, "to/"+long, 7)), sample.Found(4, 9*512, 0, soft(long, "to", 7)),
		sample.Found(6, 9*512, 0, soft("short", "to", 7)), sample.Found(8, 9*512, 0, soft("short", "to", 0)))
	membersNone(t, "a global", x, 0, api.ErrOrder)
	membersNone(t, "a payload", x, 3, api.ErrSum)
	// With its own name's block lost, what is behind is a member still.
	all(t, "a group that is broken", sample.Spoilt(x, 5),
		sample.Found(6, 9*512, 0, soft("short", "to", 7)), sample.Found(8, 9*512, 0, soft("short", "to", 0)))
}

func TestMemberOfHoles(t *testing.T) {
	m := api.Meta{Name: "s", Kind: api.File, Size: 7, Real: 50, Holes: true, Parts: sample.Parts(1, 2, 9, 5)}
	x := sample.Image(sample.Holed(7, 50, true, sample.Parts(1, 2)...), sample.Further(0, sample.Parts(9, 5)...), sample.Filled(sample.Some(7)))
	members(t, "holes", x, 0, sample.Found(0, 1024, 7, m))
	members(t, "holes, cut off", sample.Cut(x, 509), 0, sample.Found(0, 1024, 3, m))
	lists(t, "holes", x, header(0, 15, 'S', 7))
	membersNone(t, "holes without their parts", sample.Spoilt(x, 1), 0, api.ErrBad)
	all(t, "holes without their parts", sample.Spoilt(x, 1))
}

func TestErrors(t *testing.T) {
	for name, c := range sample.NoGroups() {
		membersNone(t, name, sample.Image(c.Bytes), 0, c.Errno)
		all(t, name, sample.Image(c.Bytes), behind(c.Bytes)...)
	}
	x := sample.Image(sample.Main(api.File, "a", 3))
	for _, i := range []int{-1, 1, 2, math.MaxInt, math.MinInt, math.MaxInt / 512, math.MinInt / 512} {
		membersNone(t, "no such block", x, i, api.ErrEnd)
		if item, ok := At(x, i); ok || item != (api.Item{}) {
			t.Errorf("At %d = %+v", i, item)
		}
	}
}

// behind is what is found at the headers behind a broken one.
func behind(b []byte) []api.Found {
	if len(b) > 3*512 {
		return []api.Found{sample.Found(2, 5*512, 0, sample.With(sample.FileMeta("a", 3), "k", "v")), sample.Found(4, 5*512, 0, sample.FileMeta("a", 3))}
	}
	return nil
}

// Members may lie in one another, as each header counts.
func TestMembersInOthers(t *testing.T) {
	inner := sample.Archived(sample.File("in", sample.Some(600)))
	x := sample.Image(sample.File("out", inner), sample.File("next", nil))
	lists(t, "an archive in another", x, header(0, 15, '0', len(inner)), header(1, 15, '0', 600), header(6, 15, '0', 0))
	all(t, "an archive in another", x,
		sample.Found(0, 512, len(inner), sample.FileMeta("out", len(inner))), sample.Found(1, 1024, 600, sample.FileMeta("in", 600)), sample.Found(6, 7*512, 0, sample.FileMeta("next", 0)))
}

func TestNilIsEmpty(t *testing.T) {
	b := sample.File("a", sample.Some(3))
	for _, bad := range [][]int{nil, {}} {
		lists(t, "nil and empty", sample.Spoilt(sample.Image(b), bad...), header(0, 15, '0', 3))
		all(t, "nil and empty", sample.Spoilt(sample.Image(b), bad...), sample.Found(0, 512, 3, sample.FileMeta("a", 3)))
		x := api.Image{Bytes: []byte{}, Bad: bad}
		lists(t, "empty", x)
		all(t, "empty", x)
		membersNone(t, "empty", x, 0, api.ErrEnd)
	}
}

func TestWhatIsHandedInStays(t *testing.T) {
	// Behind the lengths stand bytes and numbers that would count if they were read.
	main := sample.Main(api.File, "a", 1000)
	b := slices.Concat(main, sample.Some(1024), main)
	bad := []int{2, 0}
	keep, keepBad := bytes.Clone(b), slices.Clone(bad)
	x := api.Image{Bytes: b[:512+700], Bad: bad[:1]}
	lists(t, "with others behind", x, header(0, 15, '0', 1000))
	all(t, "with others behind", x, sample.Found(0, 512, 700, sample.FileMeta("a", 1000)))
	x.Bytes = b[:len(b)-1]
	lists(t, "with a byte behind", x, header(0, 15, '0', 1000))
	membersNone(t, "with a byte behind", x, 3, api.ErrShort)
	if !bytes.Equal(b, keep) || !slices.Equal(bad, keepBad) {
		t.Error("what was handed in is another")
	}
}

func TestWhatComesOutIsNew(t *testing.T) {
	x := sample.Image(
		sample.Records(api.Local, "a", "1", "b", "2"),
		sample.Holed(3, 9, false, sample.Parts(0, 1, 5, 2)...), sample.Filled(sample.Some(3)),
	)
	m := api.Meta{Name: "s", Kind: api.File, Size: 3, Real: 9, Holes: true, Parts: sample.Parts(0, 1, 5, 2)}
	want := []api.Found{sample.Found(0, 3*512, 3, sample.With(m, "a", "1", "b", "2")), sample.Found(2, 3*512, 3, m)}
	items := []api.Item{header(0, 15, 'x', 12), header(2, 15, 'S', 3)}
	firstList, firstAll, secondList, secondAll := List(x), All(x), List(x), All(x)
	one, _ := Member(x, 0)
	for _, f := range append(firstAll[:cap(firstAll)], one) {
		for i := range f.Meta.Parts {
			f.Meta.Parts[i] = api.Part{At: -1}
		}
		for i := range f.Meta.Extra {
			f.Meta.Extra[i] = api.Rec{Key: "spoilt"}
		}
	}
	clear(firstAll)
	clear(firstList)
	for i := range x.Bytes {
		x.Bytes[i] = 255
	}
	if !slices.Equal(secondList, items) {
		t.Errorf("the list became %+v", secondList)
	}
	if !slices.EqualFunc(secondAll, want, sample.SameFound) {
		t.Errorf("the members became %+v", secondAll)
	}
}

// What lies behind a list's length is not handed out.
func TestNothingLiesBehind(t *testing.T) {
	x := sample.Image([]byte(strings.Repeat(string(sample.Main(api.File, "a", 0)), 9)))
	for n := range 9 {
		l, found := List(sample.Cut(x, n*512)), All(sample.Cut(x, n*512))
		for _, item := range l[len(l):cap(l)] {
			if item != (api.Item{}) {
				t.Errorf("behind the list stands %+v", item)
			}
		}
		for _, f := range found[len(found):cap(found)] {
			if !reflect.DeepEqual(f, api.Found{}) {
				t.Errorf("behind the members stands %+v", f)
			}
		}
	}
}
