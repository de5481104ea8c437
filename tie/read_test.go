package tie

import (
	"bytes"
	"slices"
	"testing"

	"mudlark/api"
	"mudlark/group"
	"mudlark/sample"
)

func TestReadEachKind(t *testing.T) {
	long, far := sample.Letters(150), "to/"+sample.Letters(200)
	for lost := 1; lost < 4; lost++ {
		x := sample.Torn(sample.Records(api.Local, "path", long, "uid", "7", "k", "v"), lost, sample.Main(api.File, long[:100], 600), sample.Some(1024))
		m := api.Meta{Name: long, Kind: api.File, Uid: 7, Size: 600, Real: 600, Extra: sample.Recs("k", "v")}
		reads(t, "x", x, 0, nil, tied(0, 2+lost, 2, m))
		g, _ := Read(x, 0, nil)
		if b := group.Bytes(x, g); !bytes.Equal(b, sample.Some(600)) {
			t.Errorf("x: other bytes, %d", len(b))
		}
		reads(t, "L", sample.Torn(sample.Extension(api.LongName, long+"\x00"), lost, sample.Main(api.Dir, long[:100], 0)), 0, nil, tied(0, 2+lost, 0, api.Meta{Name: long, Kind: api.Dir}))
		for _, kind := range []byte{api.Hard, api.Soft} {
			h := sample.Named(kind, "a", 0)
			h.Link = far[:100]
			m := api.Meta{Name: "a", Link: far, Kind: kind}
			reads(t, "K", sample.Torn(sample.Extension(api.LongLink, far+"\x00behind"), lost, sample.Laid(h)), 0, nil, tied(0, 2+lost, 0, m))
			// A link's name may have a prefix, as nothing is told of it.
			h.Way, h.Prefix, m.Name = api.Ustar, "d", "d/a"
			reads(t, "K, of a prefix", sample.Torn(sample.Extension(api.LongLink, far), lost, sample.Laid(h)), 0, nil, tied(0, 2+lost, 0, m))
		}
	}
	// Of a File no link is known, but where its header tells it, it agrees.
	h := sample.Named(api.File, "a", 0)
	h.Link = "to"
	reads(t, "K, of a File", sample.Torn(sample.Extension(api.LongLink, "to"), 1, sample.Laid(h)), 0, nil, tied(0, 3, 0, api.Meta{Name: "a", Kind: api.File}))
}

// What follows may be a group of its own, of any headers.
func TestReadWhatFollows(t *testing.T) {
	long := sample.Letters(150)
	link := sample.Named(api.Soft, long[:100], 0)
	main := sample.Laid(link)
	name := sample.Extension(api.LongName, long)
	reads(t, "K behind", sample.Torn(name, 2, sample.Extension(api.LongLink, "far"), main), 0, nil, tied(0, 6, 0, sample.SoftMeta(long, "far")))
	m := sample.SoftMeta(long, "to")
	m.Uid, m.Extra = 8, sample.Recs("k", "v")
	reads(t, "x behind", sample.Torn(name, 2, sample.Records(api.Local, "k", "v", "uid", "8"), main), 0, nil, tied(0, 6, 0, m))
	// Its own records are over an orphan's, these over the globals, and all of them over a long name.
	own := sample.Records(api.Local, "path", long, "uid", "7", "gid", "7", "k", "1", "j", "1")
	m.Uid, m.Gid, m.User, m.Extra = 8, 7, "g", sample.Recs("i", "0", "j", "1", "k", "v")
	global := sample.Recs("uid", "6", "i", "0", "j", "0", "gid", "6", "uname", "g", "i", "0")
	behind := sample.Torn(own, 2, sample.Extension(api.LongName, "another"), sample.Records(api.Local, "k", "v", "uid", "8"), main)
	reads(t, "records over others", behind, 0, global, tied(0, 8, 0, m))
	// Whether it agrees is asked of what was lost alone.
	reads(t, "another name behind", sample.Torn(name, 2, sample.Records(api.Local, "path", "another"), main), 0, nil, tied(0, 6, 0, sample.SoftMeta("another", "to")))
	reads(t, "a name of all", sample.Torn(name, 2, main), 0, sample.Recs("path", "another"), tied(0, 4, 0, sample.SoftMeta(long, "to")))
	reads(t, "behind others", sample.Spoilt(sample.Image(main, sample.Noughts(1), name, main, main), 4), 2, nil, tied(2, 5, 0, sample.SoftMeta(long, "to")))
	holed := api.Meta{Name: "s", Kind: api.File, Size: 7, Real: 50, Holes: true, Parts: sample.Parts(1, 2, 9, 5)}
	x := sample.Torn(sample.Extension(api.LongName, "s"), 1, sample.Holed(7, 50, true, sample.Parts(1, 2)...), sample.Further(0, sample.Parts(9, 5)...), sample.Filled(sample.Some(7)))
	reads(t, "holes", x, 0, nil, api.Group{Main: 3, Data: 5 * 512, Next: 6, Meta: holed})
	readsNone(t, "holes without their parts", sample.Spoilt(x, 2, 4), 0, nil)
	// Its bytes need not be there.
	reads(t, "bytes that are bad", sample.Spoilt(sample.Torn(sample.Extension(api.LongName, "a"), 1, sample.Main(api.File, "a", 600), sample.Some(1024)), 2, 4, 5), 0, nil,
		tied(0, 3, 2, api.Meta{Name: "a", Kind: api.File, Size: 600, Real: 600}))
	reads(t, "bytes that are cut off", sample.Torn(sample.Extension(api.LongName, "a"), 1, sample.Main(api.File, "a", 600)), 0, nil,
		tied(0, 3, 2, api.Meta{Name: "a", Kind: api.File, Size: 600, Real: 600}))
}

func TestReadWhatDoesNotAgree(t *testing.T) {
	long := sample.Letters(150)
	main, whole := sample.Main(api.File, "a", 0), sample.Extension(api.LongName, "a")
	tooLong := sample.Main(api.File, long[:99], 0)
	prefixed := sample.Laid(api.Header{Kind: api.File, Way: api.Ustar, Name: "a", Prefix: "d"})
	for name, x := range map[string]api.Image{
		"another name":           sample.Torn(sample.Extension(api.LongName, "b"), 1, main),
		"fewer bytes":            sample.Torn(sample.Extension(api.LongName, long), 1, tooLong),
		"a prefix":               sample.Torn(whole, 1, prefixed),
		"a prefix that is told":  sample.Torn(sample.Extension(api.LongName, "d/a"), 1, prefixed),
		"another link":           sample.Torn(sample.Extension(api.LongLink, "b"), 1, sample.Main(api.Soft, "a", 0)),
		"no link":                sample.Torn(sample.Extension(api.LongLink, "a"), 1, main),
		"another link as well":   sample.Torn(sample.Records(api.Local, "path", "a", "linkpath", "b"), 1, sample.Main(api.Soft, "a", 0)),
		"nothing told":           sample.Torn(sample.Records(api.Local, "uid", "7"), 1, main),
		"records that are none":  sample.Torn(sample.Extension(api.Local, "9 path=a\nx"), 1, main),
		"records of nothing":     sample.Torn(sample.Extension(api.Local, ""), 1, main),
		"a name taken away":      sample.Torn(sample.Extension(api.Local, "9 path=a\n8 path=\n"), 1, main),
		"a name of no bytes":     sample.Torn(sample.Extension(api.LongName, "\x00a"), 1, main),
		"a payload of no bytes":  sample.Torn(sample.Extension(api.LongName, ""), 1, main),
		"a link of no bytes":     sample.Torn(sample.Extension(api.LongLink, "\x00"), 1, main),
		"an own name":            sample.Torn(sample.Records(api.Local, "uid", "7"), 1, whole, main),
		"noughts":                sample.Torn(whole, 1, sample.Noughts(2)),
		"bytes":                  sample.Torn(whole, 1, sample.Some(512), main),
		"a part of a header":     sample.Torn(whole, 1, main[:511]),
		"a suspect":              sample.Torn(whole, 1, sample.Unsealed(main)),
		"one for all":            sample.Torn(whole, 1, sample.Records(api.Global, "k", "v"), main),
		"two of a kind":          sample.Torn(whole, 1, whole, whole, main),
		"nothing behind another": sample.Torn(whole, 1, sample.Extension(api.LongLink, "a")),
		"a number that is none":  sample.Torn(sample.Records(api.Local, "path", "a", "uid", "x"), 1, main),
		"a number below 0":       sample.Torn(sample.Records(api.Local, "path", "a"), 1, sample.Records(api.Local, "size", "-1"), main),
		"holes without a map":    sample.Torn(sample.Records(api.Local, "path", "a", "GNU.sparse.size", "5"), 1, main),
		"nothing lost":           sample.Image(sample.Records(api.Local, "path", "a", "uid", "x"), main),
		"a group that is whole":  sample.Image(whole, main),
		"no extension":           sample.Image(main),
		"no block":               {},
	} {
		readsNone(t, name, x, 0, nil)
	}
	readsNone(t, "a global that is none", sample.Torn(whole, 1, main), 0, sample.Recs("uid", "x"))
	readsNone(t, "a name of all", sample.Torn(sample.Records(api.Local, "uid", "7"), 1, main), 0, sample.Recs("path", "a"))
	for _, i := range []int{-1, 1, 2, 3, 4, 5} {
		readsNone(t, "from elsewhere", sample.Torn(whole, 1, main), i, nil)
	}
}

// What an orphan tells is over the globals, that come out as they came in.
func TestReadOfGlobals(t *testing.T) {
	x := sample.Torn(sample.Records(api.Local, "path", "a"), 1, sample.Main(api.File, "a", 3), sample.Filled(sample.Some(3)))
	want := tied(0, 3, 1, api.Meta{Name: "a", Kind: api.File, Size: 3, Real: 3})
	for _, global := range [][]api.Rec{nil, {}, sample.Recs("k", ""), sample.Recs("path", "z")} {
		reads(t, "with globals", x, 0, global, want)
	}
	want.Meta.Uid, want.Meta.Extra = 5, sample.Recs("k", "2", "l", "3")
	reads(t, "with globals", x, 0, sample.Recs("uid", "5", "k", "1", "l", "3", "k", "2"), want)
	// What an orphan takes away of them is there all the same, as pax.Merge of its own records has none without a value.
	x = sample.Torn(sample.Extension(api.Local, "9 path=a\n5 k=\n"), 1, sample.Main(api.File, "a", 0))
	reads(t, "taken away", x, 0, sample.Recs("k", "1"), tied(0, 3, 0, api.Meta{Name: "a", Kind: api.File, Extra: sample.Recs("k", "1")}))
}

func TestNilIsEmpty(t *testing.T) {
	for _, bad := range [][]int{nil, {}} {
		x := api.Image{Bytes: []byte{}, Bad: bad}
		orphans(t, "empty", x)
		followsNone(t, "empty", x, 0)
		x = sample.Spoilt(sample.Image(sample.Extension(api.LongName, "a"), sample.Noughts(1)), bad...)
		orphans(t, "none bad", x, 0)
		followsNone(t, "none bad", x, 0)
	}
	if Agrees(api.Header{}, []api.Rec{}) || Agrees(api.Header{}, nil) {
		t.Error("Agrees of no records")
	}
}

func TestWhatIsHandedInStays(t *testing.T) {
	// Behind the lengths stand bytes, numbers and records that would count if they were read.
	whole := sample.Torn(sample.Records(api.Local, "path", "a", "uid", "3"), 2, sample.Main(api.File, "a", 0), sample.Some(512))
	bad, l := []int{3, 99, 2, 4, 0}, sample.Recs("k", "2", "j", "1", "path", "b", "uid", "x")
	h := api.Header{Name: "a", Parts: sample.Parts(1, 2)}
	b := bytes.Clone(whole.Bytes)
	keepBad, keepRecs := slices.Clone(bad), slices.Clone(l)
	x := api.Image{Bytes: b[:5*512], Bad: bad[:3]}
	m := api.Meta{Name: "a", Kind: api.File, Uid: 3, Extra: sample.Recs("j", "1", "k", "2")}
	orphans(t, "with others behind", x, 0)
	follows(t, "with others behind", x, 0, 4)
	reads(t, "with others behind", x, 0, l[:2], tied(0, 4, 0, m))
	followsNone(t, "with a block behind", api.Image{Bytes: b[:4*512], Bad: bad[:3]}, 0)
	readsNone(t, "with a byte behind", api.Image{Bytes: b[:5*512-1], Bad: bad[:3]}, 0, nil)
	if own := sample.Recs("path", "b", "path", "a", "path", "b"); !Agrees(h, own[:2]) || !slices.Equal(own, sample.Recs("path", "b", "path", "a", "path", "b")) {
		t.Error("Agrees with others behind")
	}
	if !bytes.Equal(b, whole.Bytes) || !slices.Equal(bad, keepBad) || !slices.Equal(l, keepRecs) || !slices.Equal(h.Parts, sample.Parts(1, 2)) {
		t.Error("what was handed in is another")
	}
}

func TestWhatComesOutIsNew(t *testing.T) {
	x := sample.Torn(sample.Records(api.Local, "path", "s", "a", "1", "b", "2"), 1, sample.Holed(3, 9, false, sample.Parts(0, 1, 5, 2)...), sample.Filled(sample.Some(3)))
	global := sample.Recs("g", "1", "h", "2")
	first, _ := Read(x, 0, global)
	second, _ := Read(x, 0, global)
	for _, l := range [][]api.Rec{first.Global, first.Meta.Extra, global} {
		l = l[:cap(l)]
		for i := range l {
			l[i] = api.Rec{Key: "spoilt", Value: "spoilt"}
		}
	}
	clear(first.Meta.Parts[:cap(first.Meta.Parts)])
	for i := range x.Bytes {
		x.Bytes[i] = 255
	}
	x.Bad[0] = 77
	m := api.Meta{Name: "s", Kind: api.File, Size: 3, Real: 9, Holes: true, Parts: sample.Parts(0, 1, 5, 2), Extra: sample.Recs("a", "1", "b", "2", "g", "1", "h", "2")}
	want := tied(0, 3, 1, m)
	want.Global = sample.Recs("g", "1", "h", "2")
	if !sample.SameGroup(second, want) {
		t.Errorf("what was read became %+v", second)
	}
}

// What lies behind a list's length is not handed out.
func TestNothingLiesBehind(t *testing.T) {
	global := sample.Recs("a", "1", "b", "2")
	g, ok := Read(sample.Torn(sample.Extension(api.LongName, "a"), 1, sample.Main(api.File, "a", 0)), 0, global[:1])
	if !ok || slices.Contains(g.Global[:cap(g.Global)], global[1]) {
		t.Errorf("behind Global stands %+v", g.Global[:cap(g.Global)])
	}
}
