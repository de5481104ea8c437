package tie

import (
	"math"
	"slices"
	"testing"

	"mudlark/api"
	"mudlark/sample"
)

// orphans holds each block of an image against those that should be orphans.
func orphans(t *testing.T, name string, x api.Image, want ...int) {
	t.Helper()
	for i := -2; i < len(x.Bytes)/512+3; i++ {
		if got := Orphan(x, i); got != slices.Contains(want, i) {
			t.Errorf("%s: Orphan at %d = %v", name, i, got)
		}
	}
}

// follows holds what may follow an orphan against what should; followsNone is for one that nothing may follow, so that nothing is tied to it.
func follows(t *testing.T, name string, x api.Image, i, want int) {
	t.Helper()
	if k, ok := Next(x, i); k != want || !ok {
		t.Errorf("%s: Next of %d = %d, %v; want %d", name, i, k, ok, want)
	}
}

func followsNone(t *testing.T, name string, x api.Image, i int) {
	t.Helper()
	if k, ok := Next(x, i); k != 0 || ok {
		t.Errorf("%s: Next of %d = %d, %v", name, i, k, ok)
	}
	readsNone(t, name, x, i, nil)
}

// reads holds a group against what it should be, readsNone is for one that there is not.
func reads(t *testing.T, name string, x api.Image, i int, global []api.Rec, want api.Group) {
	t.Helper()
	want.Global = global
	if g, ok := Read(x, i, global); !sample.SameGroup(g, want) || !ok {
		t.Errorf("%s: Read at %d = %+v, %v; want %+v", name, i, g, ok, want)
	}
}

func readsNone(t *testing.T, name string, x api.Image, i int, global []api.Rec) {
	t.Helper()
	if g, ok := Read(x, i, global); !sample.SameGroup(g, api.Group{}) || ok {
		t.Errorf("%s: Read at %d = %+v, %v", name, i, g, ok)
	}
}

// tied is the group of an orphan, with a main header, and the blocks of its bytes.
func tied(at, main, blocks int, m api.Meta) api.Group {
	return api.Group{At: at, Main: main, Data: 512 * (main + 1), Next: main + 1 + blocks, Meta: m}
}

func TestOrphanOfEachKind(t *testing.T) {
	for _, kind := range []byte("xLK") {
		name := string(kind)
		ext, main := sample.Extension(kind, "6 a=b\n"), sample.Main(api.Soft, "a", 0)
		whole := sample.Image(ext, main)
		orphans(t, name+", whole", whole)
		orphans(t, name+", without its main header", sample.Spoilt(whole, 2), 0)
		orphans(t, name+", at the end", sample.Image(ext), 0)
		orphans(t, name+", without its payload", sample.Spoilt(whole, 1), 0)
		orphans(t, name+", with its payload cut off", sample.Cut(sample.Image(ext), 1), 0)
		orphans(t, name+", bad", sample.Spoilt(whole, 0))
		orphans(t, name+", bad, and nothing behind", sample.Spoilt(sample.Image(ext), 0))
		orphans(t, name+", that is no header", sample.Image(sample.Unsealed(ext[:512]), ext[512:]))
		orphans(t, name+", cut off", sample.Cut(sample.Image(ext), 513))
		orphans(t, name+", behind others", sample.Image(sample.Some(512), main, ext, sample.Noughts(2)), 2)
	}
	for _, kind := range []byte("01234567g") {
		orphans(t, string(kind), sample.Image(sample.Main(kind, "a", 600)))
		orphans(t, string(kind)+" without a name", sample.Image(sample.Main(kind, "", 600)))
		orphans(t, string(kind)+", bad behind", sample.Spoilt(sample.Image(sample.Main(kind, "a", 600), sample.Some(1024)), 1))
	}
	orphans(t, "S", sample.Image(sample.Holed(0, 9, true)))
}

// Whatever is wrong with a group makes an orphan of each extension from which on it is read.
func TestOrphanOfEachError(t *testing.T) {
	ext, main := sample.Records(api.Local, "k", "v"), sample.Main(api.Soft, "a", 0)
	for name, behind := range map[string][]byte{
		"ErrShort":              main[:511],
		"ErrSum":                sample.Unsealed(main),
		"ErrSum, of noughts":    sample.Noughts(2),
		"ErrKind":               sample.Changed(main, 156, "N"),
		"ErrField":              sample.Changed(main, 124, "x"),
		"ErrText":               sample.Main(api.Soft, "", 0),
		"ErrOrder":              sample.Records(api.Global, "k", "v"),
		"ErrField, of holes":    append(sample.Holed(0, 9, true), sample.Some(512)...),
		"ErrEnd, of holes":      sample.Holed(0, 9, true),
		"ErrRecs, of the holes": sample.Holed(7, 3, false),
	} {
		orphans(t, name, sample.Image(ext, behind), 0)
		orphans(t, name+", of two", sample.Image(sample.Extension(api.LongName, ""), sample.Extension(api.LongLink, "to"), behind), 0, 1)
	}
	orphans(t, "ErrLong", sample.Image(sample.Main(api.LongName, "l", api.MaxExt+1), sample.Noughts(2049), main), 0)
	orphans(t, "as long as may be", sample.Image(sample.Main(api.LongName, "l", api.MaxExt), sample.Some(api.MaxPath), sample.Noughts(2040), main))
	orphans(t, "ErrRecs, of a payload", sample.Image(sample.Extension(api.Local, "x"), main), 0)
	orphans(t, "ErrRecs, of a number", sample.Image(sample.Records(api.Local, "uid", "x"), main), 0)
	orphans(t, "ErrText, of a long name", sample.Image(sample.Extension(api.LongName, ""), main), 0)
	orphans(t, "ErrOrder, of a second one", sample.Image(ext, ext, main), 0)
	orphans(t, "ErrOrder, of a third one", sample.Image(ext, sample.Extension(api.LongName, "n"), ext, main), 0)
	// No records are there that could mend it.
	orphans(t, "a name that is nowhere", sample.Image(sample.Records(api.Global, "path", "n"), ext, sample.Main(api.File, "", 0)), 2)
}

func TestNext(t *testing.T) {
	main := sample.Main(api.File, "a", 0)
	for _, kind := range []byte("xLK") {
		for _, size := range []int{0, 1, 511, 512, 513, 1024, 1025} {
			ext := sample.Extension(kind, sample.Letters(size))
			next := len(ext) / 512
			for name, behind := range map[string][]byte{
				"main": main, "noughts": sample.Noughts(2), "others": sample.Some(700), "a byte": sample.Some(1), "an extension": ext,
			} {
				for lost := 1; lost < 5; lost++ {
					x := sample.Torn(ext, lost, behind)
					follows(t, name, x, 0, next+lost)
					follows(t, name+", behind others", sample.Spoilt(sample.Image(main, x.Bytes), moved(x.Bad, 1)...), 1, next+lost+1)
				}
				followsNone(t, name+", nothing lost", sample.Torn(ext, 0, behind), 0)
				followsNone(t, name+", lost behind it", sample.Spoilt(sample.Torn(ext, 0, sample.Noughts(1), behind, main), next+1), 0)
			}
			for lost := range 5 {
				followsNone(t, "the end", sample.Torn(ext, lost), 0)
				followsNone(t, "the end, in a block", sample.Cut(sample.Torn(ext, lost+1), 100), 0)
			}
		}
	}
}

// moved are blocks so many further behind.
func moved(l []int, n int) []int {
	var far []int
	for _, i := range l {
		far = append(far, i+n)
	}
	return far
}

// What is Bad counts behind the payload alone, in whatever order it is told.
func TestNextOfBad(t *testing.T) {
	ext, main := sample.Extension(api.LongName, sample.Letters(600)), sample.Main(api.File, "a", 0)
	x := sample.Image(sample.Noughts(2), ext, sample.Some(5*512), main)
	for _, bad := range [][]int{{5, 6, 7}, {7, 6, 5}, {6, 5, 7, 6, 5}, {-5, 5, 6, 7, 10, 99}, {99, 7, 0, 1, 6, 1, 5}, {9, 7, 5, 6}, {math.MaxInt, 6, math.MinInt, 7, 5}} {
		follows(t, "of many", sample.Spoilt(x, bad...), 2, 8)
	}
	follows(t, "up to the next that was read", sample.Spoilt(x, 5, 7, 8), 2, 6)
	follows(t, "all but the last", sample.Spoilt(x, 5, 6, 7, 8, 9), 2, 10)
	followsNone(t, "all", sample.Spoilt(x, 5, 6, 7, 8, 9, 10), 2)
	followsNone(t, "all, and beyond", sample.Spoilt(x, 5, 6, 7, 8, 9, 10, 11, 12), 2)
	followsNone(t, "not the one behind", sample.Spoilt(x, 6, 7), 2)
	followsNone(t, "ahead", sample.Spoilt(x, 0, 1), 2)
	followsNone(t, "itself", sample.Spoilt(x, 2, 5), 2)
	followsNone(t, "its payload", sample.Spoilt(x, 3, 5), 2)
	followsNone(t, "the end of its payload", sample.Spoilt(x, 4, 5), 2)
	followsNone(t, "none", x, 2)
	for _, i := range []int{-1, 0, 3, 4, 5, 6, 10, 11, 12, math.MaxInt, math.MinInt, math.MaxInt / 512, math.MinInt / 512} {
		followsNone(t, "of no orphan", sample.Spoilt(x, 5, 6, 7), i)
	}
}

func TestNextOfAPayloadThatIsNone(t *testing.T) {
	main := sample.Main(api.File, "a", 0)
	followsNone(t, "too long", sample.Torn(sample.Main(api.LongName, "l", api.MaxExt+1), 2, main), 0)
	followsNone(t, "beyond the end", sample.Torn(sample.Main(api.LongName, "l", 5000), 2, main), 0)
	// That it has no records is no matter of the blocks behind it.
	follows(t, "no records", sample.Torn(sample.Extension(api.Local, "x"), 2, main), 0, 4)
	follows(t, "no name", sample.Torn(sample.Extension(api.LongName, ""), 2, main), 0, 3)
	// A header that was lost stands between, but its payload was not.
	follows(t, "a payload", sample.Torn(sample.Extension(api.LongName, "a"), 1, sample.Some(512), main), 0, 3)
	x := sample.Image(sample.Extension(api.LongName, "a"), sample.Extension(api.LongLink, "to"), main)
	followsNone(t, "another one's payload", sample.Spoilt(x, 3), 0)
	follows(t, "another one", sample.Spoilt(x, 2, 3), 0, 4)
}

// A long stretch that was lost is one.
func TestNextOfMany(t *testing.T) {
	x := sample.Torn(sample.Extension(api.LongName, "a"), 20000, sample.Main(api.File, "a", 0))
	follows(t, "a long stretch", x, 0, 20002)
	slices.Reverse(x.Bad)
	reads(t, "a long stretch", x, 0, nil, tied(0, 20002, 0, api.Meta{Name: "a", Kind: api.File}))
}

func TestAgrees(t *testing.T) {
	long := sample.Letters(99)
	for name, c := range map[string]struct {
		h    api.Header
		own  []api.Rec
		want bool
	}{
		"a name":                       {api.Header{Name: "a"}, sample.Recs("path", "a"), true},
		"another name":                 {api.Header{Name: "a"}, sample.Recs("path", "b"), false},
		"its front":                    {api.Header{Name: "a"}, sample.Recs("path", "ab"), false},
		"more than it":                 {api.Header{Name: "ab"}, sample.Recs("path", "a"), false},
		"no name":                      {api.Header{}, sample.Recs("path", "a"), false},
		"a name of 99 bytes":           {api.Header{Name: long}, sample.Recs("path", long), true},
		"a name of 100":                {api.Header{Name: long + "x"}, sample.Recs("path", long+"x"), true},
		"of 100, and another one":      {api.Header{Name: long + "x"}, sample.Recs("path", long+"y"), false},
		"a name of 101":                {api.Header{Name: long + "x"}, sample.Recs("path", long+"xy"), true},
		"a name of 4096":               {api.Header{Name: long + "x"}, sample.Recs("path", long+"x"+sample.Letters(3996)), true},
		"its first 99":                 {api.Header{Name: long}, sample.Recs("path", long+"x"), false},
		"more than its first 100":      {api.Header{Name: long + "xy"}, sample.Recs("path", long+"xy"), false},
		"a character that is cut":      {api.Header{Name: long + "\xc3"}, sample.Recs("path", long+"é"), true},
		"a prefix":                     {api.Header{Name: "a", Prefix: "d"}, sample.Recs("path", "a"), false},
		"a prefix, told":               {api.Header{Name: "a", Prefix: "d"}, sample.Recs("path", "d/a"), false},
		"a link":                       {api.Header{Name: "a", Link: "to"}, sample.Recs("linkpath", "to"), true},
		"another link":                 {api.Header{Name: "a", Link: "to"}, sample.Recs("linkpath", "a"), false},
		"no link":                      {api.Header{Name: "a"}, sample.Recs("linkpath", "a"), false},
		"a link and a prefix":          {api.Header{Name: "a", Prefix: "d", Link: "to"}, sample.Recs("linkpath", "to"), true},
		"a link of 100":                {api.Header{Link: long + "x"}, sample.Recs("linkpath", long+"x"), true},
		"a link of 101":                {api.Header{Link: long + "x"}, sample.Recs("linkpath", long+"xy"), true},
		"its first 99 as a link":       {api.Header{Link: long}, sample.Recs("linkpath", long+"x"), false},
		"both":                         {api.Header{Name: "a", Link: "to"}, sample.Recs("path", "a", "linkpath", "to"), true},
		"both, and another name":       {api.Header{Name: "a", Link: "to"}, sample.Recs("path", "b", "linkpath", "to"), false},
		"both, and another link":       {api.Header{Name: "a", Link: "to"}, sample.Recs("linkpath", "up", "path", "a"), false},
		"both, and a prefix":           {api.Header{Name: "a", Link: "to", Prefix: "d"}, sample.Recs("path", "a", "linkpath", "to"), false},
		"a name, and a link untold":    {api.Header{Name: "a", Link: "to"}, sample.Recs("path", "a"), true},
		"no records":                   {api.Header{Name: "a", Link: "to"}, nil, false},
		"of nothing":                   {api.Header{}, nil, false},
		"others":                       {api.Header{Name: "a"}, sample.Recs("uid", "7", "k", "a", "Path", "a", "path ", "a"), false},
		"others as well":               {api.Header{Name: "a"}, sample.Recs("uid", "7", "path", "a", "zz", "b"), true},
		"the last one":                 {api.Header{Name: "a"}, sample.Recs("path", "b", "path", "a"), true},
		"not the last one":             {api.Header{Name: "a"}, sample.Recs("path", "a", "path", "b"), false},
		"one without a value":          {api.Header{}, sample.Recs("path", ""), false},
		"one that is taken away":       {api.Header{Name: "a"}, sample.Recs("path", "a", "path", ""), false},
		"a name that is taken away":    {api.Header{Name: "a", Link: "to"}, sample.Recs("path", "b", "path", "", "linkpath", "to"), true},
		"a link that is taken away":    {api.Header{Name: "a", Prefix: ""}, sample.Recs("linkpath", "to", "path", "a", "linkpath", ""), true},
		"a link without a value":       {api.Header{Name: "a", Link: ""}, sample.Recs("linkpath", ""), false},
		"a name, and no value of link": {api.Header{Name: "a", Link: "to"}, sample.Recs("linkpath", "", "path", "a"), true},
	} {
		if got := Agrees(c.h, c.own); got != c.want {
			t.Errorf("%s: Agrees of %+v, %v = %v", name, c.h, c.own, got)
		}
	}
}

// Of a header nothing else counts.
func TestAgreesOfOtherFields(t *testing.T) {
	h := api.Header{Name: "a", Link: "to", Kind: 'N', Way: 9, Size: -1, Mode: 3, User: "path", More: true, Parts: sample.Parts(1, 2)}
	if !Agrees(h, sample.Recs("path", "a", "linkpath", "to", "size", "7")) || Agrees(h, sample.Recs("uname", "path")) {
		t.Error("other fields count")
	}
}
