package chain

import (
	"bytes"
	"math"
	"slices"
	"strconv"
	"strings"
	"testing"

	"mudlark/api"
	"mudlark/sample"
)

// digits are classes, one behind the other.
func digits(classes []int) string {
	var text []byte
	for _, class := range classes {
		text = strconv.AppendInt(text, int64(class), 10)
	}
	return string(text)
}

// many is a class that so many blocks have.
func many(class string, n int) string {
	return strings.Repeat(class, n)
}

// begins holds what begins at a block against what should: classes, records, and a member, if there is one.
func begins(t *testing.T, name string, x api.Image, i int, global []api.Rec, classes string, then []api.Rec, want ...api.Found) {
	t.Helper()
	var one api.Found
	if len(want) > 0 {
		one = want[0]
	}
	f, ok, l, recs := Step(x, i, global)
	if !sample.SameFound(f, one) || ok != (len(want) > 0) {
		t.Errorf("%s: Step at %d = %+v, %v; want %+v", name, i, f, ok, want)
	}
	if digits(l) != classes {
		t.Errorf("%s: Step at %d tells %v; want %s", name, i, l, classes)
	}
	if !slices.Equal(recs, then) {
		t.Errorf("%s: records behind %d are %v; want %v", name, i, recs, then)
	}
}

// stays is for what leaves the records as they were: the last ones of theirs don't count, but come out as they are.
func stays(t *testing.T, name string, x api.Image, i int, classes string, want ...api.Found) {
	t.Helper()
	for _, global := range [][]api.Rec{nil, {}, sample.Recs("k", ""), sample.Recs("z", "", "a", "", "z", "")} {
		begins(t, name, x, i, global, classes, global, want...)
	}
}

// walks holds a whole image against what it should be.
func walks(t *testing.T, name string, x api.Image, classes string, want ...api.Found) {
	t.Helper()
	l, c := Walk(x)
	if !slices.EqualFunc(l, want, sample.SameFound) {
		t.Errorf("%s: Walk = %+v; want %+v", name, l, want)
	}
	if digits(c) != classes {
		t.Errorf("%s: Walk tells %v; want %s", name, c, classes)
	}
}

// none is records of nothing.
var none []api.Rec

func TestExample(t *testing.T) {
	walks(t, "1024 noughts", sample.Image(sample.Noughts(2)), "55")
	walks(t, "no bytes", api.Image{}, "")
}

func TestNoSuchBlock(t *testing.T) {
	for _, x := range []api.Image{{}, sample.Image(sample.Noughts(3)), sample.Image(sample.File("a", sample.Some(9))), sample.Image(sample.Some(513))} {
		n := (len(x.Bytes) + 511) / 512
		for _, i := range []int{-1, n, n + 1, math.MaxInt, math.MinInt, math.MaxInt / 512, math.MinInt / 512} {
			stays(t, "no such block", x, i, "")
			stays(t, "no such block, bad", sample.Spoilt(x, i, n, -1), i, "")
		}
	}
	walks(t, "no such block is bad", sample.Spoilt(api.Image{}, 0, 1, -1), "")
}

// What is Bad is that, whatever would stand there.
func TestBad(t *testing.T) {
	for _, b := range [][]byte{
		sample.Noughts(1), sample.Noughts(3), sample.Some(512), sample.Some(100), sample.Main(api.File, "a", 0), sample.Like(6),
		sample.Records(api.Global, "k", "v"), sample.Records(api.Local, "k", "v"), sample.File("a", sample.Some(5)),
	} {
		x := sample.Image(sample.Some(512), b, sample.Main(api.File, "b", 0))
		stays(t, "bad", sample.Spoilt(x, 1), 1, "8")
		stays(t, "bad, in no order", sample.Spoilt(x, 77, 1, -3, 1, 0), 1, "8")
	}
	walks(t, "all bad", sample.Spoilt(sample.Image(sample.File("a", sample.Some(5)), sample.Some(7)), 2, 0, 1), "888")
}

// Less than a block, at the end, is nothing, be it noughts or a header's front.
func TestShort(t *testing.T) {
	for _, b := range [][]byte{sample.Noughts(1), sample.Some(512), sample.Main(api.File, "a", 0), sample.Like(6), sample.Main(api.Global, "g", 0)} {
		for _, n := range []int{1, 156, 511} {
			stays(t, "short", sample.Image(b[:n]), 0, "9")
			stays(t, "short, behind others", sample.Image(sample.Some(1024), b[:n]), 2, "9")
			walks(t, "short, behind noughts", sample.Image(sample.Noughts(2), b[:n]), "559")
		}
	}
}

func TestNoughts(t *testing.T) {
	stays(t, "one", sample.Image(sample.Noughts(1)), 0, "3")
	stays(t, "two", sample.Image(sample.Noughts(2)), 0, "55")
	stays(t, "three", sample.Image(sample.Noughts(3)), 0, "553")
	stays(t, "the last of three", sample.Image(sample.Noughts(3)), 2, "3")
	stays(t, "the last two of three", sample.Image(sample.Noughts(3)), 1, "55")
	for n := 3; n < 40; n++ {
		stays(t, "many", sample.Image(sample.Noughts(n)), 0, "55"+many("3", n-2))
		for name, behind := range map[string][]byte{
			"others": sample.Some(512), "a member": sample.Main(api.File, "a", 0), "a suspect": sample.Like(6), "a byte": {1},
			"less than a block": sample.Noughts(1)[:511], "a block but for a byte": append(sample.Noughts(1)[:511], 1),
		} {
			stays(t, "ahead of "+name, sample.Image(sample.Noughts(n), behind), 0, "55"+many("3", n-2))
			stays(t, "one ahead of "+name, sample.Image(sample.Noughts(1), behind), 0, "3")
			stays(t, "two ahead of "+name, sample.Image(sample.Some(512), sample.Noughts(2), behind), 1, "55")
			if len(behind) == 512 {
				stays(t, "more behind "+name, sample.Image(sample.Noughts(n), behind, sample.Noughts(n)), 0, "55"+many("3", n-2))
			}
		}
	}
	// What could not be read is no noughts, though it stands as such in the image.
	x := sample.Image(sample.Noughts(7))
	stays(t, "up to a bad one", sample.Spoilt(x, 4), 0, "5533")
	stays(t, "up to the first bad one", sample.Spoilt(x, 5, 3, 4), 0, "553")
	stays(t, "one, up to a bad one", sample.Spoilt(x, 1), 0, "3")
	stays(t, "two, up to a bad one", sample.Spoilt(x, 6, 2), 0, "55")
	stays(t, "behind a bad one", sample.Spoilt(x, 2), 3, "5533")
	walks(t, "between bad ones", sample.Spoilt(x, 1, 4), "3855855")
	walks(t, "between others", sample.Image(sample.Noughts(1), sample.Some(512), sample.Noughts(4), sample.Some(512), sample.Noughts(2)), "395533955")
}

func TestGlobal(t *testing.T) {
	main := sample.Main(api.File, "a", 0)
	kv := sample.Recs("k", "v")
	x := sample.Image(sample.Some(512), sample.Records(api.Global, "k", "v"), main)
	begins(t, "records", x, 1, nil, "44", kv)
	begins(t, "over others", x, 1, sample.Recs("z", "1", "k", "2", "a", "3", "a", "4"), "44", sample.Recs("a", "4", "k", "v", "z", "1"))
	begins(t, "without those without a value", x, 1, sample.Recs("z", "1", "z", "", "k", "2"), "44", kv)
	begins(t, "the last one", sample.Image(sample.Records(api.Global, "k", "1", "k", "2")), 0, kv, "44", sample.Recs("k", "2"))
	begins(t, "taken away", sample.Image(sample.Extension(api.Global, "5 k=\n")), 0, sample.Recs("j", "1", "k", "2"), "44", sample.Recs("j", "1"))
	begins(t, "no records", sample.Image(sample.Extension(api.Global, "")), 0, sample.Recs("z", "1", "j", "2", "e", ""), "4", sample.Recs("j", "2", "z", "1"))
	begins(t, "without a payload, at the end", sample.Image(sample.Extension(api.Global, "")), 0, nil, "4", none)
	for _, size := range []int{503, 504, 505, 1015, 1016, 1017, 5000, 100000} {
		l := sample.Recs("k", sample.Letters(size-len("512 k=\n")))
		b := sample.Records(api.Global, "k", l[0].Value)
		begins(t, "long ones", sample.Image(b, main), 0, nil, many("4", len(b)/512), l)
		// What is bad behind them does no harm.
		begins(t, "bad behind", sample.Spoilt(sample.Image(b, main), len(b)/512), 0, nil, many("4", len(b)/512), l)
		for lost := 1; lost < len(b)/512; lost += 7 {
			stays(t, "its payload is bad", sample.Spoilt(sample.Image(b, main), lost), 0, "6")
		}
		stays(t, "its payload is cut off", sample.Cut(sample.Image(b), 1), 0, "6")
		stays(t, "a block of its payload is cut off", sample.Cut(sample.Image(b), 512), 0, "6")
	}
	stays(t, "records that are none", sample.Image(sample.Extension(api.Global, "x"), main), 0, "6")
	stays(t, "a payload too long", sample.Image(sample.Main(api.Global, "g", api.MaxExt+1), sample.Noughts(2050)), 0, "6")
}

// What records for all tell counts for the members behind, each over those ahead of it, and for nothing else.
func TestWalkOfGlobals(t *testing.T) {
	file := func(at int, uid int, texts ...string) api.Found {
		m := sample.With(sample.FileMeta("a", 3), texts...)
		m.Uid = uid
		return sample.Found(at, 512*at+512, 3, m)
	}
	a := sample.File("a", sample.Some(3))
	own := append(sample.Records(api.Local, "k", "own", "uid", "9"), a...)
	mine := file(0, 9, "j", "1", "k", "own")
	mine.At, mine.Data = 8, 11*512
	x := sample.Image(
		a, sample.Records(api.Global, "k", "1", "j", "1", "uid", "7"), a, sample.Records(api.Global, "k", "2"), own,
		sample.Noughts(2), a, sample.Extension(api.Global, "5 j=\n7 uid=\n"), a, sample.Some(512), a,
	)
	walks(t, "one over the other", x, "12"+"44"+"12"+"44"+"1112"+"55"+"12"+"44"+"12"+"9"+"12",
		file(0, 0), file(4, 7, "j", "1", "k", "1"), mine, file(14, 7, "j", "1", "k", "2"), file(18, 0, "k", "2"), file(21, 0, "k", "2"))
	walks(t, "one is bad", sample.Spoilt(x, 2, 6), "12"+"89"+"12"+"89"+"1112"+"55"+"12"+"44"+"12"+"9"+"12",
		file(0, 0), file(4, 0), api.Found{At: 8, Data: 11 * 512, Len: 3, Meta: ninth("own")}, file(14, 0), file(18, 0), file(21, 0))
	// A long name stands ahead of one for all, that stands ahead of nothing.
	walks(t, "behind an extension", sample.Image(sample.Extension(api.LongName, "b"), sample.Records(api.Global, "k", "1"), a), "69"+"44"+"12", file(4, 0, "k", "1"))
	walks(t, "one that can't be", sample.Image(sample.Records(api.Global, "uid", "x"), a, sample.Records(api.Global, "uid", "8"), a), "44"+"69"+"44"+"12", file(6, 8))
}

// ninth is what is known of a file that tells its own records.
func ninth(value string) api.Meta {
	m := sample.With(sample.FileMeta("a", 3), "k", value)
	m.Uid = 9
	return m
}

func TestSuspectsAndOthers(t *testing.T) {
	main := sample.Main(api.File, "a", 0)
	for name, b := range map[string][]byte{
		"six points":      sample.Like(6),
		"another sum":     sample.Unsealed(main),
		"another kind":    sample.Changed(main, 156, "N"),
		"a wrong size":    sample.Changed(main, 124, "-1"),
		"an extension":    sample.Unsealed(sample.Main(api.LongName, "a", 5)),
		"one for all":     sample.Unsealed(sample.Main(api.Global, "a", 5)),
		"holes elsewhere": sample.Changed(sample.Holed(0, 9, false), 257, "ustar\x0000"),
	} {
		stays(t, name, sample.Image(b), 0, "7")
		stays(t, name+", ahead of others", sample.Image(b, sample.Some(512), main), 0, "7")
		walks(t, name+", between others", sample.Image(main, b, main), "171", sample.Found(0, 512, 0, sample.FileMeta("a", 0)), sample.Found(2, 3*512, 0, sample.FileMeta("a", 0)))
	}
	for name, b := range map[string][]byte{
		"five points": sample.Like(5),
		"others":      sample.Some(512),
		"a byte":      append([]byte{1}, make([]byte, 511)...),
		"a last byte": append(make([]byte, 511), 1),
		"records":     []byte(sample.Lines(sample.Recs("k", sample.Letters(505)))),
	} {
		stays(t, name, sample.Image(b), 0, "9")
		walks(t, name+", between others", sample.Image(b, main, b), "919", sample.Found(1, 1024, 0, sample.FileMeta("a", 0)))
	}
}

// A header that is no member's is an orphan, whatever is wrong with its group; what is behind it is looked at by itself.
func TestOrphans(t *testing.T) {
	ext, main := sample.Records(api.Local, "k", "v"), sample.Main(api.Soft, "a", 0)
	for name, behind := range map[string][]byte{
		"nothing":               nil,
		"a part of a header":    main[:511],
		"a suspect":             sample.Unsealed(main),
		"noughts":               sample.Noughts(2),
		"others":                sample.Some(512),
		"another one":           ext,
		"one for all":           sample.Records(api.Global, "k", "v"),
		"ErrText":               sample.Main(api.Soft, "", 0),
		"ErrField, of holes":    append(sample.Holed(0, 9, true), sample.Some(512)...),
		"ErrEnd, of holes":      sample.Holed(0, 9, true),
		"ErrRecs, of the holes": sample.Holed(7, 3, false),
	} {
		stays(t, "ahead of "+name, sample.Image(ext, behind), 0, "6")
		stays(t, "a long link ahead of "+name, sample.Image(sample.Extension(api.LongLink, "to"), behind), 0, "6")
	}
	for name, b := range map[string][]byte{
		"ErrText":             sample.Main(api.File, "", 0),
		"ErrRecs":             sample.Holed(7, 3, false),
		"ErrEnd":              sample.Holed(0, 9, true),
		"ErrRecs of records":  append(sample.Extension(api.Local, "x"), main...),
		"ErrRecs of a number": append(sample.Records(api.Local, "uid", "x"), main...),
		"ErrText of a name":   append(sample.Extension(api.LongName, ""), main...),
		"ErrLong":             append(sample.Main(api.LongLink, "l", api.MaxExt+1), main...),
	} {
		stays(t, name, sample.Image(b), 0, "6")
	}
	walks(t, "twice", sample.Image(ext, ext, main), "69"+"111", sample.Found(2, 5*512, 0, sample.With(sample.SoftMeta("a", "to"), "k", "v")))
	walks(t, "without its payload", sample.Spoilt(sample.Image(ext, main), 1), "68"+"1", sample.Found(2, 3*512, 0, sample.SoftMeta("a", "to")))
	walks(t, "without its main header", sample.Spoilt(sample.Image(ext, main, sample.Noughts(2)), 2), "69"+"8"+"55")
	walks(t, "at the end", sample.Image(main, ext), "1"+"69", sample.Found(0, 512, 0, sample.SoftMeta("a", "to")))
	// With what is for all it is no member, nor an orphan that is tied to one.
	bad := sample.Recs("uid", "x")
	begins(t, "a record that is none", sample.Image(main), 0, bad, "6", bad)
	begins(t, "a record that is none, of a group", sample.Image(ext, main), 0, bad, "6", bad)
	begins(t, "a record that is none, of what was torn", sample.Torn(sample.Extension(api.LongName, "a"), 1, sample.Main(api.File, "a", 0)), 0, bad, "6", bad)
	// And with it one may be a member that is none without.
	begins(t, "a name for all", sample.Image(sample.Main(api.File, "", 0)), 0, sample.Recs("path", "b"), "1", sample.Recs("path", "b"), sample.Found(0, 512, 0, sample.FileMeta("b", 0)))
}

func TestNilIsEmpty(t *testing.T) {
	b := sample.File("a", sample.Some(3))
	for _, bad := range [][]int{nil, {}} {
		walks(t, "empty", api.Image{Bytes: []byte{}, Bad: bad}, "")
		stays(t, "empty", api.Image{Bytes: []byte{}, Bad: bad}, 0, "")
		walks(t, "none bad", sample.Spoilt(sample.Image(b), bad...), "12", sample.Found(0, 512, 3, sample.FileMeta("a", 3)))
		stays(t, "none bad", sample.Spoilt(sample.Image(b), bad...), 0, "12", sample.Found(0, 512, 3, sample.FileMeta("a", 3)))
	}
}

func TestWhatIsHandedInStays(t *testing.T) {
	// Behind the lengths stand bytes, numbers and records that would count if they were read.
	b := slices.Concat(sample.Records(api.Global, "b", "1"), sample.File("a", sample.Some(1000)), sample.Main(api.Dir, "d/", 0))
	bad, global := []int{4, 99, -1, 2, 0}, sample.Recs("k", "2", "j", "1", "uid", "x")
	keep, keepBad, keepGlobal := bytes.Clone(b), slices.Clone(bad), slices.Clone(global)
	x := api.Image{Bytes: b[:4*512+7], Bad: bad[:3]}
	m := sample.With(sample.FileMeta("a", 1000), "b", "1", "j", "1", "k", "2")
	begins(t, "with others behind", x, 0, global[:2], "44", sample.Recs("b", "1", "j", "1", "k", "2"))
	begins(t, "with others behind", x, 2, append(global[:2:2], sample.Recs("b", "1")...), "128", sample.Recs("k", "2", "j", "1", "b", "1"), sample.Found(2, 3*512, 519, m))
	begins(t, "with others behind", x, 5, global[:2], "", global[:2])
	walks(t, "with others behind", x, "44"+"128", sample.Found(2, 3*512, 519, sample.With(sample.FileMeta("a", 1000), "b", "1")))
	if !bytes.Equal(b, keep) || !slices.Equal(bad, keepBad) || !slices.Equal(global, keepGlobal) {
		t.Error("what was handed in is another")
	}
}

func TestWhatComesOutIsNew(t *testing.T) {
	x := sample.Image(
		sample.Records(api.Global, "g", "1"), sample.Records(api.Local, "a", "1", "b", "2"),
		sample.Holed(3, 9, false, sample.Parts(0, 1, 5, 2)...), sample.Filled(sample.Some(3)), sample.Main(api.File, "f", 0),
	)
	holed := api.Meta{Name: "s", Kind: api.File, Size: 3, Real: 9, Holes: true, Parts: sample.Parts(0, 1, 5, 2)}
	want := []api.Found{
		sample.Found(2, 5*512, 3, sample.With(holed, "a", "1", "b", "2", "g", "1")),
		sample.Found(6, 7*512, 0, sample.With(sample.FileMeta("f", 0), "g", "1")),
	}
	l, classes := Walk(x)
	again, againClasses := Walk(x)
	for _, f := range l[:cap(l)] {
		spoil(f, f.Meta.Extra)
	}
	clear(l)
	clear(classes[:cap(classes)])
	global := sample.Recs("g", "1", "h", "2")
	for i := range 8 {
		f, _, classes, then := Step(x, i, global)
		_, _, keepClasses, keep := Step(x, i, global)
		at := digits(keepClasses)
		spoil(f, then)
		clear(classes[:cap(classes)])
		if i != 0 && !slices.Equal(keep, global) || digits(keepClasses) != at {
			t.Errorf("what began at %d became %v, %v", i, keepClasses, keep)
		}
	}
	if !slices.Equal(global, sample.Recs("g", "1", "h", "2")) {
		t.Errorf("the records became %v", global)
	}
	clear(x.Bytes)
	if !slices.EqualFunc(again, want, sample.SameFound) || digits(againClasses) != "44"+"1112"+"1" {
		t.Errorf("the members became %+v, %v", again, againClasses)
	}
}

// spoil changes all that can be reached from a member, and from records.
func spoil(f api.Found, l []api.Rec) {
	for _, recs := range [][]api.Rec{f.Meta.Extra, l} {
		recs = recs[:cap(recs)]
		for i := range recs {
			recs[i] = api.Rec{Key: "spoilt", Value: "spoilt"}
		}
	}
	clear(f.Meta.Parts[:cap(f.Meta.Parts)])
}

// What lies behind a list's length is not handed out.
func TestNothingLiesBehind(t *testing.T) {
	x := sample.Image([]byte(strings.Repeat(string(sample.Main(api.File, "a", 0)), 9)))
	global := sample.Recs("a", "1", "b", "2", "c", "3")
	for n := range 9 {
		l, classes := Walk(sample.Cut(x, n*512))
		for _, f := range l[len(l):cap(l)] {
			if !sample.SameFound(f, api.Found{}) {
				t.Errorf("behind the members stands %+v", f)
			}
		}
		for _, class := range classes[len(classes):cap(classes)] {
			if class != 0 {
				t.Errorf("behind the classes stands %d", class)
			}
		}
	}
	for n := range 3 {
		_, _, _, l := Step(x, n*5, global[:n])
		for _, r := range l[len(l):cap(l)] {
			if r != (api.Rec{}) {
				t.Errorf("behind the records stands %+v", r)
			}
		}
	}
}
