package chain

import (
	"bytes"
	"slices"
	"testing"

	"mudlark/api"
	"mudlark/sample"
)

func TestEachKind(t *testing.T) {
	for _, kind := range []byte("123456") {
		m := api.Meta{Name: "a", Kind: kind}
		if kind == api.Hard || kind == api.Soft {
			m.Link = "to"
		}
		for _, size := range []int{0, 3, 700} {
			// Of no file the size counts for nothing, and what is behind is looked at by itself.
			x := sample.Image(sample.Some(512), sample.Main(kind, "a", size), sample.Some(1024))
			stays(t, string(kind), x, 1, "1", sample.Found(1, 1024, 0, m))
			walks(t, string(kind), x, "9"+"1"+"99", sample.Found(1, 1024, 0, m))
		}
	}
	for _, kind := range []byte("07\x00") {
		for _, size := range []int{0, 1, 511, 512, 513, 1024, 1025} {
			b := sample.Changed(sample.Main(api.File, "a", size), 156, string(kind))
			data := sample.Filled(sample.Some(size))
			want := sample.Found(0, 512, size, sample.FileMeta("a", size))
			classes := "1" + many("2", len(data)/512)
			stays(t, "a file", sample.Image(b, data), 0, classes, want)
			stays(t, "a file, ahead of others", sample.Image(b, data, sample.Some(700)), 0, classes, want)
			walks(t, "a file", sample.Image(b, data, sample.Noughts(2)), classes+"55", want)
		}
	}
	dir := sample.Found(0, 512, 0, api.Meta{Name: "d/", Kind: api.Dir})
	stays(t, "a file that is a directory", sample.Image(sample.File("d/", sample.Some(5))), 0, "1", dir)
}

// All that is ahead of the bytes is a header, be it an extension, its payload, or further parts.
func TestGroups(t *testing.T) {
	long, far := sample.Letters(600), "to/"+sample.Letters(700)
	extensions := [][]byte{sample.Extension(api.LongName, long), sample.Extension(api.LongLink, far), sample.Records(api.Local, "uid", "7", "k", "v")}
	m := sample.With(sample.SoftMeta(long, far), "k", "v")
	m.Uid = 7
	for _, order := range [][]int{{0, 1, 2}, {0, 2, 1}, {1, 0, 2}, {1, 2, 0}, {2, 0, 1}, {2, 1, 0}} {
		x := sample.Image(sample.Noughts(1), extensions[order[0]], extensions[order[1]], extensions[order[2]], sample.Main(api.Soft, "short", 0), sample.Some(512))
		stays(t, "extensions", x, 1, many("1", 9), sample.Found(1, 10*512, 0, m))
		walks(t, "extensions", x, "3"+many("1", 9)+"9", sample.Found(1, 10*512, 0, m))
	}
	holed := api.Meta{Name: "s", Kind: api.File, Size: 7, Real: 50, Holes: true, Parts: sample.Parts(1, 2, 9, 5)}
	x := sample.Image(sample.Holed(7, 50, true, sample.Parts(1, 2)...), sample.Further(1), sample.Further(0, sample.Parts(9, 5)...), sample.Filled(sample.Some(7)))
	stays(t, "holes", x, 0, "1112", sample.Found(0, 3*512, 7, holed))
	stays(t, "holes, cut off", sample.Cut(x, 509), 0, "1112", sample.Found(0, 3*512, 3, holed))
	stays(t, "holes without bytes", sample.Cut(x, 512), 0, "111", sample.Found(0, 3*512, 0, holed))
	walks(t, "holes without their parts", sample.Spoilt(x, 1), "6"+"8"+"9"+"9")
	sized := sample.With(sample.FileMeta("a", 1000))
	stays(t, "a size of its own", sample.Image(sample.Records(api.Local, "size", "1000"), sample.Main(api.File, "a", 3), sample.Some(1024)), 0, "111"+"22", sample.Found(0, 3*512, 1000, sized))
	size := sample.Recs("size", "1000")
	begins(t, "a size for all", sample.Image(sample.Main(api.File, "a", 3), sample.Some(1024)), 0, size, "122", size, sample.Found(0, 512, 1000, sized))
}

// Wherever the image ends, so many of the bytes are there.
func TestPartial(t *testing.T) {
	x := sample.Image(sample.Main(api.Dir, "d/", 0), sample.File("a", sample.Some(1000)))
	dir := sample.Found(0, 512, 0, api.Meta{Name: "d/", Kind: api.Dir})
	for n := range 1025 {
		left := min(1024-n, 1000)
		want := api.Found{At: 1, Data: 1024, Len: left, Partial: n > 24, Meta: sample.FileMeta("a", 1000)}
		walks(t, "cut off", sample.Cut(x, n), "1"+"1"+many("2", (1024-n+511)/512), dir, want)
	}
	for n := 1025; n < 1536; n++ {
		walks(t, "cut off in its header", sample.Cut(x, n), "1"+"9", dir)
	}
	walks(t, "cut off ahead of it", sample.Cut(x, 1536), "1", dir)
	// Of a size that is a lie all that is behind are its bytes, members and noughts alike.
	for _, size := range []int{100000, 1 << 31, 1 << 40} {
		x := sample.Image(sample.Main(api.File, "a", size), sample.File("b", sample.Some(5)), sample.Noughts(2), sample.Some(7))
		walks(t, "a lie", x, "1"+"22222", sample.Found(0, 512, 4*512+7, sample.FileMeta("a", size)))
		walks(t, "a lie, and bad", sample.Spoilt(x, 3, 5, 1), "1"+"82828", sample.Found(0, 512, 4*512+7, sample.FileMeta("a", size)))
	}
}

// Bytes that could not be read are a member's all the same.
func TestBadBytes(t *testing.T) {
	x := sample.Image(sample.File("a", sample.Some(1500)), sample.File("b", sample.Some(600)))
	a, b := sample.Found(0, 512, 1500, sample.FileMeta("a", 1500)), sample.Found(4, 5*512, 600, sample.FileMeta("b", 600))
	walks(t, "none", x, "1222"+"122", a, b)
	walks(t, "some", sample.Spoilt(x, 2, 6), "1282"+"128", a, b)
	walks(t, "all", sample.Spoilt(x, 6, 5, 3, 2, 1, 2, 99), "1888"+"188", a, b)
	walks(t, "the last", sample.Spoilt(x, 6), "1222"+"128", a, b)
	walks(t, "a header", sample.Spoilt(x, 0), "8999"+"122", b)
	walks(t, "the other header", sample.Spoilt(x, 4, 2), "1282"+"899", a)
	walks(t, "cut off in a bad one", sample.Spoilt(sample.Cut(x, 512), 5, 6), "1222"+"18", a, sample.Found(4, 5*512, 512, sample.FileMeta("b", 600)))
}

// A member lies in another one's bytes only where that one is lost.
func TestMembersInOthers(t *testing.T) {
	inner := sample.Archived(sample.Records(api.Global, "k", "v"), sample.File("in", sample.Some(600)))
	x := sample.Image(sample.File("out", inner), sample.File("next", nil))
	out, next := sample.Found(0, 512, len(inner), sample.FileMeta("out", len(inner))), sample.Found(8, 9*512, 0, sample.FileMeta("next", 0))
	walks(t, "in another", x, "1"+"2222222"+"1", out, next)
	in := sample.Found(3, 4*512, 600, sample.With(sample.FileMeta("in", 600), "k", "v"))
	next.Meta = sample.With(next.Meta, "k", "v")
	walks(t, "in one that is lost", sample.Spoilt(x, 0), "8"+"44"+"122"+"55"+"1", in, next)
	begins(t, "in another", x, 3, nil, "122", nil, sample.Found(3, 4*512, 600, sample.FileMeta("in", 600)))
}

// What is left of a group is a member, with the blocks that were lost between.
func TestTorn(t *testing.T) {
	long := sample.Letters(150)
	main := sample.Main(api.File, long[:100], 600)
	for lost := 1; lost < 4; lost++ {
		x := sample.Torn(sample.Records(api.Local, "path", long, "uid", "7", "k", "v"), lost, main, sample.Some(1024), sample.Noughts(2))
		m := sample.With(sample.FileMeta(long, 600), "k", "v")
		m.Uid = 7
		want := sample.Found(0, 512*(3+lost), 600, m)
		classes := "11" + many("8", lost) + "1" + "22"
		stays(t, "torn", x, 0, classes, want)
		walks(t, "torn", x, classes+"55", want)
		x.Bad = append(x.Bad, 3+lost)
		walks(t, "torn, with bad bytes", x, "11"+many("8", lost)+"1"+"82"+"55", want)
		want.Len, want.Partial = 100, true
		walks(t, "torn, and cut off", sample.Cut(x, 1024+924), "11"+many("8", lost)+"1"+"8", want)
		at := sample.Image(sample.Some(512), x.Bytes)
		for _, i := range x.Bad {
			at.Bad = append(at.Bad, i+1)
		}
		want = sample.Found(1, 512*(4+lost), 600, m)
		walks(t, "torn, behind others", at, "9"+"11"+many("8", lost)+"1"+"82"+"55", want)
	}
	name := sample.Extension(api.LongName, long)
	own := sample.With(sample.FileMeta(long, 600), "k", "v")
	walks(t, "torn, with an extension behind", sample.Torn(name, 2, sample.Records(api.Local, "k", "v"), main, sample.Some(1024)), "11"+"88"+"111"+"22", sample.Found(0, 7*512, 600, own))
	// What is for all counts, but less than what it tells itself.
	path := sample.Recs("path", "z", "k", "v")
	begins(t, "torn, with records for all", sample.Torn(sample.Records(api.Local, "path", long), 1, main, sample.Some(1024)), 0, path, "11"+"8"+"1"+"22", path, sample.Found(0, 4*512, 600, own))
	walks(t, "torn, with records for all ahead", sample.Spoilt(sample.Image(sample.Records(api.Global, "k", "v"), name, sample.Noughts(1), main, sample.Some(1024)), 4), "44"+"11"+"8"+"1"+"22", sample.Found(2, 6*512, 600, own))
}

// What does not agree is not tied: the orphan is one, and what follows a member of its own.
func TestNotTied(t *testing.T) {
	name := sample.Extension(api.LongName, "b")
	a := sample.FileMeta("a", 600)
	x := sample.Torn(name, 2, sample.File("a", sample.Some(600)))
	walks(t, "another name", x, "69"+"88"+"122", sample.Found(4, 5*512, 600, a))
	x.Bad = nil
	walks(t, "nothing lost", x, "11"+"1"+"1"+"122",
		sample.Found(0, 3*512, 0, sample.FileMeta("b", 0)), sample.Found(3, 4*512, 0, sample.FileMeta("a", 0)), sample.Found(4, 5*512, 600, a))
	walks(t, "others behind", sample.Torn(sample.Extension(api.LongName, "a"), 1, sample.Some(512), sample.File("a", sample.Some(600))), "69"+"8"+"9"+"122", sample.Found(4, 5*512, 600, a))
	walks(t, "nothing behind", sample.Torn(sample.Extension(api.LongName, "a"), 3), "69"+"888")
	// A whole group is one, though its name would agree with what is behind the bad block.
	whole := sample.Spoilt(sample.Image(sample.Extension(api.LongName, "a"), sample.Main(api.Dir, "x/", 0), sample.Noughts(1), sample.Main(api.File, "a", 0)), 3)
	walks(t, "a group that is whole", whole, "111"+"8"+"1", sample.Found(0, 3*512, 0, api.Meta{Name: "a", Kind: api.Dir}), sample.Found(4, 5*512, 0, sample.FileMeta("a", 0)))
}

// Many blocks are no harm, bad or not.
func TestMany(t *testing.T) {
	const n = 200000
	x := sample.Image(sample.Noughts(n))
	for i := range n {
		x.Bad = append(x.Bad, n-1-i)
	}
	walks(t, "all bad", x, many("8", n))
	x.Bad = x.Bad[:n/2]
	walks(t, "half of them bad", x, "55"+many("3", n/2-2)+many("8", n/2))
	x = sample.Image(sample.Main(api.File, "a", (n-1)*512), sample.Noughts(n-1))
	for i := range n / 2 {
		x.Bad = append(x.Bad, i*2+1)
	}
	walks(t, "each second one bad", x, "1"+many("82", n/2-1)+"8", sample.Found(0, 512, (n-1)*512, sample.FileMeta("a", (n-1)*512)))
	b := bytes.Repeat(sample.Main(api.Dir, "d/", 0), 20000)
	l, classes := Walk(sample.Image(b))
	if len(l) != 20000 || digits(classes) != many("1", 20000) || slices.ContainsFunc(l, func(f api.Found) bool { return f.Data != 512*f.At+512 }) {
		t.Errorf("%d members, %d classes of many", len(l), len(classes))
	}
}
