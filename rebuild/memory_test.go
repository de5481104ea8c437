package rebuild

import (
	"bytes"
	"reflect"
	"slices"
	"testing"

	"mudlark/api"
	"mudlark/sample"
	"mudlark/sink"
)

func TestNilIsEmpty(t *testing.T) {
	for _, bad := range [][]int{nil, {}} {
		empty := api.Image{Bytes: []byte{}, Bad: bad}
		salvages(t, "no bytes", empty)
		recoversNone(t, "no bytes", empty, 0, api.ErrEnd)
		x := sample.Spoilt(sample.Image(sample.File("a", sample.Some(3))), bad...)
		salvages(t, "none bad", x, file("a", sample.Some(3)))
		recovers(t, "none bad", x, 0, file("a", sample.Some(3)))
		for _, isPartial := range []bool{false, true} {
			f := api.Found{Len: 2, Partial: isPartial, Meta: sample.FileMeta("a", 2)}
			f.Meta.Parts, f.Meta.Extra = []api.Part{}, []api.Rec{}
			want := file("a", nil)
			want.Meta = sample.FileMeta("a", 2)
			if isPartial {
				want = part("a", nil, "2")
			}
			is(t, "of no bytes", empty, f, want)
		}
	}
}

// full is an image, and what is found in it, of which all lists have others behind their lengths.
func full() (api.Image, api.Found) {
	b := slices.Concat(sample.File("a", sample.Some(1000)), sample.Main(api.Dir, "d/", 0))
	m := api.Meta{Name: "a", Kind: api.File, Size: 1000, Real: 2000, Holes: true}
	m.Parts = sample.Parts(0, 100, 200, 900, 1500, 1)[:2]
	m.Extra = sample.Recs("z", "1", "k", "v", "j", "w")[:2]
	return api.Image{Bytes: b[:512+700], Bad: []int{7, 0, 1}[:1]}, api.Found{Data: 512, Len: 1000, Partial: true, Meta: m}
}

// whole is it with what lies behind.
func whole(x api.Image, f api.Found) (api.Image, api.Found) {
	x.Bytes, x.Bad = x.Bytes[:4*512], x.Bad[:3]
	f.Meta.Parts, f.Meta.Extra = f.Meta.Parts[:3], f.Meta.Extra[:3]
	return x, f
}

func TestWhatIsHandedInStays(t *testing.T) {
	x, f := full()
	want := member(f.Meta, sample.Some(700))
	want.Meta.Size, want.Meta.Parts, want.Meta.Extra = 700, sample.Parts(0, 100, 200, 600), sample.Recs(partialText, "1000", "k", "v", "z", "1")
	is(t, "partial", x, f, want)
	f.Partial = false
	is(t, "not partial", x, f, member(f.Meta, sample.Some(700)))
	f.Partial = true
	salvages(t, "all", x, part("a", sample.Some(700), "1000"))
	recovers(t, "one", x, 0, part("a", sample.Some(700), "1000"))
	recoversNone(t, "none behind", x, 3, api.ErrEnd)
	s := sink.New(7)
	Into(x, s)
	f.Meta.Name = ""
	Member(x, f)
	f.Meta.Name = "a"
	x, f = whole(x, f)
	keepImage, keepFound := whole(full())
	if !reflect.DeepEqual(x, keepImage) || !reflect.DeepEqual(f, keepFound) {
		t.Errorf("what was handed in became %+v", f)
	}
}

// spoil writes over all that a member has, and over what lies behind.
func spoil(m api.Member) {
	for i := range m.Data[:cap(m.Data)] {
		m.Data[:cap(m.Data)][i] = 'x'
	}
	for i := range m.Meta.Parts[:cap(m.Meta.Parts)] {
		m.Meta.Parts[:cap(m.Meta.Parts)][i] = api.Part{At: -1}
	}
	for i := range m.Meta.Extra[:cap(m.Meta.Extra)] {
		m.Meta.Extra[:cap(m.Meta.Extra)][i] = api.Rec{Key: "spoilt"}
	}
}

// What is told shares nothing with what was handed in, nor with what else is told: neither bytes, nor parts, nor records.
func TestMembersAreApart(t *testing.T) {
	for _, isPartial := range []bool{false, true} {
		for _, name := range []string{"a", ""} {
			handed := func() (api.Image, api.Found) {
				x, f := full()
				f.Partial, f.Meta.Name = isPartial, name
				return x, f
			}
			x, f := handed()
			one, other := Member(x, f), Member(x, f)
			spoil(one)
			x, f = whole(x, f)
			if keepImage, keepFound := whole(handed()); !reflect.DeepEqual(x, keepImage) || !reflect.DeepEqual(f, keepFound) {
				t.Errorf("with what came out, what was handed in became %+v", f)
			}
			spoil(member(f.Meta, x.Bytes))
			x, f = handed()
			is(t, "with what was handed in", x, f, other)
		}
	}
}

func TestWhatComesOutIsNew(t *testing.T) {
	x := sample.Image(
		sample.Records(api.Global, "a", "1", "b", "2"), sample.Main(api.Soft, "c", 0), sample.Main(api.Dir, "d/", 0),
		sample.Holed(3, 9, false, sample.Parts(0, 1, 5, 2)...), sample.Filled(sample.Some(3)),
		sample.File("e", sample.Some(600))[:1024],
	)
	keep := bytes.Clone(x.Bytes)
	l, again := Salvage(x), Salvage(x)
	one, _ := Recover(x, 4)
	two, _ := Recover(x, 4)
	b, other := Rebuild(x), Rebuild(x)
	if len(l) != 4 || len(b) != len(other) {
		t.Fatalf("%d members, %d bytes", len(l), len(b))
	}
	want := Salvage(x)
	// Each of one answer is apart from the others of it.
	for i := range l {
		spoil(l[i])
		if !sample.Same(l[i+1:], want[i+1:]) {
			t.Errorf("with the member %d others became %+v", i, l[i+1:])
		}
	}
	clear(l[:cap(l)])
	spoil(one)
	for i := range b[:cap(b)] {
		b[:cap(b)][i] = 'x'
	}
	if !bytes.Equal(x.Bytes, keep) {
		t.Error("with what came out the image became another")
	}
	spoil(member(api.Meta{}, x.Bytes))
	x.Bytes = keep
	if !sample.Same(again, want) || !sample.Same(again, Salvage(x)) {
		t.Errorf("the members became %+v", again)
	}
	if !bytes.Equal(other, Rebuild(x)) {
		t.Error("what was rebuilt became another")
	}
	recovers(t, "again", x, 4, two)
}

// A sink has bytes of its own.
func TestSinkIsApart(t *testing.T) {
	x := sample.Image(sample.File("a", sample.Some(5)))
	keep := bytes.Clone(x.Bytes)
	s := sink.New(5000)
	Into(x, s)
	want := s.Bytes()
	clear(x.Bytes)
	if !bytes.Equal(s.Bytes(), want) || !bytes.Equal(want, Rebuild(sample.Image(keep))) {
		t.Error("with the image the sink's bytes became others")
	}
}

// What lies behind a list's length is not handed out.
func TestNothingLiesBehind(t *testing.T) {
	for n := range 40 {
		x := sample.Image(sample.Main(api.File, "a", n), sample.Some(512), bytes.Repeat(sample.Main(api.Dir, "d/", 0), n))
		l := Salvage(x)
		for _, m := range l[len(l):cap(l)] {
			if !reflect.DeepEqual(m, api.Member{}) {
				t.Errorf("behind %d members stands %+v", len(l), m)
			}
		}
		one, _ := Recover(x, 0)
		f := sample.Found(0, 512, n, sample.FileMeta("a", n))
		f.Meta.Extra = slices.Repeat(sample.Recs("k", "v"), 50)[:n]
		f.Meta.Parts = slices.Repeat(sample.Parts(1, 2), 50)[:n]
		for _, m := range []api.Member{l[0], one, Member(x, f)} {
			if b := m.Data[len(m.Data):cap(m.Data)]; !bytes.Equal(b, make([]byte, len(b))) {
				t.Errorf("behind %d bytes stand %v", len(m.Data), b)
			}
			if b := m.Meta.Extra[len(m.Meta.Extra):cap(m.Meta.Extra)]; !slices.Equal(b, make([]api.Rec, len(b))) {
				t.Errorf("behind %d records stand %v", len(m.Meta.Extra), b)
			}
			if b := m.Meta.Parts[len(m.Meta.Parts):cap(m.Meta.Parts)]; !slices.Equal(b, make([]api.Part, len(b))) {
				t.Errorf("behind %d parts stand %v", len(m.Meta.Parts), b)
			}
		}
		b := Rebuild(x)
		if rest := b[len(b):cap(b)]; !bytes.Equal(rest, make([]byte, len(rest))) {
			t.Errorf("behind %d bytes stand others", len(b))
		}
	}
}
