package chain

import (
	"archive/tar"
	"bytes"
	"slices"
	"testing"
	"time"

	"mudlark/api"
	"mudlark/group"
	"mudlark/medium"
	"mudlark/meta"
	"mudlark/pax"
	"mudlark/sample"
	"mudlark/score"
	"mudlark/strict"
	"mudlark/sum"
	"mudlark/tie"
)

// stepByWords and walkByWords are the calls as the chapter has them.
func stepByWords(x api.Image, i int, global []api.Rec) (api.Found, bool, []int, []api.Rec) {
	b := medium.Block(x, i)
	if len(b) == 0 {
		return api.Found{}, false, nil, global
	}
	if medium.Bad(x, i) {
		return api.Found{}, false, []int{8}, global
	}
	if len(b) != 512 {
		return api.Found{}, false, []int{9}, global
	}
	if sum.Zero(b) {
		return api.Found{}, false, noughtsByWords(x, i), global
	}
	if l, behind, e := group.Global(x, i); e == 0 {
		var classes []int
		for range behind - i {
			classes = append(classes, 4)
		}
		return api.Found{}, false, classes, pax.Merge(global, l)
	}
	g, e := group.Read(x, i, global, nil)
	ok := e == 0
	if !ok {
		g, ok = tie.Read(x, i, global)
	}
	switch {
	case ok:
		f := api.Found{At: i, Data: g.Data, Len: len(group.Bytes(x, g)), Meta: g.Meta}
		f.Partial = f.Len != g.Meta.Size
		return f, true, classesByWords(x, i, g), global
	case score.Header(b):
		return api.Found{}, false, []int{6}, global
	case score.Suspect(b):
		return api.Found{}, false, []int{7}, global
	}
	return api.Found{}, false, []int{9}, global
}

// noughtsByWords are the classes of noughts from a block on, classesByWords those of a group's blocks.
func noughtsByWords(x api.Image, i int) []int {
	var l []int
	for j := i; sum.Zero(medium.Block(x, j)) && !medium.Bad(x, j); j++ {
		l = append(l, 3)
	}
	if len(l) > 1 {
		l[0], l[1] = 5, 5
	}
	return l
}

func classesByWords(x api.Image, i int, g api.Group) []int {
	var l []int
	for j := i; j < g.Next && j < medium.Count(x); j++ {
		switch {
		case medium.Bad(x, j):
			l = append(l, 8)
		case j*512 < g.Data:
			l = append(l, 1)
		default:
			l = append(l, 2)
		}
	}
	return l
}

func walkByWords(x api.Image) ([]api.Found, []int) {
	var l []api.Found
	var classes []int
	var global []api.Rec
	for i := 0; i < medium.Count(x); {
		f, ok, c, then := stepByWords(x, i, global)
		if ok {
			l = append(l, f)
		}
		classes = append(classes, c...)
		i += len(c)
		global = then
	}
	return l, classes
}

func TestAnythingByWords(t *testing.T) {
	d := sample.Draw(17)
	told, torn, partial := map[int]int{}, 0, 0
	for range 20000 {
		x := sample.Anything(&d)
		l, classes := Walk(x)
		want, wantClasses := walkByWords(x)
		if !slices.EqualFunc(l, want, sample.SameFound) || !slices.Equal(classes, wantClasses) {
			t.Fatalf("Walk of %d bytes, bad %v = %+v, %v; want %+v, %v", len(x.Bytes), x.Bad, l, classes, want, wantClasses)
		}
		for _, class := range classes {
			told[class]++
		}
		for i := -1; i <= len(x.Bytes)/512+1; i++ {
			global := sample.One(&d, nil, sample.Facts(&d))
			f, ok, classes, then := Step(x, i, global)
			want, wantOk, wantClasses, wantThen := stepByWords(x, i, global)
			if !sample.SameFound(f, want) || ok != wantOk || !slices.Equal(classes, wantClasses) || !slices.Equal(then, wantThen) {
				t.Fatalf("Step at %d of %d bytes, bad %v, with %v = %+v, %v, %v, %v; want %+v, %v, %v, %v", i, len(x.Bytes), x.Bad, global, f, ok, classes, then, want, wantOk, wantClasses, wantThen)
			}
			if _, isTied := tie.Read(x, i, global); ok && isTied {
				torn++
			}
			if f.Partial {
				partial++
			}
		}
	}
	// What is drawn has to tell all that may be told.
	for class := api.OfHeader; class <= api.OfNothing; class++ {
		if told[class] < 300 {
			t.Errorf("class %d was told %d times alone", class, told[class])
		}
	}
	if torn < 100 || partial < 300 {
		t.Errorf("%d torn members, %d partial ones alone", torn, partial)
	}
}

// Every block has one class, whatever is there; members rise, do not lie over one another, and their bytes are a piece of the image.
func TestEveryBlockHasOneClass(t *testing.T) {
	d := sample.Draw(2)
	for range 8000 {
		x := sample.Anything(&d)
		l, classes := Walk(x)
		if len(classes) != medium.Count(x) {
			t.Fatalf("%d classes of %d blocks", len(classes), medium.Count(x))
		}
		for i, class := range classes {
			if class < 1 || class > 9 || (class == api.OfBad) != medium.Bad(x, i) {
				t.Fatalf("bad %v: block %d is %d", x.Bad, i, class)
			}
		}
		behind := 0
		for _, f := range l {
			blocks := (f.Data + f.Len + 511) / 512
			if f.At < behind || f.Data <= f.At*512 || f.Len < 0 || f.Data+f.Len > len(x.Bytes) || f.Partial != (f.Len < f.Meta.Size) {
				t.Fatalf("behind %d of %d bytes is %+v", behind, len(x.Bytes), f)
			}
			for i := f.At; i < blocks; i++ {
				want := api.OfHeader
				if i*512 >= f.Data {
					want = api.OfData
				}
				if classes[i] != want && classes[i] != api.OfBad {
					t.Fatalf("block %d of %+v is %d", i, f, classes[i])
				}
			}
			behind = blocks
		}
	}
}

// In whatever pieces it was read, an image has the same members and classes.
func TestWhateverPieces(t *testing.T) {
	d := sample.Draw(6)
	for range 500 {
		x := sample.Anything(&d)
		l, classes := Walk(medium.Make(x.Bytes, x.Bad))
		m := medium.New(x.Bytes, x.Bad, -1, 1+d.Below(700), d.Below(5000), d.Below(3))
		again, againClasses := Walk(medium.Gather(m))
		if !slices.EqualFunc(l, again, sample.SameFound) || !slices.Equal(classes, againClasses) {
			t.Fatalf("in pieces: %+v, %v; want %+v, %v", again, againClasses, l, classes)
		}
	}
}

// Of a strict archive just its members are found, as they are; none of its blocks is of the classes of damage.
func TestStrictArchives(t *testing.T) {
	d := sample.Draw(4)
	for range 1500 {
		var b []byte
		for range d.Below(6) {
			if d.Below(4) == 0 {
				b = append(b, sample.Records(api.Global, sample.One(&d, "k", "uid", "uname", "j"), sample.One(&d, "1", "22"))...)
			}
			b = append(b, sample.Written(sample.Member(&d))...)
		}
		b = append(sample.Archived(b), sample.Noughts(d.Below(3))...)
		want, _, e := strict.Read(b)
		if e != api.OK {
			t.Fatalf("no strict archive: %d", e)
		}
		findsAll(t, b, want)
		if _, classes := Walk(sample.Image(b)); slices.Max(classes) > api.OfEnd {
			t.Fatalf("a strict archive's classes are %v", classes)
		}
	}
}

// findsAll holds what is found in an archive against its members.
func findsAll(t *testing.T, b []byte, want []api.Member) {
	t.Helper()
	x := sample.Image(b)
	l, _ := Walk(x)
	if !slices.EqualFunc(l, want, func(f api.Found, m api.Member) bool {
		return meta.Same(f.Meta, m.Meta) && !f.Partial && bytes.Equal(x.Bytes[f.Data:f.Data+f.Len], m.Data)
	}) {
		t.Fatalf("found are %d of %d members", len(l), len(want))
	}
}

// Whichever blocks are lost, and wherever the image ends: a member whose headers are all there is found, in order, as it is.
func TestSurvivors(t *testing.T) {
	d := sample.Draw(11)
	whole, others := 0, 0
	for range 9000 {
		fleet := sample.NewFleet(&d)
		x := fleet.Damaged(&d)
		var want []api.Found
		for _, one := range fleet.Members {
			if f, ok := fleet.Left(one, x); ok {
				want = append(want, f)
			}
		}
		l, _ := Walk(x)
		found := slices.DeleteFunc(slices.Clone(l), func(f api.Found) bool {
			return !slices.ContainsFunc(want, func(one api.Found) bool { return one.At == f.At })
		})
		if !slices.EqualFunc(found, want, sample.SameFound) {
			t.Fatalf("bad %v: found %+v; want %+v", x.Bad, found, want)
		}
		whole, others = whole+len(want), others+len(l)-len(want)
	}
	if whole < 5000 || others < 300 {
		t.Errorf("%d members with all headers, %d others alone", whole, others)
	}
}

// Whichever one block of an archive is lost, no member but the one that has it is.
func TestEachBlockLost(t *testing.T) {
	d := sample.Draw(13)
	for range 300 {
		fleet := sample.NewFleet(&d)
		for bad := range len(fleet.Bytes) / 512 {
			x := sample.Spoilt(sample.Image(fleet.Bytes), bad)
			l, classes := Walk(x)
			for _, one := range fleet.Members {
				f, ok := fleet.Left(one, x)
				if ok && !slices.ContainsFunc(l, func(other api.Found) bool { return sample.SameFound(f, other) }) {
					t.Fatalf("block %d is lost, and so is %+v", bad, one.Found)
				}
				if isItsOwn := bad >= one.Found.At && bad < one.Behind; isItsOwn == ok {
					t.Fatalf("block %d is lost of %+v: %v", bad, one.Found, ok)
				}
			}
			if classes[bad] != api.OfBad {
				t.Fatalf("block %d is %d", bad, classes[bad])
			}
		}
	}
}

// TestArchivesOfOthers finds what the library's own tar writer wrote.
func TestArchivesOfOthers(t *testing.T) {
	for _, format := range []tar.Format{tar.FormatUSTAR, tar.FormatPAX, tar.FormatGNU} {
		var out bytes.Buffer
		var names []string
		w := tar.NewWriter(&out)
		for _, n := range []int{0, 1, 512, 5000, 7} {
			names = append(names, sample.Letters(90)+"/"+sample.Letters(90+n/1000))
			h := tar.Header{Format: format, Typeflag: tar.TypeReg, Name: names[len(names)-1], Size: int64(n), Mode: 0o644, ModTime: time.Unix(int64(n), 0)}
			if err := w.WriteHeader(&h); err != nil {
				t.Fatal(err)
			}
			w.Write(sample.Some(n))
		}
		w.Close()
		x := sample.Image(out.Bytes())
		l, classes := Walk(x)
		if !slices.EqualFunc(l, names, func(f api.Found, name string) bool {
			return f.Meta.Name == name && !f.Partial && bytes.Equal(x.Bytes[f.Data:f.Data+f.Len], sample.Some(f.Meta.Size))
		}) {
			t.Errorf("%v: found are %+v", format, l)
		}
		if !slices.Equal(classes[len(classes)-2:], []int{api.OfEnd, api.OfEnd}) || slices.Max(classes) > api.OfEnd {
			t.Errorf("%v: the classes are %v", format, classes)
		}
	}
}
