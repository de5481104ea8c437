package index

import (
	"archive/tar"
	"bytes"
	"reflect"
	"slices"
	"testing"
	"time"

	"mudlark/api"
	"mudlark/group"
	"mudlark/head"
	"mudlark/meta"
	"mudlark/sample"
	"mudlark/score"
)

// atByWords, listByWords, memberByWords and allByWords are the calls as the chapter has them.
func atByWords(x api.Image, i int) (api.Item, bool) {
	none := api.Item{}
	if i < 0 || i*512 >= len(x.Bytes) {
		return none, false
	}
	for _, bad := range x.Bad {
		if bad == i {
			return none, false
		}
	}
	b := x.Bytes[i*512:]
	if len(b) > 512 {
		b = b[:512]
	}
	item := api.Item{At: i, Points: score.Points(b)}
	h, e := head.Parse(b)
	if e != 0 {
		if !score.Suspect(b) {
			return none, false
		}
		return item, true
	}
	item.Header, item.Kind, item.Size = true, h.Kind, h.Size
	return item, true
}

func listByWords(x api.Image) []api.Item {
	var l []api.Item
	for i := 0; i*512 < len(x.Bytes); i++ {
		if item, ok := atByWords(x, i); ok {
			l = append(l, item)
		}
	}
	return l
}

func memberByWords(x api.Image, i int) (api.Found, api.Errno) {
	g, e := group.Read(x, i, nil, nil)
	if e != 0 {
		return api.Found{}, e
	}
	f := api.Found{At: i, Data: g.Data, Meta: g.Meta}
	for f.Len < g.Meta.Size && g.Data+f.Len < len(x.Bytes) {
		f.Len++
	}
	f.Partial = f.Len != g.Meta.Size
	return f, 0
}

func allByWords(x api.Image) []api.Found {
	var l []api.Found
	for _, item := range listByWords(x) {
		if item.Header && item.Kind != 'g' {
			if f, e := memberByWords(x, item.At); e == 0 {
				l = append(l, f)
			}
		}
	}
	return l
}

// agrees holds all that is told of an image against the chapter's words.
func agrees(t *testing.T, x api.Image) {
	t.Helper()
	if l, want := List(x), listByWords(x); !slices.Equal(l, want) {
		t.Fatalf("List of %d bytes, bad %v = %+v; want %+v", len(x.Bytes), x.Bad, l, want)
	}
	if l, want := All(x), allByWords(x); !slices.EqualFunc(l, want, sample.SameFound) {
		t.Fatalf("All of %d bytes, bad %v = %+v; want %+v", len(x.Bytes), x.Bad, l, want)
	}
	for i := -1; i <= len(x.Bytes)/512+1; i++ {
		item, ok := At(x, i)
		if want, wantOk := atByWords(x, i); item != want || ok != wantOk {
			t.Fatalf("At %d of %d bytes, bad %v = %+v, %v; want %+v", i, len(x.Bytes), x.Bad, item, ok, want)
		}
		f, e := Member(x, i)
		if want, err := memberByWords(x, i); !sample.SameFound(f, want) || e != err {
			t.Fatalf("Member at %d of %d bytes, bad %v = %+v, %d; want %+v, %d", i, len(x.Bytes), x.Bad, f, e, want, err)
		}
	}
}

func TestAnythingByWords(t *testing.T) {
	d := sample.Draw(15)
	told, headers, suspects, partial := map[api.Errno]int{}, map[byte]int{}, 0, 0
	for range 4000 {
		x := sample.Wreck(&d)
		// A byte of a header that is another one makes it a suspect.
		if at := d.Below(len(x.Bytes)); d.Below(3) == 0 {
			x.Bytes[at] ^= byte(1 + d.Below(255))
		}
		agrees(t, x)
		for _, item := range List(x) {
			if !item.Header {
				suspects++
				continue
			}
			headers[item.Kind]++
			f, e := Member(x, item.At)
			told[e]++
			if f.Partial {
				partial++
			}
		}
	}
	// What is drawn has to tell all that may be told.
	for _, e := range []api.Errno{api.OK, api.ErrLong, api.ErrShort, api.ErrSum, api.ErrKind, api.ErrField, api.ErrText, api.ErrRecs, api.ErrOrder, api.ErrEnd, api.ErrBad} {
		if told[e] < 10 {
			t.Errorf("Member told %d %d times alone", e, told[e])
		}
	}
	for _, kind := range []byte("01234567xgLKS") {
		if headers[kind] < 100 {
			t.Errorf("%d headers of %c alone", headers[kind], kind)
		}
	}
	if suspects < 200 || partial < 200 {
		t.Errorf("%d suspects, %d partial members alone", suspects, partial)
	}
}

// A member whose own blocks are as they were is in the index, and is told there, whatever is around it.
func TestWhateverIsAround(t *testing.T) {
	d := sample.Draw(3)
	for range 3000 {
		m := sample.Member(&d)
		x, at := sample.Amid(&d, sample.Written(m))
		item, ok := At(x, at)
		if !ok || !item.Header || !slices.Contains(List(x), item) {
			t.Fatalf("%+v is not in the list: %+v", m.Meta, item)
		}
		f, e := Member(x, at)
		if e != api.OK || f.Partial || !meta.Same(f.Meta, m.Meta) || !bytes.Equal(x.Bytes[f.Data:f.Data+f.Len], m.Data) {
			t.Fatalf("Member = %+v, %d; want %+v", f, e, m.Meta)
		}
		if !slices.ContainsFunc(All(x), func(one api.Found) bool { return reflect.DeepEqual(one, f) }) {
			t.Fatalf("%+v is not among all", f)
		}
	}
}

// Every header is in the list, and nothing else is that is no header and not like one.
func TestEveryHeaderIsThere(t *testing.T) {
	d := sample.Draw(8)
	for range 3000 {
		x := sample.Wreck(&d)
		x.Bad = nil
		l := List(x)
		for i := range len(x.Bytes) / 512 {
			b := x.Bytes[512*i : 512*i+512]
			at := slices.IndexFunc(l, func(item api.Item) bool { return item.At == i })
			if (at >= 0) != (score.Header(b) || score.Suspect(b)) || at >= 0 && l[at].Header != score.Header(b) {
				t.Fatalf("block %d of %d is at %d of %+v", i, len(x.Bytes)/512, at, l)
			}
		}
		if !slices.IsSortedFunc(l, func(a, b api.Item) int { return a.At - b.At }) {
			t.Fatalf("in no order: %+v", l)
		}
	}
}

// TestArchivesOfOthers finds what the library's own tar writer wrote, by its headers alone.
func TestArchivesOfOthers(t *testing.T) {
	for _, format := range []tar.Format{tar.FormatUSTAR, tar.FormatPAX, tar.FormatGNU} {
		var out bytes.Buffer
		w := tar.NewWriter(&out)
		var names []string
		for _, n := range []int{0, 1, 512, 5000} {
			names = append(names, sample.Letters(90)+"/"+sample.Letters(90+n/1000))
			h := tar.Header{Format: format, Typeflag: tar.TypeReg, Name: names[len(names)-1], Size: int64(n), Mode: 0o644, ModTime: time.Unix(int64(n), 0)}
			if err := w.WriteHeader(&h); err != nil {
				t.Fatal(err)
			}
			w.Write(sample.Some(n))
		}
		w.Close()
		x := sample.Image(out.Bytes())
		for _, name := range names {
			if !slices.ContainsFunc(All(x), func(f api.Found) bool {
				return f.Meta.Name == name && !f.Partial && bytes.Equal(x.Bytes[f.Data:f.Data+f.Len], sample.Some(f.Meta.Size))
			}) {
				t.Errorf("%v: %s is not found", format, name)
			}
		}
	}
}
