package group

import (
	"archive/tar"
	"bytes"
	"errors"
	"io"
	"math"
	"reflect"
	"slices"
	"strconv"
	"strings"
	"testing"
	"time"

	"mudlark/api"
	"mudlark/head"
	"mudlark/meta"
	"mudlark/pax"
	"mudlark/sample"
	holes "mudlark/sparse"
)

// blockByWords, payloadByWords, globalByWords, readByWords and bytesByWords are the calls as the chapter has them.
func blockByWords(x api.Image, i int) ([]byte, api.Errno) {
	if i < 0 || i > len(x.Bytes)/512 || i*512 == len(x.Bytes) {
		return nil, 42
	}
	for _, bad := range x.Bad {
		if bad == i {
			return nil, 43
		}
	}
	b := x.Bytes[i*512:]
	if len(b) > 512 {
		b = b[:512]
	}
	return b, 0
}

func headerByWords(x api.Image, i int) (api.Header, api.Errno) {
	b, e := blockByWords(x, i)
	if e != 0 {
		return api.Header{}, e
	}
	return head.Parse(b)
}

func payloadByWords(x api.Image, i int, h api.Header) ([]byte, int, api.Errno) {
	if h.Size > 1<<20 {
		return nil, 0, 3
	}
	count := 0
	for h.Size > 512*count {
		count++
		b, e := blockByWords(x, i+count)
		if e != 0 {
			return nil, 0, e
		}
		if len(b) != 512 {
			return nil, 0, 42
		}
	}
	if count == 0 {
		return nil, i + 1, 0
	}
	return x.Bytes[512*(i+1) : 512*(i+1)+h.Size], i + 1 + count, 0
}

func globalByWords(x api.Image, i int) ([]api.Rec, int, api.Errno) {
	h, e := headerByWords(x, i)
	if e != 0 {
		return nil, 0, e
	}
	if h.Kind != 'g' {
		return nil, 0, 31
	}
	b, behind, e := payloadByWords(x, i, h)
	if e != 0 {
		return nil, 0, e
	}
	l, e := pax.Parse(b)
	if e != 0 {
		return nil, 0, e
	}
	return l, behind, 0
}

func readByWords(x api.Image, i int, global, own []api.Rec) (api.Group, api.Errno) {
	none := api.Group{}
	seen := ""
	var locals []api.Rec
	var names, links []string
	at := i
	h, e := headerByWords(x, at)
	for ; e == 0 && strings.IndexByte("gxLK", h.Kind) >= 0; h, e = headerByWords(x, at) {
		if h.Kind == 'g' || strings.IndexByte(seen, h.Kind) >= 0 {
			return none, 40
		}
		seen += string(h.Kind)
		b, behind, e := payloadByWords(x, at, h)
		if e != 0 {
			return none, e
		}
		text, _, _ := strings.Cut(string(b), "\x00")
		if h.Kind == 'x' {
			locals, e = pax.Parse(b)
			if e != 0 {
				return none, e
			}
		} else if h.Kind == 'L' {
			names = append(names, text)
		} else {
			links = append(links, text)
		}
		at = behind
	}
	if e != 0 {
		return none, e
	}
	g := api.Group{At: i, Main: at, Global: global}
	at++
	var more []api.Part
	for isMore := h.Kind == 'S' && h.More; isMore; at++ {
		b, e := blockByWords(x, at)
		if e != 0 {
			return none, e
		}
		l, goesOn, ok := holes.Old(b)
		if !ok {
			return none, 32
		}
		more, isMore = append(more, l...), goesOn
	}
	g.Meta, e = meta.From(h, pax.Merge(global, pax.Merge(own, locals)), names, links, more)
	if e != 0 {
		return none, e
	}
	g.Data, g.Next = 512*at, at
	for left := g.Meta.Size; left > 0 && left <= 1<<20; left -= 512 {
		g.Next++
	}
	if g.Meta.Size > 1<<20 {
		g.Next += g.Meta.Size / 512
		if g.Meta.Size%512 != 0 {
			g.Next++
		}
	}
	return g, 0
}

func bytesByWords(x api.Image, g api.Group) []byte {
	var b []byte
	for i := 0; i < g.Meta.Size && g.Data+i < len(x.Bytes); i++ {
		b = append(b, x.Bytes[g.Data+i])
	}
	return b
}

func TestReadAnythingByWords(t *testing.T) {
	d := sample.Draw(11)
	told, globalTold := map[api.Errno]int{}, map[api.Errno]int{}
	for range 20000 {
		x := sample.Wreck(&d)
		for i := -1; i <= len(x.Bytes)/512+1; i++ {
			global, own := sample.One(&d, nil, sample.Facts(&d)), sample.One(&d, nil, sample.Facts(&d))
			g, e := Read(x, i, global, own)
			want, err := readByWords(x, i, global, own)
			if !sample.SameGroup(g, want) || e != err {
				t.Fatalf("Read at %d of %d bytes, bad %v, with %v, %v = %+v, %d; want %+v, %d", i, len(x.Bytes), x.Bad, global, own, g, e, want, err)
			}
			if b, want := Bytes(x, g), bytesByWords(x, g); !bytes.Equal(b, want) {
				t.Fatalf("Bytes of %+v: %d; want %d", g, len(b), len(want))
			}
			l, behind, e := Global(x, i)
			wantRecs, wantBehind, wantErr := globalByWords(x, i)
			if !slices.Equal(l, wantRecs) || behind != wantBehind || e != wantErr {
				t.Fatalf("Global at %d of %d bytes, bad %v = %v, %d, %d; want %v, %d, %d", i, len(x.Bytes), x.Bad, l, behind, e, wantRecs, wantBehind, wantErr)
			}
			told[err]++
			globalTold[wantErr]++
		}
	}
	// What is drawn has to tell all that may be told.
	for _, e := range []api.Errno{api.OK, api.ErrLong, api.ErrShort, api.ErrSum, api.ErrKind, api.ErrField, api.ErrText, api.ErrRecs, api.ErrOrder, api.ErrEnd, api.ErrBad} {
		if told[e] < 100 {
			t.Errorf("Read told %d %d times alone", e, told[e])
		}
	}
	for _, e := range []api.Errno{api.OK, api.ErrShort, api.ErrSum, api.ErrKind, api.ErrRecs, api.ErrEnd, api.ErrBad} {
		if globalTold[e] < 100 {
			t.Errorf("Global told %d %d times alone", e, globalTold[e])
		}
	}
}

func TestPayloadByWords(t *testing.T) {
	d := sample.Draw(3)
	for range 20000 {
		x := sample.Image(sample.Some(d.Below(3000)))
		for range d.Below(4) {
			x.Bad = append(x.Bad, d.Below(8)-1)
		}
		i, size := sample.One(&d, -1, 0, 0, 1, 2, 5, -2), sample.One(&d, d.Below(3000), d.Below(600), 512*d.Below(5), -d.Below(9), api.MaxExt, api.MaxExt+1)
		b, behind, e := Payload(x, i, api.Header{Size: size})
		want, wantBehind, err := payloadByWords(x, i, api.Header{Size: size})
		if !bytes.Equal(b, want) || behind != wantBehind || e != err {
			t.Fatalf("Payload at %d, of %d, of %d bytes, bad %v = %d bytes, %d, %d; want %d, %d, %d", i, size, len(x.Bytes), x.Bad, len(b), behind, e, len(want), wantBehind, err)
		}
	}
}

// written is a group as a writer lays it, but that the long texts may be in extensions of their own.
func written(t *testing.T, m api.Meta, isLong bool) []byte {
	t.Helper()
	h, l, e := meta.To(m)
	if e != api.OK {
		t.Fatalf("To of %+v = %d", m, e)
	}
	var b []byte
	if isLong {
		for key, kind := range map[string]byte{"path": 'L', "linkpath": 'K'} {
			if value, ok := pax.Find(l, key); ok {
				b = append(b, sample.Extension(kind, value+"\x00")...)
				l = slices.DeleteFunc(l, func(r api.Rec) bool { return r.Key == key })
			}
		}
	}
	if len(l) > 0 {
		b = append(b, sample.Extension('x', sample.Lines(l))...)
	}
	return append(b, sample.Laid(h)...)
}

func TestWhatWasWrittenIsRead(t *testing.T) {
	d := sample.Draw(5)
	for range 5000 {
		m := sample.Meta(&d)
		b := written(t, m, d.Below(2) == 0)
		ahead, data := 512*d.Below(3), sample.Some(m.Size)
		at, count, behind := ahead/512, (m.Size+511)/512, (ahead+len(b))/512
		x := sample.Image(sample.Some(ahead), b, sample.Filled(data), sample.Some(d.Below(600)))
		if d.Below(2) == 0 {
			// Of a member whose headers are all there, all is known; its bytes are those that were read.
			for i := range at {
				x.Bad = append(x.Bad, i)
			}
			x.Bad = append(x.Bad, behind, behind+1, behind+count)
		}
		reads(t, "what was written", x, at, nil, nil, grouped(at, behind-1, behind, behind+count, m))
		g, _ := Read(x, at, nil, nil)
		if got := Bytes(x, g); !bytes.Equal(got, data) {
			t.Fatalf("Bytes of %+v: %d; want %d", g, len(got), len(data))
		}
		for i := at; i < behind; i++ {
			readsNone(t, "a header that is bad", sample.Spoilt(x, i), at, api.ErrBad)
		}
	}
}

// others are members that the library's own tar writer writes.
func others() []tar.Header {
	return []tar.Header{
		{Typeflag: tar.TypeReg, Name: "a", Size: 7, Mode: 0o644, ModTime: time.Unix(1, 0)},
		{Typeflag: tar.TypeReg, Name: sample.Letters(250), Uname: "u", Size: 1024, ModTime: time.Unix(1<<34, 0)},
		{Typeflag: tar.TypeReg, Name: "empty", Uid: 3000000, Gid: 1 << 40, ModTime: time.Unix(0, 0)},
		{Typeflag: tar.TypeDir, Name: strings.Repeat("d/", 400), Mode: 0o755, ModTime: time.Unix(-1, 0)},
		{Typeflag: tar.TypeSymlink, Name: sample.Letters(600), Linkname: sample.Letters(200), ModTime: time.Unix(5, 0)},
		{Typeflag: tar.TypeLink, Name: "h", Linkname: sample.Letters(600), ModTime: time.Unix(5, 0)},
		{Typeflag: tar.TypeChar, Name: "c", Devmajor: 4, Devminor: 64, ModTime: time.Unix(8589934591, 0)},
		{Typeflag: tar.TypeBlock, Name: "b", Devmajor: 2097151, ModTime: time.Unix(0, 0)},
		{Typeflag: tar.TypeFifo, Name: "é", Mode: 0o7777, ModTime: time.Unix(0, 0)},
		{Typeflag: tar.TypeReg, Name: "last", Size: 600, ModTime: time.Unix(5, 0)},
	}
}

// knownOf is what is known of such a one.
func knownOf(h tar.Header) api.Meta {
	return api.Meta{
		Name: h.Name, Link: h.Linkname, Kind: h.Typeflag, Mode: int(h.Mode), Uid: h.Uid, Gid: h.Gid, User: h.Uname, Group: h.Gname,
		Mtime: api.Time{S: int(h.ModTime.Unix()), N: h.ModTime.Nanosecond()},
		Major: int(h.Devmajor), Minor: int(h.Devminor), Size: int(h.Size), Real: int(h.Size),
	}
}

func TestArchivesOfOthers(t *testing.T) {
	for _, format := range []tar.Format{tar.FormatPAX, tar.FormatGNU} {
		var out bytes.Buffer
		w := tar.NewWriter(&out)
		for _, h := range others() {
			h.Format = format
			if err := w.WriteHeader(&h); err != nil {
				t.Fatal(err)
			}
			w.Write(sample.Some(int(h.Size)))
		}
		w.Close()
		x := sample.Image(out.Bytes())
		at := 0
		for _, h := range others() {
			g, e := Read(x, at, nil, nil)
			if m := knownOf(h); !meta.Same(g.Meta, m) || g.At != at || e != api.OK {
				t.Fatalf("%v: Read at %d = %+v, %d; want %+v", format, at, g, e, m)
			}
			if b := Bytes(x, g); !bytes.Equal(b, sample.Some(int(h.Size))) {
				t.Errorf("%v: Bytes of %s: %d", format, h.Name, len(b))
			}
			at = g.Next
		}
		if at != len(x.Bytes)/512-2 {
			t.Errorf("%v: the last one ends at %d", format, at)
		}
		readsNone(t, "the end", x, at, api.ErrSum)
	}
}

func TestGlobalsOfOthers(t *testing.T) {
	var out bytes.Buffer
	w := tar.NewWriter(&out)
	if err := w.WriteHeader(&tar.Header{Typeflag: tar.TypeXGlobalHeader, Name: "g", PAXRecords: map[string]string{"uid": "7", "k": sample.Letters(600)}}); err != nil {
		t.Fatal(err)
	}
	w.WriteHeader(&tar.Header{Typeflag: tar.TypeReg, Name: "a", ModTime: time.Unix(0, 0)})
	x := sample.Image(out.Bytes())
	l := sample.Recs("k", sample.Letters(600), "uid", "7")
	globals(t, "others'", x, 0, l, 3)
	readsNone(t, "others'", x, 0, api.ErrOrder)
	want := grouped(3, 3, 4, 4, api.Meta{Name: "a", Kind: '0', Uid: 7, Extra: sample.Recs("k", sample.Letters(600))})
	want.Global = l
	reads(t, "others'", x, 3, l, nil, want)
}

// What others read of a file with holes, further parts and all, is what is read here.
func TestHolesOfOthers(t *testing.T) {
	for count := range 60 {
		var l []api.Part
		for i := range count {
			l = append(l, api.Part{At: 30 * i, Len: 1 + i%20})
		}
		size := 0
		for _, p := range l {
			size += p.Len
		}
		b := sample.Holed(size, 3000, count > 4, l[:min(count, 4)]...)
		for left := l[min(count, 4):]; len(left) > 0; left = left[min(len(left), 21):] {
			goesOn := byte(0)
			if len(left) > 21 {
				goesOn = 1
			}
			b = append(b, sample.Further(goesOn, left[:min(len(left), 21)]...)...)
		}
		x := sample.Image(b, sample.Filled(sample.Some(size)), make([]byte, 1024))
		r := tar.NewReader(bytes.NewReader(x.Bytes))
		if _, err := r.Next(); err != nil {
			t.Fatal(err)
		}
		want, err := io.ReadAll(r)
		g, e := Read(x, 0, nil, nil)
		whole, wrong := holes.Expand(g.Meta.Parts, g.Meta.Real, Bytes(x, g))
		if err != nil || e != api.OK || wrong != api.OK || !bytes.Equal(whole, want) {
			t.Errorf("%d parts: %v, %d, %d: %d bytes; want %d", count, err, e, wrong, len(whole), len(want))
		}
	}
}

func TestNilIsEmpty(t *testing.T) {
	b := slices.Concat(sample.Extension('x', "6 a=b\n"), sample.Main('0', "a", 3), sample.Filled(sample.Some(3)))
	want := grouped(0, 2, 3, 4, file("a", 3))
	want.Meta.Extra = sample.Recs("a", "b")
	for _, bad := range [][]int{nil, {}} {
		for _, l := range [][]api.Rec{nil, {}} {
			reads(t, "nil and empty", sample.Spoilt(sample.Image(b), bad...), 0, l, l, want)
		}
		x := api.Image{Bytes: []byte{}, Bad: bad}
		readsNone(t, "empty", x, 0, api.ErrEnd)
		globalsNone(t, "empty", x, 0, api.ErrEnd)
		payloadsNone(t, "empty", x, 0, 1, api.ErrEnd)
	}
}

func TestWhatIsHandedInStays(t *testing.T) {
	// Behind the lengths stand bytes, numbers and records that would count if they were read.
	b := slices.Concat(sample.Extension('x', "9 uid=30\n"), sample.Main('0', "a", 1000), sample.Some(1000), sample.Some(512))
	bad := []int{7, 3, 2, 0}
	l := sample.Recs("k", "1", "uid", "2", "k", "", "uid", "x")
	keep, keepBad, keepRecs := bytes.Clone(b), slices.Clone(bad), slices.Clone(l)
	x := api.Image{Bytes: b[:1536+700], Bad: bad[:2]}
	want := grouped(0, 2, 3, 5, file("a", 1000))
	want.Meta.Uid, want.Meta.Extra, want.Global = 30, sample.Recs("k", "1"), sample.Recs("k", "1", "uid", "2")
	reads(t, "with others behind", x, 0, l[:2], l[:1], want)
	g, _ := Read(x, 0, l[:2], l[:1])
	if got := Bytes(x, g); !bytes.Equal(got, sample.Some(1000)[:700]) {
		t.Errorf("Bytes: %d", len(got))
	}
	payloads(t, "with others behind", x, 0, 9, []byte("9 uid=30\n"), 2)
	payloadsNone(t, "with others behind", x, 3, 512, api.ErrEnd)
	globalsNone(t, "with others behind", x, 0, api.ErrKind)
	readsNone(t, "with others behind", api.Image{Bytes: b[:1000]}, 0, api.ErrEnd)
	readsNone(t, "with others behind", api.Image{Bytes: b[:1024]}, 0, api.ErrEnd)
	readsNone(t, "with others behind", api.Image{Bytes: b[:1535]}, 0, api.ErrShort)
	if !bytes.Equal(b, keep) || !slices.Equal(bad, keepBad) || !slices.Equal(l, keepRecs) {
		t.Error("what was handed in is another")
	}
}

func TestWhatComesOutIsNew(t *testing.T) {
	x := sample.Image(sample.Extension('g', sample.Lines(sample.Recs("a", "1", "b", "2"))), sample.Extension('x', "6 c=3\n"), sample.Holed(3, 9, false, sample.Parts(0, 1, 5, 2)...), sample.Filled(sample.Some(3)))
	l := sample.Recs("uid", "7")
	global := sample.Recs("g", "1", "h", "2")
	first, _ := Read(x, 2, global, l)
	second, _ := Read(x, 2, global, l)
	firstBytes, secondBytes := Bytes(x, second), Bytes(x, second)
	firstLoad, _, _ := Payload(x, 0, api.Header{Size: 12})
	secondLoad, _, _ := Payload(x, 0, api.Header{Size: 12})
	firstRecs, _, _ := Global(x, 0)
	secondRecs, _, _ := Global(x, 0)
	for _, b := range [][]byte{firstBytes, firstLoad, x.Bytes} {
		b = b[:cap(b)]
		for i := range b {
			b[i] = 255
		}
	}
	for _, r := range [][]api.Rec{first.Global, firstRecs, global, l} {
		r = r[:cap(r)]
		for i := range r {
			r[i] = api.Rec{Key: "spoilt", Value: "spoilt"}
		}
	}
	want := grouped(2, 4, 5, 6, holed(3, 9, sample.Parts(0, 1, 5, 2)))
	want.Global, want.Meta.Uid, want.Meta.Extra = sample.Recs("g", "1", "h", "2"), 7, sample.Recs("c", "3", "g", "1", "h", "2")
	if !reflect.DeepEqual(second, want) {
		t.Errorf("what was read became %+v", second)
	}
	if !bytes.Equal(secondBytes, sample.Some(3)) || string(secondLoad) != "6 a=1\n6 b=2\n" || !slices.Equal(secondRecs, sample.Recs("a", "1", "b", "2")) {
		t.Errorf("what came out became %v, %q, %v", secondBytes, secondLoad, secondRecs)
	}
}

// What lies behind a list's length is not handed out.
func TestNothingLiesBehind(t *testing.T) {
	x := sample.Image(sample.Some(600))
	for size := range 600 {
		load, _, _ := Payload(x, -1, api.Header{Size: size})
		for _, b := range [][]byte{Bytes(x, api.Group{Meta: api.Meta{Size: size}}), load} {
			for i, c := range b[len(b):cap(b)] {
				if c != 0 {
					t.Fatalf("%d bytes: %d behind them is %d", size, i, c)
				}
			}
		}
	}
	global := sample.Recs("a", "1", "b", "2")
	g, _ := Read(sample.Image(sample.Main('0', "a", 0)), 0, global[:1], nil)
	if slices.Contains(g.Global[:cap(g.Global)], global[1]) {
		t.Error("a record behind Global is handed out")
	}
}

// A stop is an error of its own, told by its number, also where another error wraps it.
func TestStops(t *testing.T) {
	for _, e := range []api.Errno{api.ErrLong, api.ErrEnd, api.ErrBad, math.MaxUint16} {
		if reason(stop{e}) != e || reason(errors.Join(errors.New("at a block"), stop{e})) != e || (stop{e}).Error() != "mudlark "+strconv.Itoa(int(e)) {
			t.Errorf("a stop of %d: %d, %s", e, reason(stop{e}), stop{e}.Error())
		}
	}
	if reason(nil) != api.OK {
		t.Error("a stop of nothing")
	}
}
