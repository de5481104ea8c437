package write

import (
	"archive/tar"
	"bytes"
	"fmt"
	"io"
	"slices"
	"testing"

	"mudlark/api"
	"mudlark/head"
	"mudlark/meta"
	"mudlark/pax"
	"mudlark/sample"
	"mudlark/strict"
)

// oneByWords and writeByWords are the calls as the chapter has them.
func oneByWords(m api.Member) ([]byte, api.Errno) {
	h, l, e := meta.To(m.Meta)
	if e != 0 {
		return nil, e
	}
	if len(m.Data) != m.Meta.Size {
		return nil, 11
	}
	var b []byte
	if len(l) > 0 {
		payload, _ := pax.Print(l)
		x, _ := head.Print(api.Header{Kind: 'x', Way: 1, Name: "pax", Mode: 420, Size: len(payload)})
		b = append(b, x...)
		b = append(b, sample.Filled(payload)...)
	}
	main, _ := head.Print(h)
	b = append(b, main...)
	return append(b, sample.Filled(m.Data)...), 0
}

func writeByWords(l []api.Member) ([]byte, api.Errno) {
	var b []byte
	for _, m := range l {
		one, e := oneByWords(m)
		if e != 0 {
			return nil, e
		}
		b = append(b, one...)
	}
	return append(b, make([]byte, 1024)...), 0
}

// some is a member that may be, or, now and then, may not.
func some(d *sample.Draw) api.Member {
	m := sample.Member(d)
	switch d.Below(30) {
	case 0:
		m.Data = sample.Some(d.Below(1030))
	case 1:
		m.Meta.Kind = sample.One(d, []byte("7SxgLK\x00")...)
	case 2:
		m.Meta.Name = sample.One(d, "", "a/", "\x00")
	case 3:
		m.Meta.Mode = sample.One(d, -1, 2097152)
	case 4:
		m.Meta.Extra = sample.Recs("b", "1", "a", "2")
	}
	return m
}

func members(d *sample.Draw, most int) []api.Member {
	var l []api.Member
	for range d.Below(most + 1) {
		l = append(l, sample.Member(d))
	}
	return l
}

func TestAnythingByWords(t *testing.T) {
	d := sample.Draw(13)
	told := map[api.Errno]int{}
	for range 5000 {
		var l []api.Member
		for range d.Below(6) {
			m := some(&d)
			b, e := One(m)
			want, err := oneByWords(m)
			if !bytes.Equal(b, want) || e != err {
				t.Fatalf("One(%+v) = %d, want %d; %s", m.Meta, e, err, unlike(b, want))
			}
			l = append(l, m)
		}
		b, e := Write(l)
		want, err := writeByWords(l)
		if !bytes.Equal(b, want) || e != err {
			t.Fatalf("Write of %d = %d, want %d; %s", len(l), e, err, unlike(b, want))
		}
		told[err]++
	}
	// What is drawn has to tell all that may be told; ErrLong takes more bytes.
	for _, e := range []api.Errno{api.OK, api.ErrForm, api.ErrKind, api.ErrField, api.ErrText, api.ErrRecs} {
		if told[e] < 10 {
			t.Errorf("Write told %d %d times alone", e, told[e])
		}
	}
}

// comesBack holds what is read of what was written against that, and what is written of it against what was read.
func comesBack(t *testing.T, l []api.Member) {
	t.Helper()
	b, e := Write(l)
	if e != api.OK {
		t.Fatalf("Write of %d members = %d", len(l), e)
	}
	back, at, e := strict.Read(b)
	if !sample.Same(back, l) || e != api.OK {
		t.Fatalf("of %d members %d are read: %d at %d\n%+v\n%+v", len(l), len(back), e, at, back, l)
	}
	again, e := Write(back)
	if !bytes.Equal(again, b) || e != api.OK {
		t.Fatalf("what was read is written otherwise: %d, %s", e, unlike(again, b))
	}
}

func TestComesBack(t *testing.T) {
	d := sample.Draw(14)
	comesBack(t, nil)
	for range 3000 {
		comesBack(t, members(&d, 6))
	}
	// What looks as an archive's own bytes do is a file's all the same.
	inner, _ := Write(members(&d, 6))
	for _, data := range [][]byte{make([]byte, 1024), make([]byte, 1), inner, inner[:len(inner)-1], file("b", nil), local("6 k=v\n")} {
		comesBack(t, []api.Member{plain("a", data), plain("b", data)})
	}
}

// Whatever archive may be, its members are written so that they are read again.
func TestArchivesOfOthersComeBack(t *testing.T) {
	pieces := [][]byte{
		sample.Records(api.Global, "k", "v", "uid", "5"), sample.File("a", sample.Some(3)), sample.Main(api.File, "d/", 0),
		sample.Extension(api.LongName, sample.Letters(300)), sample.Main(api.Dense, "b", 0),
		sample.Holed(7, 50, true, sample.Parts(1, 2, 5, 0)...), sample.Further(0, sample.Parts(9, 5)...), sample.Filled(sample.Some(7)),
		sample.Records(api.Local, "k", "", "mtime", "-0.5"), sample.Main(api.Soft, "c", 0),
	}
	l, _, e := strict.Read(sample.Archived(pieces...))
	if len(l) != 5 || e != api.OK {
		t.Fatalf("of others %d members are read, %d; want 5", len(l), e)
	}
	comesBack(t, l)
}

// What is written the library's own reader reads, member by member, up to the end.
func TestOthersReadIt(t *testing.T) {
	d := sample.Draw(15)
	for range 500 {
		l := members(&d, 6)
		// Of a file with holes that reader asks for a record more.
		l = slices.DeleteFunc(l, func(m api.Member) bool { return m.Meta.Holes })
		b, _ := Write(l)
		r := tar.NewReader(bytes.NewReader(b))
		for _, m := range l {
			h, err := r.Next()
			if err != nil {
				t.Fatalf("another reader reads nothing of %+v: %v", m.Meta, err)
			}
			got, want := facts(h), factsOf(m.Meta)
			data, err := io.ReadAll(r)
			if got != want || !bytes.Equal(data, m.Data) || err != nil {
				t.Fatalf("another reader reads %s, %d bytes, %v; want %s, %d", got, len(data), err, want, len(m.Data))
			}
		}
		if h, err := r.Next(); err != io.EOF {
			t.Fatalf("behind the last member another reader reads %+v, %v", h, err)
		}
	}
}

// facts is what that reader knows of a member, factsOf what it has to know.
func facts(h *tar.Header) string {
	extra := ""
	for _, key := range []string{"A", "k", "zz"} {
		extra += h.PAXRecords[key] + ";"
	}
	return fmt.Sprintln(h.Typeflag, h.Name, h.Linkname, h.Mode, h.Uid, h.Gid, h.Uname, h.Gname, h.ModTime.Unix(), h.ModTime.Nanosecond(), h.Devmajor, h.Devminor, h.Size, extra)
}

func factsOf(m api.Meta) string {
	extra := ""
	for _, key := range []string{"A", "k", "zz"} {
		value, _ := pax.Find(m.Extra, key)
		extra += value + ";"
	}
	return fmt.Sprintln(m.Kind, m.Name, m.Link, m.Mode, m.Uid, m.Gid, m.User, m.Group, m.Mtime.S, m.Mtime.N, m.Major, m.Minor, m.Size, extra)
}

func TestNilIsEmpty(t *testing.T) {
	for _, l := range [][]api.Member{nil, {}, {plain("a", nil)}} {
		b, _ := Write(l)
		for i := range l {
			l[i].Data, l[i].Meta.Parts, l[i].Meta.Extra = []byte{}, []api.Part{}, []api.Rec{}
		}
		writes(t, "empty", b, append([]api.Member{}, l...)...)
	}
	one, _ := One(plain("a", nil))
	empty, e := One(plain("a", []byte{}))
	if !bytes.Equal(one, empty) || e != api.OK {
		t.Errorf("One of empty bytes = %d, %s", e, unlike(empty, one))
	}
}

// full is a member that has all a list may have, with other things behind each list's length.
func full() api.Member {
	return api.Member{
		Meta: api.Meta{
			Name: "a", Kind: api.File, Uid: 3000000, Size: 7, Real: 50, Holes: true,
			Parts: sample.Parts(1, 2, 9, 5, 40, 1)[:2], Extra: sample.Recs("k", "v", "l", "w")[:1],
		},
		Data: sample.Some(600)[:7],
	}
}

func TestWhatIsHandedInStays(t *testing.T) {
	good, wrong := full(), full()
	wrong.Data = wrong.Data[:6]
	l := []api.Member{good, plain("b", sample.Some(3)), wrong, good}
	want, _ := oneByWords(good)
	for _, n := range []int{0, 1, 2, 3} {
		Write(l[:n])
	}
	One(l[2])
	holds(t, "what lies behind", l[0], want)
	for _, m := range []api.Member{l[0], l[2], l[3]} {
		kept := full()
		m.Data, m.Meta.Parts, m.Meta.Extra = m.Data[:600], m.Meta.Parts[:3], m.Meta.Extra[:2]
		kept.Data, kept.Meta.Parts, kept.Meta.Extra = kept.Data[:600], kept.Meta.Parts[:3], kept.Meta.Extra[:2]
		if !sample.Same([]api.Member{m}, []api.Member{kept}) {
			t.Errorf("what was handed in became %+v; want %+v", m, kept)
		}
	}
	if !sample.Same(l[1:2], []api.Member{plain("b", sample.Some(3))}) {
		t.Errorf("what was handed in became %+v", l[1])
	}
}

func TestWhatComesOutIsNew(t *testing.T) {
	m := full()
	one, _ := One(m)
	two, _ := One(m)
	all, _ := Write([]api.Member{m})
	again, _ := Write([]api.Member{m})
	want, _ := oneByWords(m)
	for _, b := range [][]byte{one, all} {
		whole := b[:cap(b)]
		for i := range whole {
			whole[i] = 'x'
		}
	}
	if !bytes.Equal(m.Data, sample.Some(7)) {
		t.Errorf("what was handed in became %q with what came out", m.Data)
	}
	clear(m.Data)
	if !bytes.Equal(two, want) || !bytes.Equal(again, sample.Archived(want)) {
		t.Errorf("other answers are others now: %s; %s", unlike(two, want), unlike(again, sample.Archived(want)))
	}
}
