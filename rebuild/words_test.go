package rebuild

import (
	"archive/tar"
	"bytes"
	"io"
	"math"
	"math/big"
	"slices"
	"strconv"
	"testing"
	"time"

	"mudlark/api"
	"mudlark/chain"
	"mudlark/index"
	"mudlark/medium"
	"mudlark/meta"
	"mudlark/pax"
	"mudlark/sample"
	"mudlark/sink"
	"mudlark/sparse"
	"mudlark/strict"
	"mudlark/write"
)

// memberByWords, salvageByWords, rebuildByWords and recoverByWords are the calls as the chapter has them.
func memberByWords(x api.Image, f api.Found) api.Member {
	m := api.Member{Meta: f.Meta}
	at := f.Data
	if at < 0 {
		at = 0
	}
	for n := f.Len; n > 0 && at < len(x.Bytes); n-- {
		m.Data = append(m.Data, x.Bytes[at])
		at++
	}
	if !f.Partial || f.Meta.Kind != '0' {
		return m
	}
	m.Meta.Size = len(m.Data)
	if m.Meta.Holes {
		m.Meta.Parts = sparse.Front(f.Meta.Parts, len(m.Data))
	}
	if !m.Meta.Holes {
		m.Meta.Real = len(m.Data)
	}
	m.Meta.Extra = pax.Merge(f.Meta.Extra, sample.Recs("SALVAGE.partial", big.NewInt(int64(f.Meta.Size)).String()))
	if _, _, e := meta.To(m.Meta); e != 0 {
		m.Meta.Extra = f.Meta.Extra
	}
	return m
}

func salvageByWords(x api.Image) []api.Member {
	var l []api.Member
	found, _ := chain.Walk(x)
	for i := range found {
		l = append(l, memberByWords(x, found[i]))
	}
	return l
}

func rebuildByWords(t *testing.T, x api.Image) []byte {
	t.Helper()
	b, e := write.Write(salvageByWords(x))
	if e != 0 {
		t.Fatalf("no archive of %d bytes, bad %v: %d", len(x.Bytes), x.Bad, e)
	}
	return b
}

func recoverByWords(x api.Image, i int) (api.Member, api.Errno) {
	f, e := index.Member(x, i)
	if e == 0 {
		return memberByWords(x, f), 0
	}
	return api.Member{}, e
}

// number is one that may be a place or a length, or far from it.
func number(d *sample.Draw, most int) int {
	return sample.One(d, d.Below(most+1), d.Below(most+1), d.Below(most+1), -1, most, most+1, math.MaxInt, math.MinInt, math.MaxInt-d.Below(most+1))
}

// records are such as may be extra, or not, drawn; now and then so many, or so long ones, that there may be no room for another.
func records(d *sample.Draw) []api.Rec {
	switch d.Below(30) {
	case 0:
		return crowd(997 + d.Below(5))
	case 1:
		return sample.Recs("k", sample.Letters(api.MaxExt-40+d.Below(30)))
	}
	return sample.One(d, nil, sample.Recs("k", "v"), sample.Recs("A", "1", "z", "2"), sample.Recs("z", "1", "A", ""), sample.Facts(d), sample.Recs(partialText, "5"))
}

// find is what may be found in an image, drawn.
func find(d *sample.Draw, x api.Image) api.Found {
	m := sample.Meta(d)
	m.Extra = records(d)
	switch d.Below(8) {
	case 0:
		m.Name = ""
	case 1:
		m.Size, m.Real = number(d, 600), number(d, 600)
	case 2:
		m.Holes, m.Parts = d.Below(2) == 0, sample.Parts(number(d, 9), number(d, 9), number(d, 600), number(d, 600))
	}
	return api.Found{At: number(d, 9), Data: number(d, len(x.Bytes)), Len: number(d, 700), Partial: d.Below(3) > 0, Meta: m}
}

func TestMembersByWords(t *testing.T) {
	d := sample.Draw(19)
	told, untold, whole := 0, 0, 0
	for range 20000 {
		x := sample.Image(sample.Some(d.Below(900)))
		f := find(&d, x)
		m, want := Member(x, f), memberByWords(x, f)
		if !same(m, want) {
			t.Fatalf("Member of %+v, of %d bytes = %+v; want %+v", f, len(x.Bytes), m, want)
		}
		switch value, _ := pax.Find(m.Meta.Extra, partialText); {
		case !f.Partial || f.Meta.Kind != api.File:
			whole++
		case value == strconv.Itoa(f.Meta.Size):
			told++
		default:
			untold++
		}
	}
	// What is drawn has to tell all that may be told.
	if told < 2000 || untold < 1000 || whole < 5000 {
		t.Errorf("%d tell what was cut off, %d don't, %d are whole alone", told, untold, whole)
	}
}

func TestAnythingByWords(t *testing.T) {
	d := sample.Draw(20)
	told, partial, members := map[api.Errno]int{}, 0, 0
	for range 5000 {
		x := sample.Anything(&d)
		want := salvageByWords(x)
		if l := Salvage(x); !sample.Same(l, want) {
			t.Fatalf("Salvage of %d bytes, bad %v = %+v; want %+v", len(x.Bytes), x.Bad, l, want)
		}
		b := Rebuild(x)
		if !bytes.Equal(b, rebuildByWords(t, x)) {
			t.Fatalf("Rebuild of %d bytes, bad %v has %d bytes, or others", len(x.Bytes), x.Bad, len(b))
		}
		front(t, x, b, d.Below(len(b)+2))
		for i := -1; i <= len(x.Bytes)/512+1; i++ {
			m, e := Recover(x, i)
			want, err := recoverByWords(x, i)
			if !same(m, want) || e != err {
				t.Fatalf("Recover at %d of %d bytes, bad %v = %+v, %d; want %+v, %d", i, len(x.Bytes), x.Bad, m, e, want, err)
			}
			told[e]++
		}
		for _, m := range want {
			members++
			if _, ok := pax.Find(m.Meta.Extra, partialText); ok {
				partial++
			}
		}
	}
	for _, e := range []api.Errno{api.OK, api.ErrLong, api.ErrShort, api.ErrSum, api.ErrKind, api.ErrField, api.ErrText, api.ErrRecs, api.ErrOrder, api.ErrEnd, api.ErrBad} {
		if told[e] < 10 {
			t.Errorf("Recover told %d %d times alone", e, told[e])
		}
	}
	if members < 2000 || partial < 200 {
		t.Errorf("%d members, %d partial ones alone", members, partial)
	}
}

// front holds what a sink with such room takes against the front of what is rebuilt.
func front(t *testing.T, x api.Image, b []byte, room int) {
	t.Helper()
	s, want := sink.New(room), api.OK
	if room < len(b) {
		want, b = api.ErrFull, b[:room]
	}
	if e := Into(x, s); e != want || !bytes.Equal(s.Bytes(), b) {
		t.Fatalf("Into a room of %d = %d, %d bytes; want %d, %d", room, e, len(s.Bytes()), want, len(b))
	}
}

// Of whatever there is, what is rebuilt is strict, has just the members that were salvaged, and is rebuilt the same again, in whatever pieces; bytes that are told are a piece of the image.
func TestAnythingIsStrict(t *testing.T) {
	d := sample.Draw(21)
	for range 4000 {
		x := sample.Anything(&d)
		b, l := Rebuild(x), Salvage(x)
		back, at, e := strict.Read(b)
		if e != api.OK || !sample.Same(back, l) {
			t.Fatalf("rebuilt of %d bytes, bad %v: %d at %d, %+v; want %+v", len(x.Bytes), x.Bad, e, at, back, l)
		}
		for _, again := range []api.Image{sample.Image(b), sample.Spoilt(sample.Image(b, sample.Noughts(d.Below(3))), -1, len(b)/512+9)} {
			if !bytes.Equal(Rebuild(again), b) || !sample.Same(Salvage(again), l) {
				t.Fatalf("of %d bytes, bad %v: rebuilt again it is another", len(x.Bytes), x.Bad)
			}
		}
		made := medium.Make(x.Bytes, x.Bad)
		m := medium.New(x.Bytes, x.Bad, -1, 1+d.Below(700), d.Below(5000), d.Below(3))
		if !bytes.Equal(Rebuild(medium.Gather(m)), Rebuild(made)) {
			t.Fatalf("of %d bytes, bad %v: in pieces it is another", len(x.Bytes), x.Bad)
		}
		for i := range len(x.Bytes)/512 + 1 {
			if one, e := Recover(x, i); e == api.OK {
				l = append(l, one)
			}
		}
		for _, one := range l {
			if !bytes.Contains(x.Bytes, one.Data) || len(one.Data) != one.Meta.Size {
				t.Fatalf("%+v has bytes that are no piece of the image", one.Meta)
			}
			if _, e := write.One(one); e != api.OK {
				t.Fatalf("%+v may not be written: %d", one.Meta, e)
			}
		}
	}
}

// remains is what should be salvaged of a member of which a medium has what was found.
func remains(fleet sample.Fleet, f api.Found, x api.Image) api.Member {
	data := bytes.Clone(fleet.Bytes[f.Data : f.Data+f.Meta.Size])
	for i := range data {
		if medium.Bad(x, (f.Data+i)/512) {
			data[i] = 0
		}
	}
	m := member(f.Meta, data[:f.Len])
	if f.Len == f.Meta.Size {
		return m
	}
	m.Meta.Size = f.Len
	m.Meta.Extra = pax.Merge(f.Meta.Extra, sample.Recs(partialText, strconv.Itoa(f.Meta.Size)))
	if !m.Meta.Holes {
		m.Meta.Real = f.Len
		return m
	}
	m.Meta.Parts = nil
	n := 0
	for _, p := range f.Meta.Parts {
		if n < f.Len {
			m.Meta.Parts = append(m.Meta.Parts, api.Part{At: p.At, Len: min(p.Len, f.Len-n)})
		}
		n += p.Len
	}
	return m
}

// Whichever blocks are lost, and wherever the medium ends: a member whose headers are all there is in what is rebuilt, in order; exact, but for what was not read, or is cut off.
func TestSurvivors(t *testing.T) {
	d := sample.Draw(22)
	whole, partial, holed := 0, 0, 0
	for range 9000 {
		fleet := sample.NewFleet(&d)
		x := fleet.Damaged(&d)
		x = medium.Make(x.Bytes, x.Bad)
		var want []api.Member
		for _, one := range fleet.Members {
			f, ok := fleet.Left(one, x)
			if !ok {
				continue
			}
			want = append(want, remains(fleet, f, x))
			whole++
			if f.Partial {
				partial++
			}
			if f.Partial && f.Meta.Holes {
				holed++
			}
		}
		back, _, e := strict.Read(Rebuild(x))
		if e != api.OK {
			t.Fatalf("bad %v: what is rebuilt is not strict: %d", x.Bad, e)
		}
		back = slices.DeleteFunc(back, func(m api.Member) bool {
			return !slices.ContainsFunc(want, func(one api.Member) bool { return one.Meta.Name == m.Meta.Name })
		})
		if !sample.Same(back, want) {
			t.Fatalf("bad %v: rebuilt are %+v; want %+v", x.Bad, back, want)
		}
	}
	if whole < 5000 || partial < 80 || holed < 20 {
		t.Errorf("%d members with all headers, %d partial, %d of them with holes alone", whole, partial, holed)
	}
}

// Whichever one block is lost, all members but the one whose header it is are there.
func TestEachBlockLost(t *testing.T) {
	d := sample.Draw(23)
	for range 60 {
		fleet := sample.NewFleet(&d)
		for bad := range len(fleet.Bytes) / 512 {
			x := medium.Make(fleet.Bytes, []int{bad})
			l := Salvage(x)
			for _, one := range fleet.Members {
				f, ok := fleet.Left(one, x)
				if ok && !slices.ContainsFunc(l, func(m api.Member) bool { return same(m, remains(fleet, f, x)) }) {
					t.Fatalf("block %d is lost, and so is %+v", bad, one.Found)
				}
			}
		}
	}
}

// A member whose own blocks are as they were is recovered there, whatever is around it.
func TestWhateverIsAround(t *testing.T) {
	d := sample.Draw(24)
	for range 3000 {
		want := sample.Member(&d)
		x, at := sample.Amid(&d, sample.Written(want))
		if m, e := Recover(x, at); !same(m, want) || e != api.OK {
			t.Fatalf("Recover at %d, bad %v = %+v, %d; want %+v", at, x.Bad, m.Meta, e, want.Meta)
		}
	}
}

// Of a strict archive just its members are salvaged; what is written is rebuilt the same.
func TestStrictArchives(t *testing.T) {
	d := sample.Draw(25)
	for range 1500 {
		var b []byte
		var l []api.Member
		for range d.Below(6) {
			if d.Below(4) == 0 {
				b = append(b, sample.Records(api.Global, sample.One(&d, "k", "uid", "uname", "j"), sample.One(&d, "1", "22"))...)
			}
			l = append(l, sample.Member(&d))
			b = append(b, sample.Written(l[len(l)-1])...)
		}
		b = append(sample.Archived(b), sample.Noughts(d.Below(3))...)
		want, _, e := strict.Read(b)
		if got := Salvage(sample.Image(b)); !sample.Same(got, want) || e != api.OK {
			t.Fatalf("salvaged are %+v, %d; want %+v", got, e, want)
		}
		written, _ := write.Write(l)
		if !bytes.Equal(Rebuild(sample.Image(written)), written) || !sample.Same(Salvage(sample.Image(written)), l) {
			t.Fatalf("of %d members another archive is rebuilt", len(l))
		}
	}
}

// A sink has just the front of what is rebuilt, whatever its room.
func TestEachRoom(t *testing.T) {
	x := sample.Cut(sample.Image(sample.File("a", sample.Some(9)), sample.Main(api.Soft, "b", 0), sample.File("c", sample.Some(600))), 500)
	b := Rebuild(x)
	for room := range len(b) + 2 {
		front(t, x, b, room)
	}
}

// archived is what the library's own tar writer makes of files of such sizes, whose names it tells, too.
func archived(t *testing.T, format tar.Format, sizes ...int) ([]byte, []string) {
	t.Helper()
	var out bytes.Buffer
	var names []string
	w := tar.NewWriter(&out)
	for i, n := range sizes {
		names = append(names, sample.Letters(90)+"/"+sample.Letters(80+i))
		h := tar.Header{Format: format, Typeflag: tar.TypeReg, Name: names[i], Size: int64(n), Mode: 0o644, ModTime: time.Unix(int64(n), 0)}
		if err := w.WriteHeader(&h); err != nil {
			t.Fatal(err)
		}
		w.Write(sample.Some(n))
	}
	w.Close()
	return out.Bytes(), names
}

// What others wrote, and was damaged, others read again when it is rebuilt.
func TestArchivesOfOthers(t *testing.T) {
	sizes := []int{0, 1, 5000, 7, 512, 3000}
	for _, format := range []tar.Format{tar.FormatUSTAR, tar.FormatPAX, tar.FormatGNU} {
		b, names := archived(t, format, sizes...)
		// The last file's last bytes, and the end, are cut off; one block of the third one's could not be read.
		at := bytes.Index(b, sample.Some(5000))
		x := medium.Make(b[:len(b)-1024-600], []int{at/512 + 2})
		r := tar.NewReader(bytes.NewReader(Rebuild(x)))
		for i, n := range sizes {
			want, had := sample.Some(n), ""
			switch i {
			case 2:
				clear(want[1024:1536])
			case 5:
				// Behind its bytes there were 72 of padding.
				want, had = want[:3000-600+72], "3000"
			}
			h, err := r.Next()
			if err != nil {
				t.Fatalf("%v: %s is not there: %v", format, names[i], err)
			}
			data, err := io.ReadAll(r)
			if h.Name != names[i] || h.ModTime.Unix() != int64(n) || h.PAXRecords[partialText] != had || !bytes.Equal(data, want) || err != nil {
				t.Errorf("%v: another reader reads %+v, %d bytes, %v; want %s, %d", format, h, len(data), err, names[i], len(want))
			}
		}
		if h, err := r.Next(); err != io.EOF {
			t.Errorf("%v: behind the last one another reader reads %+v, %v", format, h, err)
		}
	}
}
