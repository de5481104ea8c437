package strict

import (
	"archive/tar"
	"bytes"
	"io"
	"testing"
	"time"

	"mudlark/api"
	"mudlark/group"
	"mudlark/medium"
	"mudlark/pax"
	"mudlark/sample"
	"mudlark/sum"
)

// readByWords is Read as the chapter has it.
func readByWords(b []byte) ([]api.Member, int, api.Errno) {
	x := medium.Make(b, nil)
	var l []api.Member
	var global []api.Rec
	for i := 0; ; {
		switch block := medium.Block(x, i); {
		case len(block) != 512:
			return nil, i, 42
		case sum.Zero(block):
			if !sum.Zero(medium.Block(x, i+1)) {
				return nil, i + 1, 42
			}
			for j := i + 2; j < medium.Count(x); j++ {
				if !sum.Zero(medium.Block(x, j)) {
					return nil, j, 42
				}
			}
			return l, 0, 0
		}
		these, behind, e := group.Global(x, i)
		if e == 0 {
			global = pax.Merge(global, these)
			i = behind
			continue
		}
		if e != 31 {
			return nil, i, e
		}
		g, e := group.Read(x, i, global, nil)
		if e != 0 {
			return nil, i, e
		}
		data := group.Bytes(x, g)
		if len(data) != g.Meta.Size {
			return nil, i, 21
		}
		if g.Meta.Size > 0 {
			last := medium.Block(x, g.Data/512+(g.Meta.Size-1)/512)
			if len(last) != 512 {
				return nil, i, 21
			}
			for k := (g.Meta.Size-1)%512 + 1; k < 512; k++ {
				if last[k] != 0 {
					return nil, i, 41
				}
			}
		}
		l = append(l, api.Member{Meta: g.Meta, Data: data})
		i = g.Next
	}
}

// someRecs are records, mostly of what is known.
func someRecs(d *sample.Draw) string {
	var l []api.Rec
	for range d.Below(4) {
		l = append(l, sample.Recs(sample.One(d, "path", "linkpath", "uid", "size", "mtime", "k", "k", "z"), sample.One(d, "", "0", "1", "600", "5", "7"))...)
	}
	return sample.Lines(l)
}

// somePiece is what may stand in an archive, and now and then what may not.
func somePiece(d *sample.Draw) []byte {
	data := sample.Some(sample.One(d, 0, 3, 512, 600, 1024, 1300))
	switch d.Below(13) {
	case 0, 1:
		return sample.Extension('g', someRecs(d))
	case 2, 3:
		return joined(sample.Extension('x', someRecs(d)), sample.File("a", data))
	case 4:
		return joined(sample.Extension('L', sample.Letters(600)), sample.File("a", data))
	case 5:
		return sample.Main(sample.One(d, []byte("123456")...), "a", sample.One(d, 0, 0, 600))
	case 6:
		return joined(sample.Holed(7, 50, true, api.Part{At: 1, Len: 2}), sample.Further(0, sample.Parts(9, 5)...), sample.Filled(sample.Some(7)))
	case 7:
		return sample.One(d, sample.Noughts(1), sample.Some(512), sample.Extension('g', "x"), sample.Extension('x', "x"), sample.Unsealed(sample.Main('0', "a", 0)), sample.Main('g', "g", api.MaxExt+1), sample.Main('0', "", 0))
	}
	return sample.File("a", data)
}

// someArchive is one of such pieces, with or without its end, of which bytes may be changed, or cut off.
func someArchive(d *sample.Draw) []byte {
	var b []byte
	for range d.Below(7) {
		b = append(b, somePiece(d)...)
	}
	b = append(b, sample.Noughts(sample.One(d, 2, 2, 2, 2, 3, 5, 0, 1))...)
	if d.Below(5) == 0 && len(b) > 0 {
		b[d.Below(len(b))] ^= byte(1 + d.Below(255))
	}
	if d.Below(5) == 0 {
		b = b[:len(b)-d.Below(min(len(b), 1500)+1)]
	}
	return b
}

func TestReadAnythingByWords(t *testing.T) {
	d := sample.Draw(12)
	told := map[api.Errno]int{}
	for range 20000 {
		b := someArchive(&d)
		l, at, e := Read(b)
		want, wantAt, err := readByWords(b)
		if !sample.Same(l, want) || at != wantAt || e != err || Right(b) != (err == api.OK) {
			t.Fatalf("Read of %d bytes = %+v, %d, %d; want %+v, %d, %d", len(b), l, at, e, want, wantAt, err)
		}
		told[err]++
	}
	// What is drawn has to tell all that may be told.
	for _, e := range []api.Errno{api.OK, api.ErrLong, api.ErrShort, api.ErrSum, api.ErrField, api.ErrText, api.ErrRecs, api.ErrPad, api.ErrEnd} {
		if told[e] < 10 {
			t.Errorf("Read told %d %d times alone", e, told[e])
		}
	}
}

// Each byte of an archive that is another one makes it another archive, or none.
func TestEachByteCounts(t *testing.T) {
	b := sample.Archived(sample.Records(api.Global, "k", "v"), sample.File("a", sample.Some(5)), sample.Main(api.Dir, "d/", 0))
	whole, _, _ := Read(b)
	for i := range b {
		changed := bytes.Clone(b)
		changed[i] ^= 0x11
		l, at, e := Read(changed)
		want, wantAt, err := readByWords(changed)
		if !sample.Same(l, want) || at != wantAt || e != err {
			t.Fatalf("Read with byte %d changed = %+v, %d, %d; want %+v, %d, %d", i, l, at, e, want, wantAt, err)
		}
		isPadding := i >= 512+len(sample.Lines(sample.Recs("k", "v"))) && i < 1024
		if e == api.OK && sample.Same(l, whole) != isPadding {
			t.Errorf("byte %d changes nothing, or what it should not", i)
		}
	}
}

func TestWhatWasWrittenIsRead(t *testing.T) {
	d := sample.Draw(4)
	for range 2000 {
		var l []api.Member
		var b []byte
		for range d.Below(6) {
			m := sample.Member(&d)
			l = append(l, m)
			b = append(b, sample.Written(m)...)
		}
		reads(t, "what was written", sample.Archived(b), l...)
		readsNone(t, "without its end", b, len(b)/512, api.ErrEnd)
	}
}

// told is a header of the library's own, with what is known of a member.
func told(m api.Meta) *tar.Header {
	h := &tar.Header{
		Format: tar.FormatPAX, Typeflag: m.Kind, Name: m.Name, Linkname: m.Link, Size: int64(m.Size), Mode: int64(m.Mode),
		Uid: m.Uid, Gid: m.Gid, Uname: m.User, Gname: m.Group, ModTime: time.Unix(int64(m.Mtime.S), int64(m.Mtime.N)),
		Devmajor: int64(m.Major), Devminor: int64(m.Minor), PAXRecords: map[string]string{},
	}
	for _, r := range m.Extra {
		h.PAXRecords[r.Key] = r.Value
	}
	return h
}

func TestArchivesOfOthers(t *testing.T) {
	d := sample.Draw(6)
	for range 300 {
		var out bytes.Buffer
		w := tar.NewWriter(&out)
		var want []api.Member
		for range d.Below(6) {
			m := sample.Member(&d)
			if m.Meta.Holes {
				continue
			}
			if err := w.WriteHeader(told(m.Meta)); err != nil {
				t.Fatal(err)
			}
			w.Write(m.Data)
			want = append(want, m)
		}
		w.Close()
		reads(t, "of others", out.Bytes(), want...)
	}
}

// What is read is what the library's own reader reads, member by member.
func TestOthersReadTheSame(t *testing.T) {
	d := sample.Draw(8)
	for range 500 {
		var b []byte
		for range 1 + d.Below(5) {
			b = append(b, sample.Written(sample.Member(&d))...)
		}
		b = sample.Archived(b)
		r := tar.NewReader(bytes.NewReader(b))
		l, _, _ := Read(b)
		for _, m := range l {
			if m.Meta.Uid > 1<<40 || m.Meta.Holes || len(m.Meta.Extra) > 0 {
				break
			}
			h, err := r.Next()
			if err != nil || h.Name != m.Meta.Name || int(h.Size) != m.Meta.Size || h.Linkname != m.Meta.Link {
				t.Fatalf("another reader reads %+v, %v; want %+v", h, err, m.Meta)
			}
			if data, err := io.ReadAll(r); err != nil || !bytes.Equal(data, m.Data) {
				t.Fatalf("another reader reads %d bytes, %v; want %d", len(data), err, len(m.Data))
			}
		}
	}
}
