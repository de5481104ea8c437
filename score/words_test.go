package score

import (
	"archive/tar"
	"bytes"
	"strings"
	"testing"
	"time"

	"mudlark/api"
	"mudlark/head"
	"mudlark/num"
	"mudlark/sample"
	"mudlark/str"
	"mudlark/sum"
)

// pointsByWords is Points as the chapter has it.
func pointsByWords(b []byte) int {
	if len(b) != 512 || sum.Zero(b) {
		return 0
	}
	points := 0
	if sum.Right(b) {
		points += 4
	} else if _, ok := sum.Told(b); ok {
		points++
	}
	if way, _ := head.Way(b); way == 1 || way == 2 {
		points += 3
	}
	if head.Known(b[156]) {
		points++
	}
	if name := str.Cut(b[:100]); len(name) > 0 && str.Plain(name) {
		points += 2
	}
	for _, field := range [][]byte{b[100:108], b[108:116], b[116:124], b[124:136], b[136:148]} {
		isSomething := false
		for _, c := range field {
			if c != 0 && c != ' ' {
				isSomething = true
			}
		}
		if _, ok := num.Parse(field); ok && isSomething {
			points++
		}
	}
	return points
}

// agrees holds what is told of a block against the chapter's words.
func agrees(t *testing.T, b []byte) {
	t.Helper()
	points := pointsByWords(b)
	_, e := head.Parse(b)
	if n := Points(b); n != points {
		t.Fatalf("Points = %d; want %d of %q", n, points, b)
	}
	if ok := Header(b); ok != (e == 0) {
		t.Fatalf("Header = %v; want %d of %q", ok, e, b)
	}
	if ok := Suspect(b); ok != (e != 0 && points >= 6) {
		t.Fatalf("Suspect = %v; want %d, %d points of %q", ok, e, points, b)
	}
}

// someBlock is a header, noughts, or other bytes.
func someBlock(d *sample.Draw) []byte {
	switch d.Below(4) {
	case 0:
		return make([]byte, 512)
	case 1:
		b := make([]byte, 512)
		for i := range b {
			b[i] = byte(d.Below(256))
		}
		return b
	}
	kind := sample.One(d, []byte("01234567SxgLK")...)
	return sample.Main(kind, sample.One(d, "a", "d/a", "é", "\x01", sample.Letters(100)), d.Below(5000))
}

// someWrong is b with other bytes at places of its fields, and elsewhere.
func someWrong(d *sample.Draw, b []byte) []byte {
	for range d.Below(12) {
		place := sample.One(d, 0, d.Below(100), 100, 108, 116, 124, 136, 100+d.Below(48), 148+d.Below(8), 156, 257, 257+d.Below(8), d.Below(512))
		text := sample.One(d, "\x00", " ", "7", "0", "8", "x", "\x01", "\xff", "\x80", "ustar\x0000", "ustar  \x00",
			strings.Repeat("\x00", 8), "0000644\x00", strings.Repeat("\x00", 12), "        ", "S", "é")
		b = with(b, place, text)
	}
	return b
}

func TestAnythingByWords(t *testing.T) {
	d := sample.Draw(14)
	told := [16]int{}
	headers, suspects := 0, 0
	for range 60000 {
		b := someWrong(&d, someBlock(&d))
		if d.Below(3) == 0 {
			b = sum.Seal(b)
		}
		if d.Below(50) == 0 {
			b = b[:d.Below(512)]
		}
		agrees(t, b)
		told[Points(b)]++
		if Header(b) {
			headers++
		}
		if Suspect(b) {
			suspects++
		}
		if Header(b) && (Points(b) < 4 || Suspect(b)) {
			t.Fatalf("a header of %d points, suspected %v: %q", Points(b), Suspect(b), b)
		}
	}
	// What is drawn has to give all that may be given.
	for points, n := range told {
		if n < 10 {
			t.Errorf("%d points %d times alone", points, n)
		}
	}
	if headers < 1000 || suspects < 1000 {
		t.Errorf("%d headers, %d suspects alone", headers, suspects)
	}
}

// What is printed is a header, and stays like one as long as little of it is broken.
func TestWhatIsPrintedIsOne(t *testing.T) {
	d := sample.Draw(15)
	for range 3000 {
		way := d.Below(3)
		h := api.Header{
			Way: way, Kind: sample.One(&d, []byte("01234567xgLK")...), Name: sample.One(&d, "a", "d/", "é", sample.Letters(100)),
			Mode: d.Below(512), Uid: sample.One(&d, 0, 1000, 1<<40), Gid: d.Below(100), Size: sample.One(&d, 0, 5, 1<<40), Mtime: sample.One(&d, 0, -1, 1<<40),
		}
		points := 15
		if way == api.V7 {
			points = 12
		}
		b := sample.Laid(h)
		scores(t, h.Name, b, points, true)
		// A bit in what no field has: a suspect now.
		scores(t, h.Name+", broken", with(b, 505, "\x01"), points-3, false)
	}
}

// Members that are written are headers where they begin, and their bytes are none.
func TestWhatIsWritten(t *testing.T) {
	d := sample.Draw(16)
	for range 500 {
		m := sample.Member(&d)
		m.Data = bytes.Repeat([]byte("so it is\n"), m.Meta.Size)[:m.Meta.Size]
		b := sample.Written(m)
		behind := len(b) - len(sample.Filled(m.Data))
		if !Header(b[behind-512:behind]) || !Header(b[:512]) {
			t.Fatalf("no header of %+v", m.Meta)
		}
		for ; behind < len(b); behind += 512 {
			block := b[behind : behind+512]
			if Header(block) || Suspect(block) {
				t.Fatalf("a member's bytes have %d points: %q", Points(block), block)
			}
		}
	}
}

// TestHeadersOfOthers takes headers that the library writes, of each of its formats.
func TestHeadersOfOthers(t *testing.T) {
	for _, format := range []tar.Format{tar.FormatUSTAR, tar.FormatPAX, tar.FormatGNU} {
		for _, h := range []tar.Header{
			{Name: "a", Size: 0, Mode: 0o644, ModTime: time.Unix(1, 0)},
			{Name: "d/", Typeflag: tar.TypeDir, Mode: 0o755, ModTime: time.Unix(0, 0)},
			{Name: "l", Typeflag: tar.TypeSymlink, Linkname: "../x", Uid: 1000, Gid: 5, Uname: "u", ModTime: time.Unix(1<<30, 0)},
		} {
			h.Format = format
			var out bytes.Buffer
			w := tar.NewWriter(&out)
			if err := w.WriteHeader(&h); err != nil {
				t.Fatal(err)
			}
			if err := w.Flush(); err != nil {
				t.Fatal(err)
			}
			b := out.Bytes()
			scores(t, h.Name, b[len(b)-512:], 15, true)
			scores(t, h.Name+", with another sum", sample.Unsealed(b[len(b)-512:]), 12, false)
		}
	}
}
