package head

import (
	"archive/tar"
	"bytes"
	"fmt"
	"slices"
	"strings"
	"testing"
	"time"

	"mudlark/api"
	"mudlark/num"
	"mudlark/str"
	"mudlark/sum"
)

// partsByWords, parseByWords and printableByWords are the calls as the chapter has them.
func partsByWords(b []byte, place, n int) ([]api.Part, bool) {
	if place < 0 {
		place = 0
	}
	if place > 512 {
		place = 512
	}
	if n > 21 {
		n = 21
	}
	var l []api.Part
	for i := 0; i < n; i++ {
		from := place + 24*i
		if from+24 > len(b) {
			return nil, false
		}
		first, isFirst := num.Parse(b[from : from+12])
		second, isSecond := num.Parse(b[from+12 : from+24])
		if !isFirst || !isSecond || first < 0 || second < 0 {
			return nil, false
		}
		if first == 0 && second == 0 {
			return l, true
		}
		l = append(l, api.Part{At: first, Len: second})
	}
	return l, true
}

func parseByWords(b []byte) (api.Header, api.Errno) {
	var h api.Header
	if len(b) != 512 {
		return h, 21
	}
	if !sum.Right(b) {
		return h, 30
	}
	kind := b[156]
	if kind == 0 {
		kind = '0'
	}
	if strings.IndexByte(kinds, kind) < 0 {
		return h, 31
	}
	way := slices.Index([]string{magicV7, magicUstar, magicGnu}, string(b[257:265]))
	if way < 0 {
		return h, 32
	}
	var n [5]int
	for i, from := range []int{100, 108, 116, 124, 136} {
		behind := []int{108, 116, 124, 136, 148}[i]
		var ok bool
		n[i], ok = num.Parse(b[from:behind])
		if !ok || n[i] < 0 && i != 4 || n[i] > 1<<40 && i == 3 {
			return h, 32
		}
	}
	major, isMajor := num.Parse(b[329:337])
	minor, isMinor := num.Parse(b[337:345])
	if way != 0 && (!isMajor || !isMinor || major < 0 || minor < 0) {
		return h, 32
	}
	if kind == 'S' && way != 2 {
		return h, 31
	}
	parts, isParts := partsByWords(b, 386, 4)
	real, isReal := num.Parse(b[483:495])
	if kind == 'S' && (!isParts || !isReal || real < 0 || real > 1<<40) {
		return h, 32
	}
	h = api.Header{
		Name: str.Cut(b[:100]), Mode: n[0], Uid: n[1], Gid: n[2], Size: n[3], Mtime: n[4],
		Kind: kind, Link: str.Cut(b[157:257]), Way: way,
	}
	if way != 0 {
		h.User, h.Group, h.Major, h.Minor = str.Cut(b[265:297]), str.Cut(b[297:329]), major, minor
	}
	if way == 1 {
		h.Prefix = str.Cut(b[345:500])
	}
	if kind == 'S' {
		h.Parts, h.Real, h.More = parts, real, b[482] != 0
	}
	return h, 0
}

func printableByWords(h api.Header) api.Errno {
	if strings.IndexByte(kinds, h.Kind) < 0 || h.Kind == 'S' && h.Way != 2 {
		return 31
	}
	for i, s := range []string{h.Name, h.Link, h.User, h.Group, h.Prefix} {
		if _, ok := str.Put(s, []int{100, 100, 32, 32, 155}[i]); !ok {
			return 33
		}
	}
	if h.Way < 0 || h.Way > 2 || h.Size > 1<<40 || h.Real > 1<<40 {
		return 32
	}
	eight, twelve := []int{h.Mode, h.Uid, h.Gid, h.Major, h.Minor}, []int{h.Size, h.Real, h.Mtime}
	for _, p := range h.Parts {
		twelve = append(twelve, p.At, p.Len)
		if p.At == 0 && p.Len == 0 {
			return 32
		}
	}
	for i, n := range append(eight, twelve...) {
		wide := 8
		if i >= 5 {
			wide = 12
		}
		if _, ok := num.Put(n, wide); !ok || n < 0 && i != 7 {
			return 32
		}
	}
	isNamed := h.User != "" || h.Group != "" || h.Major != 0 || h.Minor != 0
	isHoled := len(h.Parts) > 0 || h.More || h.Real != 0
	if h.Way == 0 && isNamed || h.Way != 1 && h.Prefix != "" || h.Kind != 'S' && isHoled || len(h.Parts) > 4 {
		return 32
	}
	return 0
}

// bases are blocks of all ways and kinds that are headers, and some that are none.
func bases() [][]byte {
	l := [][]byte{full(), holed(), make([]byte, wholeBlock), laid(full(), at{257, magicGnu}), laid(full(), at{257, magicV7}), laid(holed(), at{257, magicV7})}
	for _, kind := range kinds {
		for _, magic := range []string{magicV7, magicUstar, magicGnu, "ustar\x00\x00\x00"} {
			l = append(l, plain(byte(kind), magic))
		}
	}
	return l
}

func parsesByWords(t *testing.T, name string, b []byte) {
	t.Helper()
	want, wrong := parseByWords(b)
	parses(t, name, b, want, wrong)
	n, ok := Way(b)
	way := -1
	if len(b) == 512 {
		way = slices.Index([]string{magicV7, magicUstar, magicGnu}, string(b[257:265]))
	}
	if ok != (way >= 0) || n != max(way, 0) {
		t.Errorf("%s: Way = %d, %v; want %d", name, n, ok, way)
	}
}

func TestParseByWords(t *testing.T) {
	for i, b := range bases() {
		name := fmt.Sprint("base ", i)
		parsesByWords(t, name, b)
		for place := range wholeBlock {
			for _, c := range []byte{0, 1, ' ', '1', '8', 'x', 0x80, 0xc0, 0xff} {
				// Once with the sum that it told, and once with its own.
				other := bytes.Clone(b)
				other[place] = c
				parsesByWords(t, fmt.Sprintf("%s, %02x at %d", name, c, place), other)
				parsesByWords(t, fmt.Sprintf("%s, %02x at %d, sealed", name, c, place), sum.Seal(other))
			}
		}
	}
}

// draw is a number below n, the next of a row that is the same each time.
type draw uint64

func (d *draw) below(n int) int {
	*d = *d*6364136223846793005 + 1442695040888963407
	return int(uint64(*d)>>33) % n
}

func TestParseAnythingByWords(t *testing.T) {
	d := draw(8)
	l := bases()
	for range 20000 {
		// Fields of some, laid over others, so that several are wrong at once.
		b := bytes.Clone(l[d.below(len(l))])
		for range d.below(4) {
			from := d.below(wholeBlock)
			copy(b[from:min(from+1+d.below(120), wholeBlock)], l[d.below(len(l))][from:])
		}
		for range d.below(4) {
			b[d.below(wholeBlock)] = byte(d.below(256))
		}
		if d.below(8) > 0 {
			b = sum.Seal(b)
		}
		parsesByWords(t, fmt.Sprintf("%q", b), b)
	}
	for range 2000 {
		b := make([]byte, d.below(1100))
		for i := range b {
			b[i] = byte(d.below(256))
		}
		parsesByWords(t, "anything", b)
	}
}

func TestPartsByWords(t *testing.T) {
	d := draw(9)
	pieces := []string{field(0, 12), field(5, 12), bits(7, 12), bits(0, 12), bits(1<<62, 12), bits(-1, 12), "x", strings.Repeat("\x00", 12)}
	for range 20000 {
		var b []byte
		// Wrong ones seldom, so that rows may be long.
		for range d.below(50) {
			b = append(b, pieces[[]int{1, 2, 4, 1, 2, 1, 0, 3, 7, 5, 6}[d.below(6)+d.below(6)]]...)
		}
		b = b[:len(b)-d.below(min(len(b), 13)+1)]
		place, n := d.below(60)*12-24, d.below(28)-3
		l, ok := Parts(b, place, n)
		if want, isTrue := partsByWords(b, place, n); !slices.Equal(l, want) || ok != isTrue {
			t.Fatalf("Parts(%q, %d, %d) = %v, %v; want %v, %v", b, place, n, l, ok, want, isTrue)
		}
	}
}

// someHeader is one of fields that may each be right or wrong, alone or with others.
func someHeader(d *draw) api.Header {
	letters := strings.Repeat("n", 200)
	text := func(wide int) string {
		return []string{"", "", "", "", "a", "a/b", letters[:wide], "\xff", letters[:wide+1], "a\x00"}[d.below(8)+d.below(20)/18+d.below(20)/19]
	}
	l := edges()
	number := func() int {
		if d.below(8) == 0 {
			return l[d.below(len(l))]
		}
		return []int{0, 0, 0, 1, 0o777, 1 << 20}[d.below(6)]
	}
	h := api.Header{
		Name: text(100), Mode: number(), Uid: number(), Gid: number(), Size: number(), Mtime: number(),
		Kind: (kinds + "SSSS\x008")[d.below(len(kinds)+6)], Link: text(100), Way: []int{0, 1, 2, 2, 1, 2, 3, -1}[d.below(7)+d.below(2)],
	}
	if d.below(10) > 0 && h.Way != 0 {
		h.User, h.Group, h.Major, h.Minor = text(32), text(32), number(), number()
	}
	if d.below(10) == 0 || h.Way == 1 {
		h.Prefix = text(155)
	}
	if d.below(10) == 0 || h.Kind == 'S' {
		h.Real, h.More = number(), d.below(2) == 0
		for range d.below(6) {
			h.Parts = append(h.Parts, api.Part{At: number(), Len: number()})
		}
	}
	return h
}

// What is printed is parsed; with noughts elsewhere, and the sum that it has.
func TestThereAndBack(t *testing.T) {
	d := draw(10)
	printed := 0
	for range 200000 {
		h := someHeader(&d)
		b, e := Print(h)
		if want := printableByWords(h); e != want || e != api.OK && len(b) != 0 {
			t.Fatalf("Print of %+v: %d bytes, %v; want %v", h, len(b), e, want)
		}
		if e != api.OK {
			continue
		}
		printed++
		if back, e := Parse(b); !same(back, h) || e != api.OK {
			t.Fatalf("Parse of Print of %+v: %+v, %v", h, back, e)
		}
		if !bytes.Equal(b, sum.Seal(b)) || !bytes.Equal(b, fieldsByWords(h)) {
			t.Fatalf("Print of %+v: %q", h, b)
		}
	}
	if printed < 10000 {
		t.Errorf("%d were printed", printed)
	}
}

// fieldsByWords is the block of a header that may be printed.
func fieldsByWords(h api.Header) []byte {
	b := make([]byte, 512)
	copy(b, h.Name)
	copy(b[100:], field(h.Mode, 8)+field(h.Uid, 8)+field(h.Gid, 8)+field(h.Size, 12)+field(h.Mtime, 12))
	b[156] = h.Kind
	copy(b[157:], h.Link)
	copy(b[257:], []string{magicV7, magicUstar, magicGnu}[h.Way])
	if h.Way != 0 {
		copy(b[265:], h.User)
		copy(b[297:], h.Group)
		copy(b[329:], field(h.Major, 8)+field(h.Minor, 8))
	}
	if h.Way == 1 {
		copy(b[345:], h.Prefix)
	}
	if h.Kind == 'S' {
		for i, p := range h.Parts {
			copy(b[386+24*i:], field(p.At, 12)+field(p.Len, 12))
		}
		if h.More {
			b[482] = 1
		}
		copy(b[483:], field(h.Real, 12))
	}
	return sum.Seal(b)
}

// TestHeadersOfOthers takes headers that the library writes.
func TestHeadersOfOthers(t *testing.T) {
	for _, c := range []struct {
		h    tar.Header
		want api.Header
	}{
		{
			tar.Header{Typeflag: tar.TypeReg, Name: "a", Size: 7, Mode: 0o644, Format: tar.FormatUSTAR, ModTime: time.Unix(1, 0)},
			api.Header{Name: "a", Size: 7, Mode: 0o644, Kind: api.File, Way: api.Ustar, Mtime: 1},
		},
		{
			tar.Header{Typeflag: tar.TypeReg, Name: strings.Repeat("d", 90) + "/" + strings.Repeat("n", 90), Uname: "u", Gname: "g", Uid: 5, Gid: 6, Format: tar.FormatUSTAR, ModTime: time.Unix(0, 0)},
			api.Header{Name: strings.Repeat("n", 90), Prefix: strings.Repeat("d", 90), User: "u", Group: "g", Uid: 5, Gid: 6, Kind: api.File, Way: api.Ustar},
		},
		{
			tar.Header{Typeflag: tar.TypeChar, Name: "c", Devmajor: 4, Devminor: 64, Format: tar.FormatUSTAR, ModTime: time.Unix(1<<32, 0)},
			api.Header{Name: "c", Major: 4, Minor: 64, Kind: api.Char, Way: api.Ustar, Mtime: 1 << 32},
		},
		{
			tar.Header{Typeflag: tar.TypeSymlink, Name: "s", Linkname: "a/b", Format: tar.FormatGNU, ModTime: time.Unix(1<<40, 0), Uid: 1 << 40},
			api.Header{Name: "s", Link: "a/b", Kind: api.Soft, Way: api.Gnu, Mtime: 1 << 40, Uid: 1 << 40},
		},
		{
			tar.Header{Typeflag: tar.TypeDir, Name: "d/", Mode: 0o755, Format: tar.FormatGNU, ModTime: time.Unix(-1, 0)},
			api.Header{Name: "d/", Mode: 0o755, Kind: api.Dir, Way: api.Gnu, Mtime: -1},
		},
	} {
		var out bytes.Buffer
		if err := tar.NewWriter(&out).WriteHeader(&c.h); err != nil {
			t.Fatal(err)
		}
		parses(t, c.h.Name, out.Bytes(), c.want, api.OK)
		b, _ := Print(c.want)
		h, err := tar.NewReader(bytes.NewReader(b)).Next()
		if err != nil || h.Typeflag != c.h.Typeflag || h.Name != c.h.Name || h.Linkname != c.h.Linkname || h.Size != c.h.Size || h.ModTime.Unix() != c.h.ModTime.Unix() {
			t.Errorf("%s, printed: %+v, %v", c.h.Name, h, err)
		}
	}
}

func TestNilIsEmpty(t *testing.T) {
	for _, b := range [][]byte{nil, {}} {
		h, e := Parse(b)
		way, isWay := Way(b)
		l, isParts := Parts(b, 0, 1)
		none, isNone := Parts(b, 0, 0)
		if !same(h, api.Header{}) || e != api.ErrShort || way != 0 || isWay || len(l) != 0 || isParts || len(none) != 0 || !isNone {
			t.Errorf("of no bytes: %+v, %v; %d, %v; %v, %v; %v, %v", h, e, way, isWay, l, isParts, none, isNone)
		}
	}
	for _, kind := range []byte{api.File, api.Sparse} {
		for _, l := range [][]api.Part{nil, {}, make([]api.Part, 3)[:0]} {
			prints(t, "no Parts", api.Header{Kind: kind, Way: api.Gnu, Parts: l}, least(kind, api.Gnu), api.OK)
		}
	}
}

func TestWhatIsHandedInStays(t *testing.T) {
	// Behind the length stand bytes that would count if they were read.
	for _, b := range [][]byte{full(), holed(), laid(full(), at{156, "y"}), partBlock(wholeBlock)} {
		for _, n := range []int{0, 30, 265, 511, 512} {
			whole := append(bytes.Clone(b), holed()...)
			was := bytes.Clone(whole)
			part := whole[:n]
			parsesByWords(t, "with bytes behind it", part)
			l, ok := Parts(part, 0, 21)
			if want, isTrue := partsByWords(bytes.Clone(part), 0, 21); !slices.Equal(l, want) || ok != isTrue {
				t.Errorf("%d bytes, with others behind: Parts %v, %v; want %v, %v", n, l, ok, want, isTrue)
			}
			if !bytes.Equal(whole, was) {
				t.Errorf("%d bytes became others", n)
			}
		}
	}
	parts := []api.Part{{At: 1, Len: 2}, {At: 3, Len: 4}, {At: 5, Len: 6}, {At: 0, Len: 0}, {At: -1, Len: -1}}
	was := slices.Clone(parts)
	h := api.Header{Kind: api.Sparse, Way: api.Gnu, Parts: parts[:3]}
	want := laid(least(api.Sparse, api.Gnu), at{386, field(1, 12) + field(2, 12) + field(3, 12) + field(4, 12) + field(5, 12) + field(6, 12)})
	prints(t, "parts behind the last one", h, want, api.OK)
	h.Parts = parts
	refuses(t, "too many", h, api.ErrField)
	if !slices.Equal(parts, was) {
		t.Errorf("parts became %v", parts)
	}
}

func TestWhatComesOutIsNew(t *testing.T) {
	b := holed()
	one, _ := Parse(b)
	other, _ := Parse(b)
	l, _ := Parts(b, 386, 4)
	m, _ := Parts(b, 386, 4)
	copy(b, bytes.Repeat([]byte("x"), wholeBlock))
	for _, parts := range [][]api.Part{one.Parts, l} {
		parts = parts[:cap(parts)]
		for i := range parts {
			parts[i] = api.Part{At: 9, Len: 9}
		}
	}
	if !same(other, holedHeader()) || !slices.Equal(m, holedHeader().Parts) {
		t.Errorf("what was parsed changes: %+v, %v", other, m)
	}

	h := holedHeader()
	first, _ := Print(h)
	second, _ := Print(h)
	copy(first[:cap(first)], bytes.Repeat([]byte("y"), cap(first)))
	h.Parts[0] = api.Part{At: 7, Len: 7}
	if !bytes.Equal(second, holed()) {
		t.Error("what was printed changes")
	}
}
