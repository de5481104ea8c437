package head

import (
	"bytes"
	"math"
	"reflect"
	"slices"
	"strings"
	"testing"

	"mudlark/api"
	"mudlark/sum"
)

const wholeBlock = 512

// The MAGICs, as the chapter has them.
const (
	magicV7    = "\x00\x00\x00\x00\x00\x00\x00\x00"
	magicUstar = "\x75\x73\x74\x61\x72\x00\x30\x30"
	magicGnu   = "\x75\x73\x74\x61\x72\x20\x20\x00"
)

const kinds = "01234567SxgLK"

// at is bytes at a place.
type at struct {
	place int
	bytes string
}

// laid is b with others at their places, and the sum of them all.
func laid(b []byte, others ...at) []byte {
	b = bytes.Clone(b)
	for _, o := range others {
		copy(b[o.place:], o.bytes)
	}
	return sum.Seal(b)
}

// plain is a header's block of a kind, with no text but its name, and all numbers 0 but the size.
func plain(kind byte, magic string) []byte {
	return laid(make([]byte, wholeBlock), at{0, "a"}, at{124, "00000000005"}, at{156, string(kind)}, at{257, magic})
}

// full is a Ustar block that has something in each field.
func full() []byte {
	return laid(make([]byte, wholeBlock),
		at{0, "a/name"}, at{100, "0000644\x00"}, at{108, "0001750\x00"}, at{116, "0000144\x00"},
		at{124, "00000000012\x00"}, at{136, "14000000000\x00"}, at{156, "0"}, at{157, "a/link"}, at{257, magicUstar},
		at{265, "user"}, at{297, "group"}, at{329, "0000003\x00"}, at{337, "0000004\x00"}, at{345, "a/prefix"})
}

// holed is a Gnu block of kind S that has something in each field.
func holed() []byte {
	return laid(full(), at{156, "S"}, at{257, magicGnu}, at{345, strings.Repeat("\x00", 155)},
		at{386, "00000000000\x0000000001000\x00"}, at{410, "00000010000\x0000000002000\x00"},
		at{434, "00000020000\x0000000000000\x00"}, at{458, "00000030000\x0000000000001\x00"},
		at{482, "\x01"}, at{483, "00000040000\x00"})
}

// fullHeader and holedHeader are what they tell.
func fullHeader() api.Header {
	return api.Header{
		Name: "a/name", Mode: 0o644, Uid: 1000, Gid: 100, Size: 10, Mtime: 0o14000000000, Kind: api.File, Link: "a/link",
		Way: api.Ustar, User: "user", Group: "group", Major: 3, Minor: 4, Prefix: "a/prefix",
	}
}

func holedHeader() api.Header {
	h := fullHeader()
	h.Kind, h.Way, h.Prefix = api.Sparse, api.Gnu, ""
	h.Parts = []api.Part{{At: 0, Len: 512}, {At: 4096, Len: 1024}, {At: 8192, Len: 0}, {At: 12288, Len: 1}}
	h.More, h.Real = true, 16384
	return h
}

// same says whether headers are; a list that is nil and one that is empty are the same thing.
func same(a, b api.Header) bool {
	if len(a.Parts) == 0 && len(b.Parts) == 0 {
		a.Parts, b.Parts = nil, nil
	}
	return reflect.DeepEqual(a, b)
}

// parses holds what is parsed of b against what it should be.
func parses(t *testing.T, name string, b []byte, want api.Header, wrong api.Errno) {
	t.Helper()
	if h, e := Parse(b); !same(h, want) || e != wrong {
		t.Errorf("%s: Parse = %+v, %v; want %+v, %v", name, h, e, want, wrong)
	}
}

func TestKnown(t *testing.T) {
	for c := range 256 {
		want := strings.IndexByte(kinds, byte(c)) >= 0
		if ok := Known(byte(c)); ok != want {
			t.Errorf("Known(%02x) = %v", c, ok)
		}
	}
}

func TestWay(t *testing.T) {
	for way, magic := range []string{magicV7, magicUstar, magicGnu} {
		// Nothing but the MAGIC counts: neither a sum, nor what is beside it.
		for _, beside := range []string{"\x00", "u", " ", "\xff"} {
			b := bytes.Repeat([]byte(beside), wholeBlock)
			copy(b[257:], magic)
			if n, ok := Way(b); n != way || !ok {
				t.Errorf("Way of %q in %q = %d, %v; want %d", magic, beside, n, ok, way)
			}
		}
		b := make([]byte, wholeBlock)
		copy(b[257:], magic)
		for i := 257; i < 265; i++ {
			for c := range 256 {
				other := bytes.Clone(b)
				other[i] = byte(c)
				n, ok := Way(other)
				if isWay := other[i] == b[i]; ok != isWay || isWay && n != way || !isWay && n != 0 {
					t.Errorf("Way of %q = %d, %v", other[257:265], n, ok)
				}
			}
		}
	}
}

func TestNoWay(t *testing.T) {
	for _, magic := range []string{
		"ustar\x00\x00\x00", "ustar\x00  ", "ustar  0", "ustar   ", "ustar 00", "ustar00\x00", "ustar\x0000"[1:] + "0",
		"USTAR\x0000", "\x00ustar\x000", "\x00ustar  ", "        ", "00000000", "\x00\x00\x00\x00\x00\x0000", "\xff\xff\xff\xff\xff\xff\xff\xff",
	} {
		b := make([]byte, wholeBlock)
		copy(b[257:], magic)
		if n, ok := Way(b); n != 0 || ok {
			t.Errorf("Way of %q = %d, %v", magic, n, ok)
		}
	}
}

// wrongLengths are those of bytes that are no block.
var wrongLengths = []int{0, 1, 156, 157, 257, 264, 265, 500, 511, 513, 1024, 5120}

func TestWrongLengths(t *testing.T) {
	for _, magic := range []string{magicV7, magicUstar, magicGnu} {
		whole := append(plain('0', magic), make([]byte, 5120)...)
		for _, n := range wrongLengths {
			if way, ok := Way(whole[:n]); way != 0 || ok {
				t.Errorf("Way of %d bytes with %q = %d, %v", n, magic, way, ok)
			}
			parses(t, "too many, or too few", whole[:n], api.Header{}, api.ErrShort)
		}
	}
}

func TestParse(t *testing.T) {
	parses(t, "full", full(), fullHeader(), api.OK)
	parses(t, "holed", holed(), holedHeader(), api.OK)

	// The same bytes, laid another way: what a way does not have is nothing, whatever stands there.
	h := fullHeader()
	h.Way, h.Prefix = api.Gnu, ""
	parses(t, "full, of Gnu", laid(full(), at{257, magicGnu}), h, api.OK)
	h.Way, h.User, h.Group, h.Major, h.Minor = api.V7, "", "", 0, 0
	parses(t, "full, of V7", laid(full(), at{257, magicV7}), h, api.OK)

	h = holedHeader()
	h.Kind, h.Parts, h.More, h.Real = api.File, nil, false, 0
	parses(t, "holed, of a File", laid(holed(), at{156, "0"}), h, api.OK)
}

func TestParseEachKind(t *testing.T) {
	for way, magic := range []string{magicV7, magicUstar, magicGnu} {
		for c := range 256 {
			b := plain(byte(c), magic)
			want, wrong := api.Header{Name: "a", Size: 5, Kind: byte(c), Way: way}, api.OK
			if c == 0 {
				want.Kind = api.File
			} else if !strings.Contains(kinds, string([]byte{byte(c)})) || c == 'S' && way != api.Gnu {
				want, wrong = api.Header{}, api.ErrKind
			}
			parses(t, magic+string([]byte{byte(c)}), b, want, wrong)
		}
	}
}

func TestParseTexts(t *testing.T) {
	letters := strings.Repeat("n", 512)
	for _, c := range []struct {
		place, wide int
		value       func(h *api.Header) *string
	}{
		{0, 100, func(h *api.Header) *string { return &h.Name }},
		{157, 100, func(h *api.Header) *string { return &h.Link }},
		{265, 32, func(h *api.Header) *string { return &h.User }},
		{297, 32, func(h *api.Header) *string { return &h.Group }},
		{345, 155, func(h *api.Header) *string { return &h.Prefix }},
	} {
		for _, text := range []string{
			"", "x", letters[:c.wide-1], letters[:c.wide], "ab\x00cd", "\x00ab", "\xff\x80 \x01\n",
			letters[:c.wide-1] + "\x00", letters[:c.wide-2] + "\x00n",
		} {
			field := (text + strings.Repeat("\x00", 512))[:c.wide]
			want := fullHeader()
			*c.value(&want), _, _ = strings.Cut(text, "\x00")
			parses(t, text, laid(full(), at{c.place, field}), want, api.OK)
		}
	}
}

// numberField is a number's field, and the bounds of what it may tell.
type numberField struct {
	name        string
	place, wide int
	least, most int
	value       func(h *api.Header) *int
}

var numberFields = []numberField{
	{"Mode", 100, 8, 0, 1 << 62, func(h *api.Header) *int { return &h.Mode }},
	{"Uid", 108, 8, 0, 1 << 62, func(h *api.Header) *int { return &h.Uid }},
	{"Gid", 116, 8, 0, 1 << 62, func(h *api.Header) *int { return &h.Gid }},
	{"Size", 124, 12, 0, 1 << 40, func(h *api.Header) *int { return &h.Size }},
	{"Mtime", 136, 12, -1 << 62, 1 << 62, func(h *api.Header) *int { return &h.Mtime }},
	{"Major", 329, 8, 0, 1 << 62, func(h *api.Header) *int { return &h.Major }},
	{"Minor", 337, 8, 0, 1 << 62, func(h *api.Header) *int { return &h.Minor }},
	{"Real", 483, 12, 0, 1 << 40, func(h *api.Header) *int { return &h.Real }},
}

// bits is a number as so many bytes of bits, the highest one set.
func bits(n, wide int) string {
	b := make([]byte, wide)
	for i := range b {
		b[wide-1-i] = byte(n >> min(8*i, 63))
	}
	b[0] |= 0x80
	return string(b)
}

// tellsNumber is a field's bytes, and the number that they tell.
type tellsNumber struct {
	field string
	n     int
	ok    bool
}

func numbersTold(wide int) []tellsNumber {
	l := []tellsNumber{
		{strings.Repeat("\x00", wide), 0, true},
		{strings.Repeat(" ", wide), 0, true},
		{strings.Repeat("0", wide), 0, true},
		{strings.Repeat(" ", wide-1) + "7", 7, true},
		{"17" + strings.Repeat(" \x00", wide/2-1), 15, true},
		{strings.Repeat("7", wide-1) + "\x00", 1<<(3*wide-3) - 1, true},
		{strings.Repeat("7", wide), 1<<(3*wide) - 1, true},
		{bits(0, wide), 0, true},
		{bits(9, wide), 9, true},
		{bits(1<<40, wide), 1 << 40, true},
		{bits(1<<40+1, wide), 1<<40 + 1, true},
		{bits(1<<62-1, wide), 1<<62 - 1, true},
		{bits(-1, wide), -1, true},
		{bits(-1<<40, wide), -1 << 40, true},
		{bits(-1<<62, wide), -1 << 62, true},
		{strings.Repeat("0", wide-1) + "8", 0, false},
		{"x" + strings.Repeat("0", wide-1), 0, false},
		{"-" + strings.Repeat("0", wide-2) + "1", 0, false},
		{"1" + strings.Repeat(" ", wide-2) + "1", 0, false},
		{"\x00" + strings.Repeat("0", wide-1), 0, false},
		{"\x7f" + strings.Repeat("\x00", wide-1), 0, false},
	}
	if wide == 12 {
		l = append(l, []tellsNumber{
			{"20000000000000"[:12], 2 << 33, true},
			{bits(1<<62, wide), 1 << 62, true},
			{bits(1<<62+1, wide), 0, false},
			{bits(math.MaxInt, wide), 0, false},
			{bits(-1<<62-1, wide), 0, false},
			{bits(math.MinInt, wide), 0, false},
			{"\x80\x00\x00\x01" + strings.Repeat("\x00", 8), 0, false},
		}...)
	}
	return l
}

func TestParseNumbers(t *testing.T) {
	for _, f := range numberFields {
		for _, c := range numbersTold(f.wide) {
			want, wrong := holedHeader(), api.OK
			*f.value(&want) = c.n
			if !c.ok || c.n < f.least || c.n > f.most {
				want, wrong = api.Header{}, api.ErrField
			}
			parses(t, f.name+" "+c.field, laid(holed(), at{f.place, c.field}), want, wrong)
		}
	}
}

// What a way or a kind does not have may be anything.
func TestParseWhatIsNotThere(t *testing.T) {
	anything := strings.Repeat("\xffx", 256)
	h := fullHeader()
	h.Way, h.User, h.Group, h.Major, h.Minor, h.Prefix = api.V7, "", "", 0, 0, ""
	parses(t, "V7", laid(full(), at{257, magicV7}, at{265, anything[:247]}), h, api.OK)

	h = fullHeader()
	h.Way, h.Prefix = api.Gnu, ""
	parses(t, "Gnu", laid(full(), at{257, magicGnu}, at{345, anything[:167]}), h, api.OK)

	parses(t, "Ustar", laid(full(), at{500, anything[:12]}), fullHeader(), api.OK)
	parses(t, "Gnu, S", laid(holed(), at{345, anything[:41]}, at{495, anything[:17]}), holedHeader(), api.OK)
}

func TestParseParts(t *testing.T) {
	part := func(a, l string) string {
		return (a + strings.Repeat("\x00", 12))[:12] + (l + strings.Repeat("\x00", 12))[:12]
	}
	none := part("", "")
	for _, c := range []struct {
		bytes string
		want  []api.Part
		wrong api.Errno
	}{
		{none, nil, api.OK},
		{part("0", "0"), nil, api.OK},
		{part("00000000000 ", bits(0, 12)), nil, api.OK},
		{part("1", ""), []api.Part{{At: 1}}, api.OK},
		{part("", "1"), []api.Part{{Len: 1}}, api.OK},
		{part("7", "10") + none, []api.Part{{At: 7, Len: 8}}, api.OK},
		{part("7", "10") + part("2", "3"), []api.Part{{At: 7, Len: 8}, {At: 2, Len: 3}}, api.OK},
		{part("1", "1") + part("1", "1") + part("1", "1"), []api.Part{{At: 1, Len: 1}, {At: 1, Len: 1}, {At: 1, Len: 1}}, api.OK},
		{part(bits(1<<62, 12), bits(1<<41, 12)), []api.Part{{At: 1 << 62, Len: 1 << 41}}, api.OK},
		// Behind the end of them stands what is none.
		{part("1", "1") + none + part("x", "1"), []api.Part{{At: 1, Len: 1}}, api.OK},
		{none + part("x", "y") + part(bits(-1, 12), "1") + part("1", "1"), nil, api.OK},

		{part("x", ""), nil, api.ErrField},
		{part("", "x"), nil, api.ErrField},
		{part("0", "8"), nil, api.ErrField},
		{part(bits(-1, 12), "1"), nil, api.ErrField},
		{part("1", bits(-1, 12)), nil, api.ErrField},
		{part("1", bits(1<<62+1, 12)), nil, api.ErrField},
		{part("1", "1") + part("1", "1") + part("1", "1") + part("1", "x"), nil, api.ErrField},
	} {
		field := (c.bytes + strings.Repeat("\x00", 96))[:96]
		want := holedHeader()
		want.Parts = c.want
		if c.wrong != api.OK {
			want = api.Header{}
		}
		parses(t, c.bytes, laid(holed(), at{386, field}), want, c.wrong)
	}
}

func TestParseMore(t *testing.T) {
	for c := range 256 {
		want := holedHeader()
		want.More = c != 0
		parses(t, "More", laid(holed(), at{482, string([]byte{byte(c)})}), want, api.OK)
	}
}

// Of several errors the one that is named first is told.
func TestParseErrors(t *testing.T) {
	wrongSum := func(b []byte) []byte {
		b = bytes.Clone(b)
		b[148] ^= 1
		return b
	}
	noKind, noMagic, noMode, noReal := at{156, "8"}, at{257, "ustar!"}, at{100, "x"}, at{483, "x"}
	for _, c := range []struct {
		name string
		b    []byte
		want api.Errno
	}{
		{"nothing", nil, api.ErrShort},
		{"noughts", make([]byte, wholeBlock), api.ErrSum},
		{"511 noughts", make([]byte, wholeBlock-1), api.ErrShort},
		{"sealed noughts", sum.Seal(nil), api.OK},
		{"two blocks", append(full(), full()...), api.ErrShort},
		{"another sum", wrongSum(full()), api.ErrSum},
		{"another sum, no kind, no way", wrongSum(laid(full(), noKind, noMagic, noMode)), api.ErrSum},
		{"no kind", laid(full(), noKind), api.ErrKind},
		{"no kind, no way, no mode", laid(full(), noKind, noMagic, noMode), api.ErrKind},
		{"no way", laid(full(), noMagic), api.ErrField},
		{"no way, S", laid(full(), noMagic, at{156, "S"}), api.ErrField},
		{"no mode", laid(full(), noMode), api.ErrField},
		{"S of Ustar", laid(holed(), at{257, magicUstar}), api.ErrKind},
		{"S of V7", laid(holed(), at{257, magicV7}), api.ErrKind},
		{"S of Ustar, no mode", laid(holed(), at{257, magicUstar}, noMode), api.ErrField},
		{"S of Ustar, no Major", laid(holed(), at{257, magicUstar}, at{329, "x"}), api.ErrField},
		{"S of V7, no Major", laid(holed(), at{257, magicV7}, at{329, "x"}), api.ErrKind},
		{"S of Ustar, no Real", laid(holed(), at{257, magicUstar}, noReal), api.ErrKind},
		{"S of V7, no Parts", laid(holed(), at{257, magicV7}, at{386, "x"}), api.ErrKind},
		{"S, no Real", laid(holed(), noReal), api.ErrField},
		{"S, no Parts", laid(holed(), at{386, "x"}), api.ErrField},
		{"S, no Real, no Parts", laid(holed(), at{386, "x"}, noReal), api.ErrField},
	} {
		h, e := Parse(c.b)
		if e != c.want || e != api.OK && !same(h, api.Header{}) {
			t.Errorf("%s: Parse = %+v, %v; want %v", c.name, h, e, c.want)
		}
	}
}

// A sum of bytes with a sign is one, too.
func TestParseSigned(t *testing.T) {
	b := laid(full(), at{0, "\xff\xfe"})
	copy(b[148:156], sumField(sum.Signed(b)))
	want := fullHeader()
	want.Name = "\xff\xfename"
	parses(t, "signed", b, want, api.OK)
	copy(b[148:156], sumField(sum.Signed(b)+1))
	parses(t, "signed, one more", b, api.Header{}, api.ErrSum)
}

// sumField is a sum's digits, as they stand in a block.
func sumField(n int) string {
	digits := []byte("000000\x00 ")
	for i := range 6 {
		digits[5-i] = '0' + byte(n>>(3*i)&7)
	}
	return string(digits)
}

// partBlock is a block of parts, each another one: At is its place in the block, Len 1.
func partBlock(n int) []byte {
	b := make([]byte, n)
	for i := 0; i+24 <= n; i += 24 {
		copy(b[i:], bits(i, 12)+bits(1, 12))
	}
	return b
}

func TestParts(t *testing.T) {
	all := partBlock(wholeBlock)
	for _, c := range []struct {
		name string
		b    []byte
		at   int
		n    int
		want []int
		ok   bool
	}{
		{"none", all, 0, 0, nil, true},
		{"below none", all, 0, -1, nil, true},
		{"far below none", all, 0, math.MinInt, nil, true},
		{"one", all, 0, 1, []int{0}, true},
		{"two", all, 24, 2, []int{24, 48}, true},
		{"20", all, 0, 20, places(0, 20), true},
		{"21", all, 0, 21, places(0, 21), true},
		{"22 are 21", all, 0, 22, places(0, 21), true},
		{"many are 21", all, 0, math.MaxInt, places(0, 21), true},
		{"below the block", all, -1, 2, []int{0, 24}, true},
		{"far below the block", all, math.MinInt, 2, []int{0, 24}, true},
		{"up to the end", all, 480, 1, []int{480}, true},
		{"beyond the end", all, 480, 2, nil, false},
		{"not a whole one", all, 504, 1, nil, false},
		{"not a whole one, none", all, 504, 0, nil, true},
		{"behind it", all, 512, 1, nil, false},
		{"behind it, none", all, 512, 0, nil, true},
		{"far behind it", all, math.MaxInt, 1, nil, false},
		{"far behind it, none", all, math.MaxInt, 0, nil, true},

		{"nothing", nil, 0, 1, nil, false},
		{"nothing, none", nil, 0, 0, nil, true},
		{"23 bytes", all[:23], 0, 1, nil, false},
		{"24 bytes", all[:24], 0, 1, []int{0}, true},
		{"25 bytes", all[:25], 0, 1, []int{0}, true},
		{"24 bytes, two", all[:24], 0, 2, nil, false},
		{"47 bytes, two", all[:47], 0, 2, nil, false},
		{"48 bytes, two", all[:48], 0, 2, []int{0, 24}, true},
		{"48 bytes, behind them", all[:48], 49, 1, nil, false},

		{"long, 21", partBlock(2048), 0, 30, places(0, 21), true},
		{"long, behind a block", partBlock(2048)[16:], 512, 3, places(528, 3), true},
		{"long, far behind a block", partBlock(4096)[16:], 4000, 3, places(528, 3), true},
		{"long, not long enough", partBlock(600)[16:], 512, 4, nil, false},
	} {
		l, ok := Parts(c.b, c.at, c.n)
		var want []api.Part
		for _, i := range c.want {
			want = append(want, api.Part{At: i, Len: 1})
		}
		if !slices.Equal(l, want) || ok != c.ok {
			t.Errorf("%s: Parts = %v, %v; want %v, %v", c.name, l, ok, want, c.ok)
		}
	}
}

// places are so many parts' ones, from one on.
func places(from, n int) []int {
	var l []int
	for i := range n {
		l = append(l, from+24*i)
	}
	return l
}
