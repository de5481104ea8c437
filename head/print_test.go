package head

import (
	"bytes"
	"math"
	"slices"
	"strings"
	"testing"

	"mudlark/api"
	"mudlark/sum"
)

// prints holds what is printed of h against what it should be, and against what is parsed of that.
func prints(t *testing.T, name string, h api.Header, want []byte, wrong api.Errno) {
	t.Helper()
	b, e := Print(h)
	if !bytes.Equal(b, want) || e != wrong {
		t.Errorf("%s: Print of %+v = %q, %v; want %q, %v", name, h, b, e, want, wrong)
	}
	if e == api.OK {
		parses(t, name+", printed", b, h, api.OK)
	}
}

// refuses holds that h is not printed, and why.
func refuses(t *testing.T, name string, h api.Header, wrong api.Errno) {
	t.Helper()
	prints(t, name, h, nil, wrong)
}

// least is the block of a header of a kind and a way that has nothing else.
func least(kind byte, way int) []byte {
	const number, long = "0000000\x00", "00000000000\x00"
	b := laid(make([]byte, wholeBlock), at{100, number + number + number + long + long}, at{156, string([]byte{kind})})
	switch way {
	case api.Ustar:
		b = laid(b, at{257, magicUstar}, at{329, number + number})
	case api.Gnu:
		b = laid(b, at{257, magicGnu}, at{329, number + number})
	}
	if kind == api.Sparse {
		b = laid(b, at{483, long})
	}
	return b
}

func TestPrint(t *testing.T) {
	prints(t, "full", fullHeader(), full(), api.OK)
	prints(t, "holed", holedHeader(), holed(), api.OK)

	h := fullHeader()
	h.Way, h.Prefix = api.Gnu, ""
	prints(t, "full, of Gnu", h, laid(full(), at{257, magicGnu}, at{345, strings.Repeat("\x00", 155)}), api.OK)
	h.Way, h.User, h.Group, h.Major, h.Minor = api.V7, "", "", 0, 0
	prints(t, "full, of V7", h, laid(full(), at{257, strings.Repeat("\x00", 255)}), api.OK)
}

func TestPrintEachKind(t *testing.T) {
	for way := -1; way <= 3; way++ {
		for c := range 256 {
			h := api.Header{Kind: byte(c), Way: way}
			switch isKnown := strings.Contains(kinds, string([]byte{byte(c)})); {
			case !isKnown || c == 'S' && way != api.Gnu:
				refuses(t, "kind", h, api.ErrKind)
			case way < 0 || way > 2:
				refuses(t, "way", h, api.ErrField)
			default:
				prints(t, "kind", h, least(byte(c), way), api.OK)
			}
		}
	}
	for _, way := range []int{math.MinInt, -2, 3, 4, 256, 1 << 32, math.MaxInt} {
		refuses(t, "way", api.Header{Name: "a", Kind: api.File, Way: way}, api.ErrField)
	}
}

func TestPrintTexts(t *testing.T) {
	letters := strings.Repeat("n", 512)
	for _, c := range []struct {
		place, wide int
		ways        []int // that have it
		value       func(h *api.Header) *string
	}{
		{0, 100, []int{api.V7, api.Ustar, api.Gnu}, func(h *api.Header) *string { return &h.Name }},
		{157, 100, []int{api.V7, api.Ustar, api.Gnu}, func(h *api.Header) *string { return &h.Link }},
		{265, 32, []int{api.Ustar, api.Gnu}, func(h *api.Header) *string { return &h.User }},
		{297, 32, []int{api.Ustar, api.Gnu}, func(h *api.Header) *string { return &h.Group }},
		{345, 155, []int{api.Ustar}, func(h *api.Header) *string { return &h.Prefix }},
	} {
		for way := range 3 {
			for _, text := range []string{
				"", "x", "\xff\x80 \x01\n", letters[:c.wide-1], letters[:c.wide],
				letters[:c.wide+1], letters, "\x00", "a\x00", "a\x00b", letters[:c.wide-1] + "\x00",
			} {
				h := api.Header{Kind: api.Dir, Way: way}
				*c.value(&h) = text
				switch {
				case len(text) > c.wide || strings.Contains(text, "\x00"):
					refuses(t, "text", h, api.ErrText)
				case text != "" && !slices.Contains(c.ways, way):
					refuses(t, "text that is not there", h, api.ErrField)
				default:
					prints(t, "text", h, laid(least(api.Dir, way), at{c.place, text}), api.OK)
				}
			}
		}
	}
}

// field is a number as it is printed; nothing, if it can't be.
func field(n, wide int) string {
	if n >= 0 && n < 1<<(3*wide-3) {
		digits := bytes.Repeat([]byte("0"), wide)
		digits[wide-1] = 0
		for i := wide - 2; n > 0; i-- {
			digits[i] = '0' + byte(n&7)
			n >>= 3
		}
		return string(digits)
	}
	most := 1<<62 - 1
	if wide == 12 {
		most = 1 << 62
	}
	if n < -1<<62 || n > most {
		return ""
	}
	return bits(n, wide)
}

// edges are numbers about those from which on there is another answer.
func edges() []int {
	l := []int{math.MinInt, math.MaxInt}
	for _, n := range []int{0, 1, 7, 8, 1 << 18, 1 << 21, 1 << 31, 1 << 32, 1 << 33, 1 << 40, 1 << 55, 1 << 56, 1 << 62} {
		l = append(l, n-1, n, n+1, 1-n, -n, -n-1)
	}
	return l
}

func TestPrintNumbers(t *testing.T) {
	for _, f := range numberFields {
		for _, n := range edges() {
			h := holedHeader()
			*f.value(&h) = n
			digits := field(n, f.wide)
			if digits == "" || n < f.least || n > f.most {
				refuses(t, f.name, h, api.ErrField)
				continue
			}
			prints(t, f.name, h, laid(holed(), at{f.place, digits}), api.OK)
		}
	}
}

func TestPrintWhatIsNotThere(t *testing.T) {
	for _, c := range []struct {
		name string
		h    api.Header
	}{
		{"User of V7", api.Header{User: "u"}},
		{"Group of V7", api.Header{Group: "g"}},
		{"Major of V7", api.Header{Major: 1}},
		{"Minor of V7", api.Header{Minor: 1}},
		{"Major of V7, below 0", api.Header{Major: -1}},
		{"Minor of V7, below 0", api.Header{Minor: -1}},
		{"Prefix of V7", api.Header{Prefix: "p"}},
		{"Prefix of Gnu", api.Header{Way: api.Gnu, Prefix: "p"}},
		{"Prefix of Gnu, S", api.Header{Way: api.Gnu, Kind: api.Sparse, Prefix: "p"}},
		{"Parts of Gnu", api.Header{Way: api.Gnu, Parts: []api.Part{{At: 0, Len: 1}}}},
		{"Parts of Ustar", api.Header{Way: api.Ustar, Parts: []api.Part{{At: 0, Len: 1}}}},
		{"Parts of V7", api.Header{Parts: []api.Part{{At: 0, Len: 1}}}},
		{"a Part of nothing", api.Header{Way: api.Gnu, Parts: []api.Part{{}}}},
		{"More of Gnu", api.Header{Way: api.Gnu, More: true}},
		{"More of V7", api.Header{More: true}},
		{"Real of Gnu", api.Header{Way: api.Gnu, Real: 1}},
		{"Real of Gnu, below 0", api.Header{Way: api.Gnu, Real: -1}},
		{"Real of Ustar", api.Header{Way: api.Ustar, Real: 1}},
		{"Real of V7", api.Header{Real: 1}},
	} {
		if c.h.Kind != 0 {
			refuses(t, c.name, c.h, api.ErrField)
			continue
		}
		for _, kind := range strings.ReplaceAll(kinds, "S", "") {
			c.h.Kind = byte(kind)
			refuses(t, c.name, c.h, api.ErrField)
		}
	}
}

func TestPrintParts(t *testing.T) {
	h := api.Header{Kind: api.Sparse, Way: api.Gnu}
	for n := range 7 {
		b := least(api.Sparse, api.Gnu)
		h.Parts = nil
		for i := range n {
			h.Parts = append(h.Parts, api.Part{At: i, Len: 1 << i})
			copy(b[386+24*i:], field(i, 12)+field(1<<i, 12))
		}
		if n > 4 {
			refuses(t, "more than four", h, api.ErrField)
			continue
		}
		prints(t, "so many", h, sum.Seal(b), api.OK)
		for i := range n {
			was := h.Parts[i]
			h.Parts[i] = api.Part{}
			refuses(t, "one that is nothing", h, api.ErrField)
			h.Parts[i] = was
		}
	}
	for _, n := range edges() {
		for _, p := range []api.Part{{At: n}, {Len: n}, {At: n, Len: 5}, {At: 5, Len: n}} {
			h.Parts = []api.Part{{At: 1, Len: 1}, p}
			first, other := field(p.At, 12), field(p.Len, 12)
			if n < 0 || first == "" || other == "" || p == (api.Part{}) {
				refuses(t, "part", h, api.ErrField)
				continue
			}
			b := laid(least(api.Sparse, api.Gnu), at{386, field(1, 12) + field(1, 12) + first + other})
			prints(t, "part", h, b, api.OK)
		}
	}
}

func TestPrintMore(t *testing.T) {
	for _, l := range [][]api.Part{nil, {{At: 0, Len: 1}}, holedHeader().Parts} {
		h := api.Header{Kind: api.Sparse, Way: api.Gnu, Parts: l}
		without, _ := Print(h)
		h.More = true
		prints(t, "More", h, laid(without, at{482, "\x01"}), api.OK)
	}
}

// Of several errors the one that is named first is told.
func TestPrintErrors(t *testing.T) {
	long := strings.Repeat("n", 200)
	for _, c := range []struct {
		name string
		h    api.Header
		want api.Errno
	}{
		{"nothing", api.Header{}, api.ErrKind},
		{"no kind, a text, a way", api.Header{Kind: 'y', Way: 9, Name: long, Mode: -1}, api.ErrKind},
		{"S of Ustar, a text, a number", api.Header{Kind: api.Sparse, Way: api.Ustar, Name: long, Mode: -1}, api.ErrKind},
		{"S of no way", api.Header{Kind: api.Sparse, Way: 3}, api.ErrKind},
		{"a text, no way", api.Header{Kind: api.File, Way: 9, Name: long}, api.ErrText},
		{"a text, a number", api.Header{Kind: api.File, Way: api.Ustar, Link: long, Size: -1}, api.ErrText},
		{"User of V7, too long", api.Header{Kind: api.File, User: long}, api.ErrText},
		{"Group of V7, with a 00", api.Header{Kind: api.File, Group: "\x00"}, api.ErrText},
		{"Prefix of Gnu, too long", api.Header{Kind: api.File, Way: api.Gnu, Prefix: long}, api.ErrText},
		{"User of V7, and a text behind it", api.Header{Kind: api.File, User: "u", Prefix: long}, api.ErrText},
		{"a number, and a text", api.Header{Kind: api.File, Way: api.Ustar, Mtime: math.MinInt, Prefix: long}, api.ErrText},
		{"Parts, and a text", api.Header{Kind: api.Sparse, Way: api.Gnu, Parts: make([]api.Part, 9), Group: long}, api.ErrText},
		{"no way", api.Header{Kind: api.File, Way: 9, User: "u"}, api.ErrField},
	} {
		refuses(t, c.name, c.h, c.want)
	}
}

func TestExamples(t *testing.T) {
	if _, e := Parse(make([]byte, 512)); int(e) != 30 {
		t.Errorf("Parse of 512 noughts: %v", e)
	}
	b, e := Print(api.Header{Name: "a", Kind: api.File, Way: api.Ustar})
	if e != 0 || len(b) != 512 || b[156] != 0x30 {
		t.Errorf("Print of a File a, Ustar: %q, %v", b, e)
	}
}

// A header whose sum is another one, as the document tells of it.
func TestAnotherSum(t *testing.T) {
	b, _ := Print(fullHeader())
	for place := range wholeBlock {
		other := bytes.Clone(b)
		other[place] ^= 2
		parses(t, "a bit is another one", other, api.Header{}, api.ErrSum)
	}
}
