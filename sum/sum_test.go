package sum

import (
	"archive/tar"
	"bytes"
	"fmt"
	"strings"
	"testing"
	"time"
)

const wholeBlock = 512

// filled is so many bytes, all the same.
func filled(c byte, n int) []byte {
	return bytes.Repeat([]byte{c}, n)
}

// told is a block of one byte all over, with a SUM of eight.
func told(c byte, field string) []byte {
	b := filled(c, wholeBlock)
	copy(b[148:156], field)
	return b
}

// with is b with another byte at a place.
func with(b []byte, place int, c byte) []byte {
	other := bytes.Clone(b)
	other[place] = c
	return other
}

// unsignedByWords and signedByWords are the sums as the chapter has them.
func unsignedByWords(b []byte) int {
	n := 0
	for i, c := range b {
		if i < 148 || i > 155 {
			n += int(c)
		} else {
			n += 0x20
		}
	}
	return n
}

func signedByWords(b []byte) int {
	n := unsignedByWords(b)
	for i, c := range b {
		if c > 0x7f && (i < 148 || i > 155) {
			n -= 256
		}
	}
	return n
}

func TestSums(t *testing.T) {
	for _, c := range []struct {
		name             string
		b                []byte
		unsigned, signed int
	}{
		{"nothing", nil, 0, 0},
		{"a nought", []byte{0}, 0, 0},
		{"a one", []byte{1}, 1, 1},
		{"7f", []byte{0x7f}, 127, 127},
		{"80", []byte{0x80}, 128, -128},
		{"81", []byte{0x81}, 129, -127},
		{"ff", []byte{0xff}, 255, -1},
		{"7f and 80", []byte{0x7f, 0x80}, 255, -1},
		{"1, 2 and 3", []byte{1, 2, 3}, 6, 6},

		{"512 noughts", filled(0, 512), 256, 256},
		{"512 ones", filled(1, 512), 504 + 256, 504 + 256},
		{"512 blanks", filled(' ', 512), 512 * 32, 512 * 32},
		{"512 of 7f", filled(0x7f, 512), 504*127 + 256, 504*127 + 256},
		{"512 of 80", filled(0x80, 512), 504*128 + 256, -504*128 + 256},
		{"512 of ff", filled(0xff, 512), 504*255 + 256, -504 + 256},
		{"a SUM of digits", told(0, "001234\x00 "), 256, 256},
		{"a SUM of ff", told(0, "\xff\xff\xff\xff\xff\xff\xff\xff"), 256, 256},

		{"up to the SUM", filled(0xff, 148), 148 * 255, -148},
		{"a byte of the SUM", filled(0xff, 149), 148*255 + 32, -148 + 32},
		{"two bytes of the SUM", filled(0, 150), 64, 64},
		{"but a byte of the SUM", filled(0xff, 155), 148*255 + 7*32, -148 + 7*32},
		{"all of the SUM", filled(0xff, 156), 148*255 + 256, -148 + 256},
		{"a byte behind the SUM", filled(0xff, 157), 149*255 + 256, -149 + 256},
		{"511 bytes", filled(1, 511), 503 + 256, 503 + 256},
		{"513 bytes", filled(1, 513), 505 + 256, 505 + 256},
		{"two blocks", filled(1, 1024), 1016 + 256, 1016 + 256},
		{"many bytes", filled(0xff, 1<<20), (1<<20-8)*255 + 256, -(1<<20 - 8) + 256},
	} {
		if n := Unsigned(c.b); n != c.unsigned {
			t.Errorf("%s: Unsigned = %d; want %d", c.name, n, c.unsigned)
		}
		if n := Signed(c.b); n != c.signed {
			t.Errorf("%s: Signed = %d; want %d", c.name, n, c.signed)
		}
	}
}

func TestSumsOfEachLength(t *testing.T) {
	var b []byte
	for i := range 1600 {
		if n, want := Unsigned(b), unsignedByWords(b); n != want {
			t.Fatalf("%d bytes: Unsigned = %d; want %d", i, n, want)
		}
		if n, want := Signed(b), signedByWords(b); n != want {
			t.Fatalf("%d bytes: Signed = %d; want %d", i, n, want)
		}
		b = append(b, byte(i*i+7*i+200))
	}
}

func TestSumsOfEachByte(t *testing.T) {
	for place := range wholeBlock {
		for c := range 256 {
			b := with(filled(0, wholeBlock), place, byte(c))
			unsigned, signed := 256+c, 256+c
			if c > 0x7f {
				signed -= 256
			}
			if place >= 148 && place <= 155 {
				unsigned, signed = 256, 256
			}
			if n := Unsigned(b); n != unsigned {
				t.Fatalf("%02x at %d: Unsigned = %d; want %d", c, place, n, unsigned)
			}
			if n := Signed(b); n != signed {
				t.Fatalf("%02x at %d: Signed = %d; want %d", c, place, n, signed)
			}
		}
	}
}

func TestTold(t *testing.T) {
	for _, c := range []struct {
		field string
		want  int
		ok    bool
	}{
		{"000400\x00 ", 256, true},
		{"0000400\x00", 256, true},
		{"   400\x00 ", 256, true},
		{"00000400", 256, true},
		{"400     ", 256, true},
		{"400\x00\x00\x00\x00\x00", 256, true},
		{"  400 \x00 ", 256, true},
		{"     400", 256, true},
		{"77777777", 0o77777777, true},
		{"10000000", 0o10000000, true},
		{"00000001", 1, true},
		{"00000000", 0, true},
		{"        ", 0, true},
		{"\x00\x00\x00\x00\x00\x00\x00\x00", 0, true},
		{" \x00 \x00 \x00 \x00", 0, true},

		{"\x00000400 ", 0, false},
		{"000400\x001", 0, false},
		{"0004 00\x00", 0, false},
		{"000800\x00 ", 0, false},
		{"000 400a", 0, false},
		{"a00400\x00 ", 0, false},
		{"-00400\x00 ", 0, false},
		{"+00400\x00 ", 0, false},
		{"0x0400\x00 ", 0, false},
		{"000400\x00\x01", 0, false},
		{"\t00400\x00 ", 0, false},
		// No number of bits, though the field of another number may be one.
		{"\x80\x00\x00\x00\x00\x00\x01\x00", 0, false},
		{"\xff\xff\xff\xff\xff\xff\xff\xff", 0, false},
	} {
		// Beside the SUM stand digits, and what is none: neither belongs to it.
		for _, beside := range []byte{0, ' ', '1', '9', 0xff} {
			if n, ok := Told(told(beside, c.field)); n != c.want || ok != c.ok {
				t.Errorf("Told of %q in %02x = %d, %v; want %d, %v", c.field, beside, n, ok, c.want, c.ok)
			}
		}
	}
}

func TestToldOfEachPlace(t *testing.T) {
	b := told('1', "        ")
	for place := range wholeBlock {
		n, ok := Told(with(b, place, '9'))
		if inside := place >= 148 && place <= 155; n != 0 || ok == inside {
			t.Errorf("9 at %d: %d, %v", place, n, ok)
		}
	}
	for place := 148; place <= 155; place++ {
		if n, ok := Told(with(b, place, '7')); n != 7 || !ok {
			t.Errorf("7 at %d: %d, %v", place, n, ok)
		}
	}
}

// wrongLengths are those of bytes that are no block.
var wrongLengths = []int{0, 1, 7, 8, 147, 148, 155, 156, 157, 256, 511, 513, 1023, 1024, 5120}

func TestWrongLengths(t *testing.T) {
	for _, n := range wrongLengths {
		b := append(told(0, "000400\x00 "), make([]byte, 5120)...)[:n]
		if n, ok := Told(b); n != 0 || ok {
			t.Errorf("Told of %d bytes = %d, %v", len(b), n, ok)
		}
		if Right(b) {
			t.Errorf("Right of %d bytes", n)
		}
		if Zero(make([]byte, n)) {
			t.Errorf("Zero of %d bytes", n)
		}
	}
}

func TestRight(t *testing.T) {
	// All bytes of 80: 504 * 128 + 256 is 176400, octal; signed it is below 0. Of two only: 512, or 0.
	two := with(with(filled(0, wholeBlock), 0, 0x80), 511, 0x80)
	// Of one: 256 + 255 is 777, octal; 256 - 1 is 377.
	one := with(filled(0, wholeBlock), 300, 0xff)
	field := func(b []byte, s string) []byte {
		return append(append(bytes.Clone(b[:148]), s...), b[156:]...)
	}
	for _, c := range []struct {
		name string
		b    []byte
		want bool
	}{
		{"noughts", filled(0, wholeBlock), false},
		{"noughts with their sum", told(0, "000400\x00 "), true},
		{"its digits at the end", told(0, "00000400"), true},
		{"its digits at the front", told(0, "400     "), true},
		{"blanks ahead", told(0, "   400 \x00"), true},
		{"one less", told(0, "000377\x00 "), false},
		{"one more", told(0, "000401\x00 "), false},
		{"its digits of ten", told(0, "000256\x00 "), false},
		{"its bits", told(0, "\x80\x00\x00\x00\x00\x00\x01\x00"), false},
		{"no number", told(0, "00040x\x00 "), false},
		{"no number, a sum in front", told(0, "400\x001\x00\x00\x00"), false},
		{"the SUM not as blanks", told(0, "000532\x00 "), false},

		{"unsigned", field(one, "000777\x00 "), true},
		{"signed", field(one, "000377\x00 "), true},
		{"between both", field(one, "000400\x00 "), false},
		{"unsigned, one less", field(one, "000776\x00 "), false},
		{"unsigned, one more", field(one, "001000\x00 "), false},
		{"signed, one less", field(one, "000376\x00 "), false},

		{"unsigned of two", field(two, "001000\x00 "), true},
		{"signed of two", field(two, "000000\x00 "), true},
		{"signed of two, no digits", field(two, "        "), true},
		{"signed of two, noughts", field(two, "\x00\x00\x00\x00\x00\x00\x00\x00"), true},
		{"signed of two, no number", field(two, "x       "), false},
		{"signed of two, bits", field(two, "\x80\x00\x00\x00\x00\x00\x00\x00"), false},

		{"unsigned of 80", told(0x80, "176400\x00 "), true},
		{"a sum below 0, as 0", told(0x80, "000000\x00 "), false},
		{"a sum below 0, without its sign", told(0x80, "175400\x00 "), false},
		{"a sum below 0, with its sign", told(0x80, "-175400 "), false},
		{"a sum below 0, of bits", told(0x80, "\xff\xff\xff\xff\xff\xff\x05\x00"), false},
	} {
		if len(c.b) != wholeBlock {
			t.Fatalf("%s: %d bytes", c.name, len(c.b))
		}
		if ok := Right(c.b); ok != c.want {
			t.Errorf("%s: Right = %v; want %v", c.name, ok, c.want)
		}
	}
}

func TestRightOfEachSum(t *testing.T) {
	for _, b := range [][]byte{filled(0, wholeBlock), with(filled(0, wholeBlock), 9, 0xc0), filled(0xff, wholeBlock)} {
		unsigned, signed := unsignedByWords(b), signedByWords(b)
		// No block comes to so much.
		for n := range 1 << 17 {
			copy(b[148:156], fmt.Sprintf("%06o\x00 ", n))
			if ok := Right(b); ok != (n == unsigned || n == signed) {
				t.Fatalf("%02x..: Right with %o = %v", b[:10], n, ok)
			}
		}
	}
}

func TestSeal(t *testing.T) {
	for _, c := range []struct {
		name  string
		b     []byte
		field string
	}{
		{"nothing", nil, "000400\x00 "},
		{"noughts", filled(0, 512), "000400\x00 "},
		{"ones", filled(1, 512), "001370\x00 "},
		{"7f", filled(0x7f, 512), "175410\x00 "},
		{"80", filled(0x80, 512), "176400\x00 "},
		{"ff", filled(0xff, 512), "373410\x00 "},
		{"a SUM of another one", told(0, "777777\x00 "), "000400\x00 "},
		{"a SUM of ff", told(0, "\xff\xff\xff\xff\xff\xff\xff\xff"), "000400\x00 "},

		{"one byte", []byte{1}, "000401\x00 "},
		{"up to the SUM", filled(1, 148), "000624\x00 "},
		{"some of the SUM", filled(1, 150), "000624\x00 "},
		{"all of the SUM", filled(1, 156), "000624\x00 "},
		{"a byte behind the SUM", filled(1, 157), "000625\x00 "},
		{"511 bytes", filled(1, 511), "001367\x00 "},
		{"513 bytes", filled(1, 513), "001370\x00 "},
		{"many bytes", filled(1, 5120), "001370\x00 "},
	} {
		want := make([]byte, 512)
		copy(want, c.b)
		copy(want[148:], c.field)
		if b := Seal(c.b); !bytes.Equal(b, want) {
			t.Errorf("%s: Seal = %d bytes, the SUM %q; want %q", c.name, len(b), sumField(b), c.field)
		}
	}
}

// sumField is what of b is there where the SUM is.
func sumField(b []byte) []byte {
	return b[min(148, len(b)):min(156, len(b))]
}

func TestWhatIsSealedIsRight(t *testing.T) {
	var b []byte
	for i := range 1100 {
		x := Seal(b)
		if len(x) != wholeBlock || !Right(x) || Zero(x) {
			t.Fatalf("%d bytes, sealed: %d bytes, Right %v, Zero %v", i, len(x), Right(x), Zero(x))
		}
		if n, ok := Told(x); n != Unsigned(x) || n != unsignedByWords(x) || !ok {
			t.Fatalf("%d bytes, sealed: Told %d, %v; Unsigned %d", i, n, ok, Unsigned(x))
		}
		if again := Seal(x); !bytes.Equal(again, x) {
			t.Fatalf("%d bytes, sealed twice: the SUM %q, then %q", i, x[148:156], again[148:156])
		}
		b = append(b, byte(i*i*3+i*11+129))
	}
}

func TestWhatIsBrokenIsNotRight(t *testing.T) {
	x := Seal([]byte("a name"))
	for place := range wholeBlock {
		// But for bits that make a blank of a nought ahead, or of what ends the SUM another end.
		for _, by := range []byte{1, 2, 4, 0x40, 0x80} {
			if Right(with(x, place, x[place]^by)) {
				t.Errorf("a bit of %02x at %d: Right", by, place)
			}
		}
	}
}

func TestZero(t *testing.T) {
	if !Zero(filled(0, wholeBlock)) {
		t.Error("Zero of 512 noughts: false")
	}
	for place := range wholeBlock {
		for _, c := range []byte{1, ' ', '0', 0x80, 0xff} {
			if Zero(with(filled(0, wholeBlock), place, c)) {
				t.Errorf("Zero with %02x at %d", c, place)
			}
		}
	}
	for _, c := range []byte{1, ' ', '0', 0x80, 0xff} {
		if Zero(filled(c, wholeBlock)) {
			t.Errorf("Zero of 512 of %02x", c)
		}
	}
	if Zero(Seal(nil)) {
		t.Error("Zero of what is sealed")
	}
}

// TestHeadersOfOthers takes headers that the library writes: their sums stand as Seal has them.
func TestHeadersOfOthers(t *testing.T) {
	for _, h := range []tar.Header{
		{Name: "a", Size: 0, Mode: 0o644, Format: tar.FormatUSTAR, ModTime: time.Unix(1, 0)},
		{Name: "b/", Typeflag: tar.TypeDir, Mode: 0o755, Format: tar.FormatGNU, ModTime: time.Unix(0, 0)},
		{Name: "\xc3\xa4\xff", Uname: strings.Repeat("\xff", 30), Format: tar.FormatGNU, ModTime: time.Unix(1<<40, 0)},
	} {
		var out bytes.Buffer
		if err := tar.NewWriter(&out).WriteHeader(&h); err != nil {
			t.Fatal(err)
		}
		b := out.Bytes()
		if len(b) != wholeBlock || !Right(b) || !bytes.Equal(Seal(b), b) {
			t.Errorf("%q: %d bytes, Right %v, the SUM %q", h.Name, len(b), Right(b), sumField(b))
		}
		copy(b[148:156], fmt.Sprintf("%06o\x00 ", signedByWords(b)))
		if !Right(b) {
			t.Errorf("%q: not Right with its signed sum %q", h.Name, sumField(b))
		}
	}
}

func TestExample(t *testing.T) {
	noughts := make([]byte, 512)
	if n := Unsigned(noughts); n != 256 {
		t.Errorf("Unsigned of 512 noughts = %d", n)
	}
	if !Right(Seal(noughts)) {
		t.Error("Right of Seal of them: false")
	}
}

func TestNilIsEmpty(t *testing.T) {
	for _, b := range [][]byte{nil, {}} {
		n, ok := Told(b)
		if Unsigned(b) != 0 || Signed(b) != 0 || n != 0 || ok || Right(b) || Zero(b) {
			t.Errorf("of no bytes: %d, %d, %d, %v, %v, %v", Unsigned(b), Signed(b), n, ok, Right(b), Zero(b))
		}
		if x := Seal(b); !bytes.Equal(x, told(0, "000400\x00 ")) {
			t.Errorf("Seal of no bytes: %d bytes, the SUM %q", len(x), sumField(x))
		}
	}
}

func TestWhatIsHandedInStays(t *testing.T) {
	for _, n := range append(wrongLengths, wholeBlock) {
		// Behind the length stand bytes that would count if they were read.
		whole := append(filled('1', n), filled(0xff, 1024)...)
		was := bytes.Clone(whole)
		b, alone := whole[:n], filled('1', n)
		if Unsigned(b) != Unsigned(alone) || Signed(b) != Signed(alone) || Right(b) != Right(alone) || Zero(b) != Zero(alone) {
			t.Errorf("%d bytes: others count that stand behind them", n)
		}
		m, ok := Told(b)
		if o, isAlone := Told(alone); m != o || ok != isAlone {
			t.Errorf("%d bytes: Told %d, %v with bytes behind them, %d, %v without", n, m, ok, o, isAlone)
		}
		if !bytes.Equal(Seal(b), Seal(alone)) {
			t.Errorf("%d bytes: Seal has others that stand behind them", n)
		}
		if !bytes.Equal(whole, was) {
			t.Errorf("%d bytes became others", n)
		}
	}
}

func TestWhatComesOutIsNew(t *testing.T) {
	for _, n := range append(wrongLengths, wholeBlock) {
		b := filled('1', n)
		one, other := Seal(b), Seal(b)
		want := bytes.Clone(other)
		copy(b, filled('x', n))
		if !bytes.Equal(one, want) {
			t.Errorf("%d bytes: what was sealed changes with them", n)
		}
		copy(one, filled('y', wholeBlock))
		_ = append(one[:0], filled('z', cap(one))...)
		if !bytes.Equal(b, filled('x', n)) || !bytes.Equal(other, want) || !bytes.Equal(Seal(filled('1', n)), want) {
			t.Errorf("%d bytes: what is sealed is not new", n)
		}
	}
}
