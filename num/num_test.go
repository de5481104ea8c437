package num

import (
	"bytes"
	"math"
	"math/big"
	"slices"
	"strings"
	"testing"

	"mudlark/api"
)

const (
	most  = api.MaxNum
	least = -api.MaxNum
)

type reading struct {
	b    string
	want int
	ok   bool
}

func checkReadings(t *testing.T, name string, read func([]byte) (int, bool), l []reading) {
	t.Helper()
	for _, c := range l {
		n, ok := read([]byte(c.b))
		if n != c.want || ok != c.ok {
			t.Errorf("%s(%q) = %d, %v; want %d, %v", name, c.b, n, ok, c.want, c.ok)
		}
	}
}

// octals are fields without a byte of 80 or more ahead: Parse reads them as Octal does.
func octals() []reading {
	nought := strings.Repeat("0", 500)
	blank := strings.Repeat(" ", 500)
	return []reading{
		{" 7\x00", 7, true},
		{"0000644\x00", 0o644, true},
		{"12345670", 0o12345670, true},
		{"1", 1, true},
		{"10", 8, true},
		{"7 ", 7, true},
		{"17 \x00 \x00\x00 ", 0o17, true},
		{"17\x00 ", 0o17, true},
		{"  \x00 ", 0, true},
		{"", 0, true},
		{" ", 0, true},
		{"        ", 0, true},
		{"\x00", 0, true},
		{"\x00\x00\x00", 0, true},
		{"\x00 \x00", 0, true},
		{"0", 0, true},
		{nought, 0, true},
		{nought + "7", 7, true},
		{blank + "7" + blank, 7, true},
		{blank + nought + "17" + strings.Repeat("\x00", 500), 0o17, true},

		{"400000000000000000000", most, true},
		{"0400000000000000000000\x00", most, true},
		{"377777777777777777777", most - 1, true},
		{"400000000000000000001", 0, false},
		{"500000000000000000000", 0, false},
		{"777777777777777777777", 0, false},
		{"1000000000000000000000", 0, false},
		{"2000000000000000000000", 0, false},
		{"2000000000000000000001", 0, false},
		{"4000000000000000000000", 0, false},
		{strings.Repeat("7", 500), 0, false},
		{"1" + nought, 0, false},

		{"8", 0, false},
		{"9", 0, false},
		{"/", 0, false},
		{"18", 0, false},
		{"1/", 0, false},
		{"a", 0, false},
		{"1a", 0, false},
		{"1 a", 0, false},
		{"1\x00a", 0, false},
		{"1 2", 0, false},
		{"1\x002", 0, false},
		{"1 \x00 2", 0, false},
		{"\x001", 0, false},
		{" \x001", 0, false},
		{"-1", 0, false},
		{"+1", 0, false},
		{"0x1", 0, false},
		{"1.0", 0, false},
		{"\t1", 0, false},
		{"1\n", 0, false},
		{"1\x01", 0, false},
		{"1\x1f", 0, false},
		{"1!", 0, false},
		{"\x7f", 0, false},
		{"7\x80", 0, false},
		{"\x7f\x00\x00", 0, false},
	}
}

// bits are fields with a byte of 80 or more ahead: Parse reads them as Binary does.
func bits() []reading {
	nought := strings.Repeat("\x00", 500)
	ones := strings.Repeat("\xff", 500)
	return []reading{
		{"\x80", 0, true},
		{"\x81", 1, true},
		{"\xbf", 63, true},
		{"\xc0", -64, true},
		{"\xc1", -63, true},
		{"\xff", -1, true},
		{"\x80\x00", 0, true},
		{"\x80\xff", 255, true},
		{"\x81\x00", 256, true},
		{"\x81\x02\x03", 0x010203, true},
		{"\xbf\xff", 1<<14 - 1, true},
		{"\xc0\x00", -1 << 14, true},
		{"\xff\x00", -256, true},
		{"\xff\xff\xff", -1, true},
		{"\xff\xff\xfe", -2, true},
		{"\x80\x00\x00\x00\x00\x00\x00\x00\x00\x00\x00\x07", 7, true},
		{"\x80   ", 0x202020, true},

		{"\xbf\xff\xff\xff\xff\xff\xff\xff", most - 1, true},
		{"\xc0\x00\x00\x00\x00\x00\x00\x00", least, true},
		{"\x80\x40\x00\x00\x00\x00\x00\x00\x00", most, true},
		{"\xff\xc0\x00\x00\x00\x00\x00\x00\x00", least, true},
		{"\x80" + nought + "\x40\x00\x00\x00\x00\x00\x00\x00", most, true},
		{"\xff" + ones + "\xc0\x00\x00\x00\x00\x00\x00\x00", least, true},
		{"\x80" + nought + "\x05", 5, true},
		{"\xff" + ones + "\xfb", -5, true},

		{"\x80\x40\x00\x00\x00\x00\x00\x00\x01", 0, false},
		{"\x80\x40\x00\x00\x00\x00\x00\x00\xff", 0, false},
		{"\x80\x40\x00\x00\x00\x00\x00\x01\x00", 0, false},
		{"\x80\x7f\xff\xff\xff\xff\xff\xff\xff", 0, false},
		{"\x80\x80\x00\x00\x00\x00\x00\x00\x00", 0, false},
		{"\x80\xff\xff\xff\xff\xff\xff\xff\xff", 0, false},
		{"\x81\x00\x00\x00\x00\x00\x00\x00\x00", 0, false},
		{"\x81\x00\x00\x00\x00\x00\x00\x00\x01", 0, false},
		{"\x81" + nought, 0, false},
		{"\x81" + nought + "\x01", 0, false},
		{"\xbf" + ones, 0, false},
		{"\xff\xbf\xff\xff\xff\xff\xff\xff\xff", 0, false},
		{"\xff\xbf\xff\xff\xff\xff\xff\xff\x00", 0, false},
		{"\xff\x80\x00\x00\x00\x00\x00\x00\x00", 0, false},
		{"\xff\x00\x00\x00\x00\x00\x00\x00\x00", 0, false},
		{"\xfe\xff\xff\xff\xff\xff\xff\xff\xff", 0, false},
		{"\xc0" + nought, 0, false},
		{"\xfe" + ones, 0, false},
	}
}

func TestOctal(t *testing.T) {
	checkReadings(t, "Octal", Octal, octals())
	for _, c := range bits() {
		if n, ok := Octal([]byte(c.b)); n != 0 || ok {
			t.Errorf("Octal(%q) = %d, %v", c.b, n, ok)
		}
	}
}

func TestBinary(t *testing.T) {
	checkReadings(t, "Binary", Binary, bits())
	for _, c := range octals() {
		if n, ok := Binary([]byte(c.b)); n != 0 || ok {
			t.Errorf("Binary(%q) = %d, %v", c.b, n, ok)
		}
	}
}

func TestParse(t *testing.T) {
	checkReadings(t, "Parse", Parse, octals())
	checkReadings(t, "Parse", Parse, bits())
}

// TestShortFields holds each field of up to two bytes against the words of the chapter, written down with big numbers.
func TestShortFields(t *testing.T) {
	fields := [][]byte{{}}
	for i := range 256 {
		fields = append(fields, []byte{byte(i)})
		for j := range 256 {
			fields = append(fields, []byte{byte(i), byte(j)})
		}
	}
	for _, b := range fields {
		o, isOctal := octalByWords(b)
		if n, ok := Octal(b); n != o || ok != isOctal {
			t.Fatalf("Octal(%x) = %d, %v; want %d, %v", b, n, ok, o, isOctal)
		}
		d, isBinary := binaryByWords(b)
		if n, ok := Binary(b); n != d || ok != isBinary {
			t.Fatalf("Binary(%x) = %d, %v; want %d, %v", b, n, ok, d, isBinary)
		}
		n, ok := Parse(b)
		if len(b) > 0 && b[0] >= 0x80 && (n != d || ok != isBinary) || (len(b) == 0 || b[0] < 0x80) && (n != o || ok != isOctal) {
			t.Fatalf("Parse(%x) = %d, %v", b, n, ok)
		}
	}
}

// TestLongFields does so with longer ones, about each end of what may be.
func TestLongFields(t *testing.T) {
	for wide := 3; wide <= 40; wide++ {
		for mark := 0x7e; mark <= 0xff; mark++ {
			for _, fill := range []byte{0x00, 0x01, 0x3f, 0x40, 0x7f, 0x80, 0xbf, 0xc0, 0xff} {
				for bend := 1; bend < wide; bend++ {
					b := bytes.Repeat([]byte{0}, wide)
					if mark >= 0xc0 {
						b = bytes.Repeat([]byte{0xff}, wide)
					}
					b[0] = byte(mark)
					b[bend] = fill
					want, isBinary := binaryByWords(b)
					if n, ok := Binary(b); n != want || ok != isBinary {
						t.Fatalf("Binary(%x) = %d, %v; want %d, %v", b, n, ok, want, isBinary)
					}
				}
			}
		}
	}
}

func octalByWords(b []byte) (int, bool) {
	s := strings.TrimLeft(string(b), " ")
	s = strings.TrimRight(s, " \x00")
	if s == "" {
		return 0, true
	}
	if strings.Trim(s, "01234567") != "" {
		return 0, false
	}
	n, _ := new(big.Int).SetString(s, 8)
	return within(n)
}

func binaryByWords(b []byte) (int, bool) {
	if len(b) == 0 || b[0] < 0x80 {
		return 0, false
	}
	c := slices.Clone(b)
	c[0] &= 0x7f
	n := new(big.Int).SetBytes(c)
	if c[0]&0x40 != 0 {
		n.Sub(n, new(big.Int).Lsh(big.NewInt(1), uint(8*len(b)-1)))
	}
	return within(n)
}

func within(n *big.Int) (int, bool) {
	if n.Cmp(big.NewInt(most)) > 0 || n.Cmp(big.NewInt(least)) < 0 {
		return 0, false
	}
	return int(n.Int64()), true
}

type putting struct {
	n, wide int
	want    string
	ok      bool
}

func checkPuttings(t *testing.T, name string, put func(n, wide int) ([]byte, bool), l []putting) {
	t.Helper()
	for _, c := range l {
		b, ok := put(c.n, c.wide)
		if string(b) != c.want || ok != c.ok {
			t.Errorf("%s(%d, %d) = %x, %v; want %x, %v", name, c.n, c.wide, b, ok, c.want, c.ok)
		}
	}
}

// noWidths are widths of which neither way has a field.
var noWidths = []int{math.MinInt, -1 << 32, -32, -1, 0, 1, 33, 34, 512, 1 << 32, math.MaxInt}

func TestPutOctal(t *testing.T) {
	checkPuttings(t, "PutOctal", PutOctal, []putting{
		{8, 4, "010\x00", true},
		{0o644, 8, "0000644\x00", true},
		{0, 2, "0\x00", true},
		{7, 2, "7\x00", true},
		{0, 8, "0000000\x00", true},
		{0o7777777, 8, "7777777\x00", true},
		{0o77777777777, 12, "77777777777\x00", true},
		{0o1234567, 8, "1234567\x00", true},
		{0o1234567, 32, strings.Repeat("0", 24) + "1234567\x00", true},
		{most, 22, "400000000000000000000\x00", true},
		{most, 32, "0000000000400000000000000000000\x00", true},
		{most - 1, 22, "377777777777777777777\x00", true},

		{8, 2, "", false},
		{64, 3, "", false},
		{0o7777777 + 1, 8, "", false},
		{0o77777777777 + 1, 12, "", false},
		{most, 21, "", false},
		{most - 1, 21, "", false},
		{most + 1, 22, "", false},
		{most + 1, 32, "", false},
		{math.MaxInt, 32, "", false},
		{-1, 8, "", false},
		{-8, 8, "", false},
		{-1, 32, "", false},
		{least, 32, "", false},
		{math.MinInt, 32, "", false},
		{math.MinInt, 2, "", false},
	})
	for _, wide := range noWidths {
		checkPuttings(t, "PutOctal", PutOctal, []putting{{0, wide, "", false}, {1, wide, "", false}, {-1, wide, "", false}, {most, wide, "", false}})
	}
}

func TestPutBinary(t *testing.T) {
	nought := strings.Repeat("\x00", 23)
	ones := strings.Repeat("\xff", 23)
	checkPuttings(t, "PutBinary", PutBinary, []putting{
		{0, 2, "\x80\x00", true},
		{1, 2, "\x80\x01", true},
		{-1, 2, "\xff\xff", true},
		{-1, 3, "\xff\xff\xff", true},
		{8, 4, "\x80\x00\x00\x08", true},
		{0x010203, 4, "\x80\x01\x02\x03", true},
		{-2, 4, "\xff\xff\xff\xfe", true},
		{1<<14 - 1, 2, "\xbf\xff", true},
		{-1 << 14, 2, "\xc0\x00", true},
		{1<<22 - 1, 3, "\xbf\xff\xff", true},
		{-1 << 22, 3, "\xc0\x00\x00", true},
		{1 << 14, 3, "\x80\x40\x00", true},
		{-1<<14 - 1, 3, "\xff\xbf\xff", true},
		{most - 1, 8, "\xbf\xff\xff\xff\xff\xff\xff\xff", true},
		{least, 8, "\xc0\x00\x00\x00\x00\x00\x00\x00", true},
		{most, 9, "\x80\x40\x00\x00\x00\x00\x00\x00\x00", true},
		{least, 9, "\xff\xc0\x00\x00\x00\x00\x00\x00\x00", true},
		{most, 32, "\x80" + nought + "\x40\x00\x00\x00\x00\x00\x00\x00", true},
		{least, 32, "\xff" + ones + "\xc0\x00\x00\x00\x00\x00\x00\x00", true},
		{7, 32, "\x80" + nought + "\x00\x00\x00\x00\x00\x00\x00\x07", true},

		{1 << 14, 2, "", false},
		{1<<15 - 1, 2, "", false},
		{1 << 15, 2, "", false},
		{1 << 16, 2, "", false},
		{-1<<14 - 1, 2, "", false},
		{-1 << 15, 2, "", false},
		{-1 << 16, 2, "", false},
		{1 << 22, 3, "", false},
		{-1<<22 - 1, 3, "", false},
		{most, 8, "", false},
		{least - 1, 8, "", false},
		{most + 1, 9, "", false},
		{least - 1, 9, "", false},
		{most + 1, 32, "", false},
		{least - 1, 32, "", false},
		{math.MaxInt, 8, "", false},
		{math.MaxInt, 32, "", false},
		{math.MinInt, 2, "", false},
		{math.MinInt, 8, "", false},
		{math.MinInt, 32, "", false},
	})
	for _, wide := range noWidths {
		checkPuttings(t, "PutBinary", PutBinary, []putting{{0, wide, "", false}, {1, wide, "", false}, {-1, wide, "", false}, {least, wide, "", false}})
	}
}

func TestPut(t *testing.T) {
	checkPuttings(t, "Put", Put, []putting{
		{8, 4, "010\x00", true},
		{-1, 3, "\xff\xff\xff", true},
		{0, 2, "0\x00", true},
		{7, 2, "7\x00", true},
		{8, 2, "\x80\x08", true},
		{0o7777777, 8, "7777777\x00", true},
		{0o7777777 + 1, 8, "\x80\x00\x00\x00\x00\x20\x00\x00", true},
		{0o77777777777 + 1, 12, "\x80\x00\x00\x00\x00\x00\x00\x02\x00\x00\x00\x00", true},
		{-5, 8, "\xff\xff\xff\xff\xff\xff\xff\xfb", true},
		{most, 22, "400000000000000000000\x00", true},
		{most, 21, "\x80" + strings.Repeat("\x00", 12) + "\x40\x00\x00\x00\x00\x00\x00\x00", true},
		{least, 8, "\xc0\x00\x00\x00\x00\x00\x00\x00", true},

		{1 << 14, 2, "", false},
		{-1<<14 - 1, 2, "", false},
		{most, 8, "", false},
		{most + 1, 32, "", false},
		{least - 1, 32, "", false},
		{math.MaxInt, 32, "", false},
		{math.MinInt, 32, "", false},
	})
	for _, wide := range noWidths {
		checkPuttings(t, "Put", Put, []putting{{0, wide, "", false}, {1, wide, "", false}, {-1, wide, "", false}, {most, wide, "", false}})
	}
}

// edges are numbers about each power of two, on both sides of 0.
func edges() []int {
	var l []int
	for i := range 64 {
		for d := -2; d <= 2; d++ {
			l = append(l, 1<<i+d, -(1<<i)+d)
		}
	}
	return l
}

func TestWhatIsPutIsParsed(t *testing.T) {
	for wide := 2; wide <= 32; wide++ {
		for _, n := range edges() {
			o, isOctal := PutOctal(n, wide)
			if want := n >= 0 && n <= most && (wide >= 22 || n < 1<<(3*(wide-1))); isOctal != want {
				t.Fatalf("PutOctal(%d, %d): %v", n, wide, isOctal)
			}
			checkBack(t, "PutOctal", n, wide, o, isOctal, Octal)
			checkBack(t, "PutOctal", n, wide, o, isOctal, Parse)

			d, isBinary := PutBinary(n, wide)
			if want := n >= least && n <= most && (wide >= 9 || n < 1<<(8*wide-2) && n >= -1<<(8*wide-2)); isBinary != want {
				t.Fatalf("PutBinary(%d, %d): %v", n, wide, isBinary)
			}
			checkBack(t, "PutBinary", n, wide, d, isBinary, Binary)
			checkBack(t, "PutBinary", n, wide, d, isBinary, Parse)

			b, ok := Put(n, wide)
			checkBack(t, "Put", n, wide, b, ok, Parse)
			want := d
			if isOctal {
				want = o
			}
			if ok != (isOctal || isBinary) || !bytes.Equal(b, want) {
				t.Fatalf("Put(%d, %d) = %x, %v", n, wide, b, ok)
			}
		}
	}
}

func checkBack(t *testing.T, name string, n, wide int, b []byte, ok bool, read func([]byte) (int, bool)) {
	t.Helper()
	if !ok {
		if len(b) != 0 {
			t.Fatalf("%s(%d, %d): %x with false", name, n, wide, b)
		}
		return
	}
	if back, isBack := read(b); len(b) != wide || !isBack || back != n {
		t.Fatalf("%s(%d, %d) = %x, read as %d, %v", name, n, wide, b, back, isBack)
	}
}

func TestNilIsEmpty(t *testing.T) {
	for _, read := range []func([]byte) (int, bool){Octal, Binary, Parse} {
		n, ok := read(nil)
		empty, isEmpty := read([]byte{})
		if n != empty || ok != isEmpty {
			t.Errorf("of nil %d, %v; of no bytes %d, %v", n, ok, empty, isEmpty)
		}
	}
}

func TestWhatIsHandedInStays(t *testing.T) {
	for _, s := range []string{" 7\x00", "\xff\xfe", "7x", "\x80\x01", "", "777"} {
		// Behind the length stand digits, that would count if they were read.
		whole := []byte(s + "111")
		for _, read := range []func([]byte) (int, bool){Octal, Binary, Parse} {
			n, ok := read(whole[:len(s)])
			alone, isAlone := read([]byte(s))
			if n != alone || ok != isAlone {
				t.Errorf("of %q: %d, %v with bytes behind it, %d, %v without", s, n, ok, alone, isAlone)
			}
			if string(whole) != s+"111" {
				t.Errorf("%q became %q", s, whole)
			}
		}
	}
}

func TestWhatComesOutIsNew(t *testing.T) {
	for _, put := range []func(n, wide int) ([]byte, bool){PutOctal, PutBinary, Put} {
		a, _ := put(5, 8)
		b, _ := put(5, 8)
		was := string(b)
		for i := range a {
			a[i] = 'x'
		}
		c, _ := put(5, 8)
		if string(b) != was || string(c) != was {
			t.Errorf("%x and %x; want %x", b, c, was)
		}
	}
}
