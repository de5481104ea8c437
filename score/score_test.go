package score

import (
	"bytes"
	"fmt"
	"slices"
	"strings"
	"testing"

	"mudlark/api"
	"mudlark/head"
	"mudlark/num"
	"mudlark/sample"
	"mudlark/sum"
)

const wholeBlock = 512

// scores holds what is told of a block against what it should be.
func scores(t *testing.T, name string, b []byte, points int, header bool) {
	t.Helper()
	if n := Points(b); n != points {
		t.Errorf("%s: Points = %d; want %d", name, n, points)
	}
	if ok := Header(b); ok != header {
		t.Errorf("%s: Header = %v", name, ok)
	}
	if ok, want := Suspect(b), !header && points >= 6; ok != want {
		t.Errorf("%s: Suspect = %v", name, ok)
	}
}

// with is b with other bytes at a place.
func with(b []byte, place int, text string) []byte {
	b = bytes.Clone(b)
	copy(b[place:], text)
	return b
}

// bare is a block that gives no points, and of which nothing is wrong but its sum, that is none.
func bare() []byte {
	return with(make([]byte, wholeBlock), 148, "x")
}

// full is a header's block with a name of a hundred bytes, that gives all points there are.
func full() []byte {
	return sample.Laid(api.Header{
		Name: sample.Letters(100), Mode: 0o644, Uid: 1000, Gid: 100, Size: 5, Mtime: 1 << 30,
		Kind: api.File, Way: api.Ustar, User: "u", Group: "g", Prefix: "p",
	})
}

// misled is b with another sum than its own.
func misled(b []byte) []byte {
	return with(b, 148, "000001\x00 ")
}

// fields are what gives points beside the sum: how many, where, bytes that give them, and others that give none.
var fields = []struct {
	name         string
	points       int
	place        int
	right, wrong string
}{
	{"name", 2, 0, "a/name", "\x01"},
	{"mode", 1, 100, "0000644\x00", "x"},
	{"uid", 1, 108, "0001750\x00", "8"},
	{"gid", 1, 116, "    144 ", "-1"},
	{"size", 1, 124, "00000000005\x00", "1 1"},
	{"mtime", 1, 136, "14000000000\x00", "\x001"},
	{"kind", 1, 156, "5", "8"},
	{"way", 3, 257, "ustar\x0000", "ustar!00"},
}

// sums lay a block's: one that is right, one that is told and not right, one that is not told.
var sums = []struct {
	name   string
	points int
	lay    func(b []byte) []byte
}{
	{"right", 4, sum.Seal},
	{"another", 1, misled},
	{"none", 0, func(b []byte) []byte { return with(b, 148, "00000x\x00 ") }},
}

// blockOf is one with those fields right whose bits are set, and what they give; the others are noughts, or wrong.
func blockOf(set int, isWrong bool) ([]byte, int) {
	b, points := make([]byte, wholeBlock), 0
	for i, f := range fields {
		switch {
		case set>>i&1 == 1:
			b = with(b, f.place, f.right)
			points += f.points
		case isWrong:
			b = with(b, f.place, f.wrong)
		}
	}
	return b, points
}

// Each field gives its points, whatever the others do; from six on what is no header is a suspect.
func TestEachAndAll(t *testing.T) {
	const all = 1<<8 - 1
	atSure, below := 0, 0
	for set := range all + 1 {
		for _, isWrong := range []bool{false, true} {
			for _, s := range sums {
				b, points := blockOf(set, isWrong)
				b, points = s.lay(b), points+s.points
				// A header may lack anything, but may have nothing wrong but its name, the first of the fields.
				header := s.name == "right" && (!isWrong || set|1 == all)
				scores(t, fmt.Sprintf("%08b, others wrong: %v, sum: %s", set, isWrong, s.name), b, points, header)
				if !header && points == 6 {
					atSure++
				}
				if !header && points == 5 {
					below++
				}
			}
		}
	}
	if atSure == 0 || below == 0 {
		t.Errorf("%d blocks of 6 points, %d of 5", atSure, below)
	}
}

// A header's fields end where they end: what is broken there takes just what they give.
func TestEachPlace(t *testing.T) {
	sealed, unsealed := full(), misled(full())
	scores(t, "full", sealed, 15, true)
	scores(t, "full, with another sum", unsealed, 12, false)
	for place := range wholeBlock {
		loss := 0
		switch {
		case place < 100:
			loss = 2
		case place <= 156:
			// A number, the sum, that is not even told now, or the kind.
			loss = 1
		case place >= 257 && place < 265:
			loss = 3
		}
		scores(t, fmt.Sprintf("broken at %d", place), with(sealed, place, "\x01"), 12-loss, false)
		scores(t, fmt.Sprintf("another sum, broken at %d", place), with(unsealed, place, "\x01"), 12-loss, false)
	}
}

func TestNoughts(t *testing.T) {
	scores(t, "noughts", make([]byte, wholeBlock), 0, false)
	scores(t, "bare", bare(), 0, false)
	// A sum without a digit is told as 0: but for that no other byte gives a point.
	for _, place := range []int{156, 256, 265, 344, 386, 511} {
		scores(t, "a byte", with(make([]byte, wholeBlock), place, "\xff"), 1, false)
	}
	scores(t, "noughts and their sum", sum.Seal(nil), 4, true)
}

func TestWrongLengths(t *testing.T) {
	whole := append(full(), full()...)
	for n := range len(whole) + 1 {
		if n != wholeBlock {
			scores(t, fmt.Sprintf("%d bytes", n), whole[:n], 0, false)
			scores(t, fmt.Sprintf("%d noughts", n), make([]byte, n), 0, false)
		}
	}
	scores(t, "512 bytes", whole[:wholeBlock], 15, true)
}

func TestSums(t *testing.T) {
	// Of bytes of 80 and above one sum is below the other.
	high := with(full(), 400, "\xff\xfe\x80")
	digits := func(n int) string { return fmt.Sprintf("%06o\x00 ", n) }
	for _, c := range []struct {
		name   string
		field  string
		points int
	}{
		{"unsigned", digits(sum.Unsigned(high)), 4},
		{"signed", digits(sum.Signed(high)), 4},
		{"its digits at the end", fmt.Sprintf("%8o", sum.Unsigned(high)), 4},
		{"one more", digits(sum.Unsigned(high) + 1), 1},
		{"one less", digits(sum.Signed(high) - 1), 1},
		{"0", digits(0), 1},
		{"no digits", "        ", 1},
		{"noughts", "\x00\x00\x00\x00\x00\x00\x00\x00", 1},
		{"no number", "00000x\x00 ", 0},
		{"its digits, and others behind them", digits(sum.Unsigned(high))[:7] + "1", 0},
		{"bits", "\x80\x00\x00\x00\x00\x00\x01\x00", 0},
	} {
		scores(t, c.name, with(high, 148, c.field), 11+c.points, c.points == 4)
		// Nothing but a sum.
		if c.points < 4 {
			scores(t, c.name+", alone", with(with(bare(), 511, "\x01"), 148, c.field), c.points, false)
		}
	}
}

func TestWays(t *testing.T) {
	for _, c := range []struct {
		magic  string
		points int
		isWay  bool
	}{
		{"ustar\x0000", 3, true},
		{"ustar  \x00", 3, true},
		{"\x00\x00\x00\x00\x00\x00\x00\x00", 0, true},
		{"ustar\x00\x00\x00", 0, false},
		{"ustar   ", 0, false},
		{"ustar 00", 0, false},
		{"USTAR\x0000", 0, false},
		{"        ", 0, false},
		{"\xff\xff\xff\xff\xff\xff\xff\xff", 0, false},
	} {
		scores(t, fmt.Sprintf("way %q, alone", c.magic), with(bare(), 257, c.magic), c.points, false)
		scores(t, fmt.Sprintf("way %q", c.magic), sample.Changed(full(), 257, c.magic), 12+c.points, c.isWay)
	}
}

func TestKinds(t *testing.T) {
	for c := range 256 {
		kind, points := string([]byte{byte(c)}), 0
		if strings.Contains("01234567SxgLK", kind) {
			points = 1
		}
		scores(t, fmt.Sprintf("kind %q, alone", kind), with(bare(), 156, kind), points, false)
		// The byte 00 is a File's, and no kind by itself; of S others than Gnu have none.
		header := points == 1 && c != 'S' || c == 0
		scores(t, fmt.Sprintf("kind %q", kind), sample.Changed(full(), 156, kind), 14+points, header)
		scores(t, fmt.Sprintf("kind %q, another sum", kind), misled(with(full(), 156, kind)), 11+points, false)
	}
	gnu := sample.Changed(sample.Changed(full(), 257, "ustar  \x00"), 345, strings.Repeat("\x00", 155))
	scores(t, "kind S of Gnu", sample.Changed(gnu, 156, "S"), 15, true)
}

func TestNames(t *testing.T) {
	letters := sample.Letters(100)
	for _, c := range []struct {
		name   string
		points int
	}{
		{"a", 2},
		{" ", 2},
		{"..", 2},
		{"~", 2},
		{"é€😀", 2},
		{"a\x00\x01\xff\x7f", 2},
		{letters, 2},
		{letters[:99] + "\x00", 2},
		{letters[:98] + "é", 2},
		{"", 0},
		{"\x00a", 0},
		{"a\n", 0},
		{"\x01", 0},
		{"\x1f", 0},
		{"\x7f", 0},
		{"\x80", 0},
		{"a\xff\x00", 0},
		{"a\xc3\x00\xa9", 0},
		{letters[:99] + "\x1f", 0},
		{letters[:99] + "\x7f", 0},
		{letters[:99] + "\xc3", 0},
		{"\xed\xa0\x80", 0},
		{"\xc0\xaf", 0},
	} {
		field := (c.name + strings.Repeat("\x00", 100))[:100]
		scores(t, fmt.Sprintf("name %q, alone", c.name), with(bare(), 0, field), c.points, false)
		scores(t, fmt.Sprintf("name %q", c.name), sample.Changed(full(), 0, field), 13+c.points, true)
	}
	// What goes on in the Mode is none of the name's; there those bytes are bits of a number.
	scores(t, "é over the end", with(bare(), 0, letters[:99]+"é"), 1, false)
	scores(t, "é behind the end", with(bare(), 0, letters+"é"), 3, false)
}

// bits is a number as so many bytes of bits.
func bits(n, wide int) string {
	b, _ := num.PutBinary(n, wide)
	return string(b)
}

// number is what may stand in a field: what is read of it, if it is one, and what it gives.
type number struct {
	text   string
	n      int
	ok     bool
	points int
}

func numbers(wide int) []number {
	fill := func(text, by string) string { return (text + strings.Repeat(by, wide))[:wide] }
	l := []number{
		{fill("", "0"), 0, true, 1},
		{fill("0", "\x00"), 0, true, 1},
		{fill("7", " "), 7, true, 1},
		{strings.Repeat(" ", wide-1) + "7", 7, true, 1},
		{fill("  17", "\x00 "), 15, true, 1},
		{fill("", "7"), 1<<(3*wide) - 1, true, 1},
		{bits(0, wide), 0, true, 1},
		{bits(1, wide), 1, true, 1},
		{bits(1<<40, wide), 1 << 40, true, 1},
		{bits(1<<40+1, wide), 1<<40 + 1, true, 1},
		{bits(-1, wide), -1, true, 1},
		{bits(-1<<62, wide), -1 << 62, true, 1},

		// Read as 0, though there is nothing.
		{fill("", "\x00"), 0, true, 0},
		{fill("", " "), 0, true, 0},
		{fill("", " \x00"), 0, true, 0},
		{fill("", "\x00 "), 0, true, 0},

		{fill("x", "\x00"), 0, false, 0},
		{fill("8", "\x00"), 0, false, 0},
		{fill("-1", "\x00"), 0, false, 0},
		{fill("0x1", "\x00"), 0, false, 0},
		{fill("1 1", " "), 0, false, 0},
		{fill("\t7", " "), 0, false, 0},
		{fill("", "\x00")[:wide-1] + "7", 0, false, 0},
		{fill("", "7")[:wide-1] + "\x01", 0, false, 0},
		{fill("", "7")[:wide-1] + "\x80", 0, false, 0},
		{fill("\x7f", "\xff"), 0, false, 0},
	}
	if wide < 12 {
		return l
	}
	most := bits(1<<62, wide)
	return append(l, number{most, 1 << 62, true, 1}, number{most[:wide-1] + "\x01", 0, false, 0}, number{fill("\x80\x01", "\x00"), 0, false, 0})
}

func TestNumbers(t *testing.T) {
	for _, f := range []struct {
		name        string
		place, wide int
		least, most int // that a header may have
	}{
		{"Mode", 100, 8, 0, 1 << 62}, {"Uid", 108, 8, 0, 1 << 62}, {"Gid", 116, 8, 0, 1 << 62},
		{"Size", 124, 12, 0, 1 << 40}, {"Mtime", 136, 12, -1 << 62, 1 << 62},
	} {
		for _, c := range numbers(f.wide) {
			name := fmt.Sprintf("%s %q", f.name, c.text)
			scores(t, name+", alone", with(bare(), f.place, c.text), c.points, false)
			// It is a number that gives a point, be it one that a header may have or not.
			header := c.ok && c.n >= f.least && c.n <= f.most
			scores(t, name, sample.Changed(full(), f.place, c.text), 14+c.points, header)
		}
	}
	// No other number gives anything.
	for _, place := range []int{329, 337, 386, 398, 483} {
		scores(t, fmt.Sprintf("a number at %d", place), with(bare(), place, "0000007\x00"), 0, false)
	}
}

// A block that tells its sum, and is no header, is a suspect for what else it has.
func TestRightAndNoHeader(t *testing.T) {
	scores(t, "a size that may not be", sample.Changed(full(), 124, bits(-1, 12)), 15, false)
	scores(t, "a device's number that is none", sample.Changed(full(), 329, "x"), 15, false)
	scores(t, "no way", sample.Changed(full(), 257, "x"), 12, false)
	scores(t, "no way, and no more than a sum and a name", sum.Seal(with(with(bare(), 0, "a"), 257, "x")), 6, false)
	scores(t, "no way, and no more than a sum and a kind", sum.Seal(with(with(bare(), 156, "0"), 257, "x")), 5, false)
}

// What is not laid as a header may be like one all the same: it is its points that tell.
func TestOtherBytes(t *testing.T) {
	for _, c := range []struct {
		name   string
		b      []byte
		points int
	}{
		{"letters", []byte(strings.Repeat("n", wholeBlock)), 2},
		{"lines", []byte(strings.Repeat("so it is\n", 60)[:wholeBlock]), 0},
		{"words", []byte(strings.Repeat("so it is, ", 60)[:wholeBlock]), 2},
		{"ff", bytes.Repeat([]byte{0xff}, wholeBlock), 5},
		{"80", bytes.Repeat([]byte{0x80}, wholeBlock), 3},
		{"blanks", bytes.Repeat([]byte{' '}, wholeBlock), 3},
		{"digits", bytes.Repeat([]byte{'7'}, wholeBlock), 9},
		{"digits, but no octal ones", bytes.Repeat([]byte{'9'}, wholeBlock), 2},
		{"records", sample.Filled([]byte("6 a=b\n")), 1},
	} {
		scores(t, c.name, c.b, c.points, false)
	}
}

func TestExample(t *testing.T) {
	if n := Points(make([]byte, 512)); n != 0 {
		t.Errorf("Points of 512 noughts = %d", n)
	}
}

func TestNilIsEmpty(t *testing.T) {
	scores(t, "nil", nil, 0, false)
	scores(t, "empty", []byte{}, 0, false)
}

// What is handed in stays, and what stands behind it does not count.
func TestWhatIsHandedInStays(t *testing.T) {
	for _, block := range [][]byte{full(), with(full(), 148, "1"), bare(), make([]byte, wholeBlock)} {
		for _, n := range []int{0, 1, 148, 511, 512} {
			whole := append(bytes.Clone(block), full()...)
			was := bytes.Clone(whole)
			b, alone := whole[:n], slices.Clip(bytes.Clone(block[:n]))
			if Points(b) != Points(alone) || Header(b) != Header(alone) || Suspect(b) != Suspect(alone) {
				t.Errorf("of %d bytes others count that stand behind them", n)
			}
			if !bytes.Equal(whole, was) {
				t.Errorf("of %d bytes some became others", n)
			}
		}
	}
}

// Header asks head alone, whatever the points are.
func TestHeaderIsParsed(t *testing.T) {
	for _, e := range []struct {
		b    []byte
		want api.Errno
	}{
		{full(), api.OK}, {sum.Seal(nil), api.OK}, {bare(), api.ErrSum}, {full()[:511], api.ErrShort},
		{sample.Changed(full(), 156, "8"), api.ErrKind}, {sample.Changed(full(), 100, "x"), api.ErrField},
	} {
		if _, got := head.Parse(e.b); got != e.want || Header(e.b) != (e.want == api.OK) {
			t.Errorf("Header = %v of what head parses as %v; want %v", Header(e.b), got, e.want)
		}
	}
}
