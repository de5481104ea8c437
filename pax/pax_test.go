package pax

import (
	"bytes"
	"iter"
	"slices"
	"strconv"
	"strings"
	"testing"

	"mudlark/api"
)

// recs are records of keys, each with the value behind it.
func recs(words ...string) []api.Rec {
	var l []api.Rec
	for pair := range slices.Chunk(words, 2) {
		l = append(l, api.Rec{Key: pair[0], Value: pair[1]})
	}
	return l
}

// short is a list as a failure tells it.
func short(l []api.Rec) string {
	s := strconv.Itoa(len(l)) + " records"
	for _, r := range l[:min(len(l), 5)] {
		s += " " + strconv.Quote(r.Key[:min(len(r.Key), 20)]) + "=" + strconv.Quote(r.Value[:min(len(r.Value), 20)])
	}
	return s
}

func checkParse(t *testing.T, b string, want []api.Rec, err api.Errno) {
	t.Helper()
	if l, e := Parse([]byte(b)); !slices.Equal(l, want) || e != err {
		t.Errorf("Parse of %d bytes, %.60q = %s, %d; want %s, %d", len(b), b, short(l), e, short(want), err)
	}
}

func checkPrint(t *testing.T, l []api.Rec, want string, err api.Errno) {
	t.Helper()
	if b, e := Print(l); string(b) != want || e != err {
		t.Errorf("Print of %s = %d bytes, %.60q, %d; want %d bytes, %.60q, %d", short(l), len(b), b, e, len(want), want, err)
	}
}

// fill is a value so long.
func fill(n int) string {
	return strings.Repeat("v", n)
}

func TestRightOfKeys(t *testing.T) {
	for _, c := range []struct {
		key string
		ok  bool
	}{
		{"a", true},
		{"path", true},
		{"GNU.sparse.map", true},
		{"!", true},
		{"~", true},
		{"!~", true},
		{"<>", true},
		{"0", true},
		{"\"", true},
		{strings.Repeat("a", 5000), true},

		{"", false},
		{"=", false},
		{"a=", false},
		{"=a", false},
		{"a=b", false},
		{" ", false},
		{"a ", false},
		{" a", false},
		{"a b", false},
		{"\x00", false},
		{"a\x00", false},
		{"a\n", false},
		{"a\tb", false},
		{"\x1f", false},
		{"\x7f", false},
		{"a\x7f", false},
		{"\x80", false},
		{"\xff", false},
		{"a\xff", false},
		{"\u00e9", false},
		{"a\u20ac", false},
		{"\U0001f600", false},
		{strings.Repeat("a", 5000) + " ", false},
	} {
		for _, value := range []string{"", "b", "=\n"} {
			if ok := Right(api.Rec{Key: c.key, Value: value}); ok != c.ok {
				t.Errorf("Right(%.20q, %q) = %v", c.key, value, ok)
			}
		}
	}
}

func TestRightOfValues(t *testing.T) {
	for _, c := range []struct {
		value string
		ok    bool
	}{
		{"", true},
		{"b", true},
		{" ", true},
		{"=", true},
		{"\n", true},
		{"6 a=b\n", true},
		{"\x01\x1f\x7f", true},
		{"\xff\x80\xc3", true},
		{"\u00e9\u20ac", true},
		{fill(5000), true},

		{"\x00", false},
		{"b\x00", false},
		{"\x00b", false},
		{"b\x00b", false},
		{fill(5000) + "\x00", false},
	} {
		if ok := Right(api.Rec{Key: "a", Value: c.value}); ok != c.ok {
			t.Errorf("Right(a, %.20q) = %v", c.value, ok)
		}
		if Right(api.Rec{Value: c.value}) || Right(api.Rec{Key: "=", Value: c.value}) {
			t.Errorf("Right of a wrong key, and %.20q", c.value)
		}
	}
}

func TestRightOfEachByte(t *testing.T) {
	for i := range 256 {
		one := string([]byte{byte(i)})
		want := i >= 0x21 && i <= 0x7e && i != '='
		for _, key := range []string{one, "a" + one, one + "a", "a" + one + "a"} {
			if ok := Right(api.Rec{Key: key, Value: "b"}); ok != want {
				t.Errorf("Right(%q, b) = %v", key, ok)
			}
		}
		for _, value := range []string{one, "b" + one, one + "b", "b" + one + "b"} {
			if ok := Right(api.Rec{Key: "a", Value: value}); ok != (i != 0) {
				t.Errorf("Right(a, %q) = %v", value, ok)
			}
		}
	}
}

// written are records and their lines.
var written = []struct {
	l []api.Rec
	b string
}{
	{recs("a", "b"), "6 a=b\n"},
	{nil, ""},
	{recs("a", ""), "5 a=\n"},
	{recs("~", "\xff"), "6 ~=\xff\n"},
	{recs("path", "x/y"), "12 path=x/y\n"},
	{recs("mtime", "1350244992.023960108"), "30 mtime=1350244992.023960108\n"},
	{recs("a", "="), "6 a==\n"},
	{recs("a", "b=c"), "8 a=b=c\n"},
	{recs("a", "\n"), "6 a=\n\n"},
	{recs("a", "b\n"), "7 a=b\n\n"},
	{recs("a", "\n6 b=c\n"), "13 a=\n6 b=c\n\n"},
	{recs("a", " "), "6 a= \n"},
	{recs("a", "\u00e9"), "7 a=\u00e9\n"},
	{recs("6", "6"), "6 6=6\n"},
	{recs("a", "b", "c", "d"), "6 a=b\n6 c=d\n"},
	{recs("c", "d", "a", "b"), "6 c=d\n6 a=b\n"},
	{recs("a", "b", "a", "b"), "6 a=b\n6 a=b\n"},
	{recs("a", "b", "a", "", "a", "c"), "6 a=b\n5 a=\n6 a=c\n"},
	{recs("a", "b", "path", "x/y", "c", ""), "6 a=b\n12 path=x/y\n5 c=\n"},
}

func TestWritten(t *testing.T) {
	for _, c := range written {
		checkPrint(t, c.l, c.b, api.OK)
		checkParse(t, c.b, c.l, api.OK)
	}
}

// TestDigitsOfALine is of those lines of which one with a digit more has just so many bytes as that tells.
func TestDigitsOfALine(t *testing.T) {
	for _, c := range []struct {
		value       int
		fewer, more string
	}{
		{4, "9", "10"},
		{93, "99", "100"},
		{992, "999", "1000"},
		{9991, "9999", "10000"},
		{99990, "99999", "100000"},
		{999989, "999999", "1000000"},
	} {
		l := recs("a", fill(c.value))
		text := " a=" + fill(c.value) + "\n"
		wide, _ := strconv.Atoi(c.fewer)
		if len(c.fewer+text) != wide || len(c.more+text) != wide+1 {
			t.Fatalf("%s bytes are not what they are to be", c.fewer)
		}
		checkPrint(t, l, c.fewer+text, api.OK)
		checkParse(t, c.fewer+text, l, api.OK)
		checkParse(t, c.more+text, nil, api.ErrRecs)

		// With a byte more there is no line but the one with more digits.
		l = recs("a", fill(c.value+1))
		text = " a=" + fill(c.value+1) + "\n"
		longer := strconv.Itoa(wide + 2)
		checkPrint(t, l, longer+text, api.OK)
		checkParse(t, longer+text, l, api.OK)
		checkParse(t, c.more+text, nil, api.ErrRecs)
		checkParse(t, strconv.Itoa(wide+1)+text, nil, api.ErrRecs)
		checkParse(t, c.fewer+text, nil, api.ErrRecs)
	}
}

func TestLinesOfEachLength(t *testing.T) {
	for n := range 1200 {
		for _, key := range []string{"a", "key"} {
			l := recs(key, fill(n))
			want := lineByWords(l[0])
			checkPrint(t, l, want, api.OK)
			checkParse(t, want, l, api.OK)
		}
	}
}

func TestParseOfWrongLines(t *testing.T) {
	for _, b := range []string{
		"5 a=b\n",
		"7 a=b\n",
		"7 a=b\n\x00",
		"4 a=\n",
		"6 a=\n",
		"0 a=b\n",
		"1 a=b\n",
		"2 a=b\n",
		"3 a=b\n",
		"06 a=b\n",
		"07 a=b\n",
		"006 a=b\n",
		"008 a=b\n",
		"+6 a=b\n",
		"+7 a=b\n",
		"-6 a=b\n",
		"-1 a=b\n",
		"6.0 a=b\n",
		"0x6 a=b\n",
		" 6 a=b\n",
		"\n6 a=b\n",
		"6\ta=b\n",
		"6  a=b\n",
		"7  a=b\n",
		"6a=b\n",
		"5a=b\n",
		"\x06 a=b\n",
		"\u0666 a=b\n",
		"\u06668 a=b\n",
		"/6 a=b\n",
		":6 a=b\n",
		"6: a=b\n",
		"6/ a=b\n",
		// Of these the wrong digit, taken as ten or (as a byte goes round) as 255, would tell how many bytes there are.
		"1: a=" + fill(14) + "\n",
		"12/ a=" + fill(368) + "\n",
		"1:0 a=" + fill(193) + "\n",

		"6 a=b",
		"5 a=b",
		"6 a=b\r",
		"6 a=b\x00",
		"7 a=b\r\nx",
		"6 a=bc",
		"6 abc\n",
		"6 \nabc",
		"4 a\n",
		"3 \n",
		"2 ",
		"1 ",
		"0 ",
		" ",
		"3 =",
		"4 =\n",
		"5 =b\n",
		"5 ==\n",
		"6  =b\n",
		"7 a =b\n",
		"7 a\n=b\n",
		"7 a\x00=b\n",
		"7 a\x7f=b\n",
		"7 \u00e9=b\n",
		"7 a\xff=b\n",
		"6 a=\x00\n",
		"7 a=b\x00\n",
		"7 a=\x00b\n",

		"6", "66", "a", "a=b\n", "=", "\n", "\x00", "\xff",
		"6 a=b\n6",
		"6 a=b\n6 ",
		"6 a=b\n6 c=d",
		"6 a=b\n\n",
		"6 a=b\n\x00",
		"6 a=b\n ",
		"6 a=b\n5 c=d\n",
		"6 a=b\n7 c=d\n",
		"5 a=b\n6 c=d\n",
		"12 a=b\n6 c=d\n6",
		"6 a=b\n0 ",
		"6 a=b\n6 c=d\n4 =\n",
		"6 a=b\n6 a=b\n06 a=b\n",
		"6 a=b\n" + strings.Repeat("\x00", 506),

		strings.Repeat("0", 100) + "6 a=b\n",
		strings.Repeat("6", 100),
		strings.Repeat("6", 100) + " a=b\n",
		strings.Repeat("0", api.MaxExt),
		strings.Repeat("9", api.MaxExt),
		strings.Repeat(" ", api.MaxExt),
		strings.Repeat("\x00", api.MaxExt),
		strings.Repeat("6 a=b\n", 900) + "6 a=b",
		"9223372036854775807 a=b\n",
		"9223372036854775808 a=b\n",
		"18446744073709551616 a=b\n",
		// Numbers that are 6, where they go round: of 64, 32, 16, and 8 bits.
		"18446744073709551622 a=b\n",
		"4294967302 a=b\n",
		"65542 a=b\n",
		"262 a=b\n",
	} {
		checkParse(t, b, nil, api.ErrRecs)
	}
}

// lineByWords is a record's line, as the chapter has it.
func lineByWords(r api.Rec) string {
	text := " " + r.Key + "=" + r.Value + "\n"
	for digits := 1; ; digits++ {
		number := strconv.Itoa(digits + len(text))
		if len(number) == digits {
			return number + text
		}
	}
}

// rightByWords says so of a record whose key, up to the first `=` as it was cut, has none.
func rightByWords(r api.Rec) bool {
	for i := range len(r.Key) {
		if r.Key[i] < 0x21 || r.Key[i] > 0x7e {
			return false
		}
	}
	return r.Key != "" && !strings.Contains(r.Value, "\x00")
}

// parseByWords goes through all fronts of b, till one of them is a line.
func parseByWords(b string) ([]api.Rec, api.Errno) {
	var l []api.Rec
	for b != "" {
		n := lineAhead(b)
		if n == 0 {
			return nil, api.ErrRecs
		}
		_, text, _ := strings.Cut(b[:n-1], " ")
		key, value, _ := strings.Cut(text, "=")
		l = append(l, api.Rec{Key: key, Value: value})
		b = b[n:]
	}
	return l, api.OK
}

// lineAhead is how many bytes the line has that b begins with; 0: there is none.
func lineAhead(b string) int {
	for n := 1; n <= len(b); n++ {
		if b[n-1] != '\n' {
			continue
		}
		_, text, _ := strings.Cut(b[:n-1], " ")
		key, value, _ := strings.Cut(text, "=")
		r := api.Rec{Key: key, Value: value}
		if rightByWords(r) && lineByWords(r) == b[:n] {
			return n
		}
	}
	return 0
}

// spelt tells all texts of up to so many of these bytes.
func spelt(alphabet string, most int) iter.Seq[string] {
	return func(yield func(string) bool) {
		count := 1
		for long := range most + 1 {
			b := make([]byte, long)
			for n := range count {
				for i := range b {
					b[i] = alphabet[n%len(alphabet)]
					n /= len(alphabet)
				}
				if !yield(string(b)) {
					return
				}
			}
			count *= len(alphabet)
		}
	}
}

// near tells what is a byte off: another one, one less, one more.
func near(b string) iter.Seq[string] {
	return func(yield func(string) bool) {
		for i := range len(b) {
			if !yield(b[:i] + b[i+1:]) {
				return
			}
			for c := range 256 {
				one := string([]byte{byte(c)})
				if !yield(b[:i]+one+b[i+1:]) || !yield(b[:i]+one+b[i:]) || !yield(b+one) {
					return
				}
			}
		}
	}
}

func checkByWords(t *testing.T, b string) {
	t.Helper()
	want, err := parseByWords(b)
	l, e := Parse([]byte(b))
	if !slices.Equal(l, want) || e != err {
		t.Fatalf("Parse(%q) = %q, %d; want %q, %d", b, l, e, want, err)
	}
	if e != api.OK {
		return
	}
	if back, f := Print(l); string(back) != b || f != api.OK {
		t.Fatalf("Parse(%q), printed: %q, %d", b, back, f)
	}
}

func TestParseByWords(t *testing.T) {
	for b := range spelt("0567 =a\n\x00", 6) {
		checkByWords(t, b)
	}
	for b := range spelt("1 =a\n", 7) {
		checkByWords(t, "6 a=b\n"+b)
		checkByWords(t, b+"6 a=b\n")
		checkByWords(t, "10 "+b)
		checkByWords(t, "9 "+b)
	}
}

func TestParseNearWhatIsWritten(t *testing.T) {
	for _, c := range written {
		for b := range near(c.b) {
			checkByWords(t, b)
		}
	}
}

func TestThereAndBack(t *testing.T) {
	var l []api.Rec
	for key := range spelt("!~a<", 2) {
		for value := range spelt("a= \n\xff", 3) {
			if r := (api.Rec{Key: key, Value: value}); Right(r) {
				l = append(l, r)
			}
		}
	}
	if len(l) < 2*api.MaxRecs {
		t.Fatalf("%d records", len(l))
	}
	for part := range slices.Chunk(l, api.MaxRecs) {
		b, e := Print(part)
		if e != api.OK {
			t.Fatalf("Print of %s: %d", short(part), e)
		}
		checkParse(t, string(b), part, api.OK)
	}
}

func TestPrintOfWrongRecords(t *testing.T) {
	for _, r := range recs(
		"", "",
		"", "b",
		"=", "b",
		"a=", "b",
		"a b", "c",
		"a\n", "b",
		"a\x00", "b",
		"\x7f", "b",
		"\u00e9", "b",
		"a", "\x00",
		"a", "b\x00",
	) {
		checkPrint(t, []api.Rec{r}, "", api.ErrRecs)
		checkPrint(t, []api.Rec{r, {Key: "a", Value: "b"}}, "", api.ErrRecs)
		checkPrint(t, []api.Rec{{Key: "a", Value: "b"}, r}, "", api.ErrRecs)
		checkPrint(t, []api.Rec{{Key: "a", Value: "b"}, r, {Key: "a", Value: "b"}}, "", api.ErrRecs)

		// What is wrong is told ahead of what is too long.
		checkPrint(t, append(slices.Repeat(recs("a", "b"), api.MaxRecs), r), "", api.ErrRecs)
		checkPrint(t, append([]api.Rec{r}, slices.Repeat(recs("a", "b"), api.MaxRecs)...), "", api.ErrRecs)
		checkPrint(t, append(slices.Repeat(recs("a", "b"), api.MaxRecs-1), r), "", api.ErrRecs)
		checkPrint(t, []api.Rec{{Key: "a", Value: fill(api.MaxExt)}, r}, "", api.ErrRecs)
		checkPrint(t, []api.Rec{r, {Key: "a", Value: fill(api.MaxExt)}}, "", api.ErrRecs)
	}
}

func TestHowManyRecords(t *testing.T) {
	line := recs("a", "b")
	for _, n := range []int{999, 1000} {
		l, b := slices.Repeat(line, n), strings.Repeat("6 a=b\n", n)
		checkPrint(t, l, b, api.OK)
		checkParse(t, b, l, api.OK)
	}
	for _, n := range []int{1001, 1002, 2000, api.MaxExt / 6} {
		l, b := slices.Repeat(line, n), strings.Repeat("6 a=b\n", n)
		checkPrint(t, l, "", api.ErrLong)
		checkParse(t, b, nil, api.ErrLong)
		// Many lines, and what is none, are no records.
		checkParse(t, b+"x", nil, api.ErrRecs)
		checkParse(t, "x"+b, nil, api.ErrRecs)
		checkParse(t, b[:len(b)-1], nil, api.ErrRecs)
	}
	checkParse(t, strings.Repeat("6 a=b\n", 1000)+"x", nil, api.ErrRecs)
	checkParse(t, strings.Repeat("6 a=b\n", 1000)+"06 a=b\n", nil, api.ErrRecs)
}

func TestHowManyBytes(t *testing.T) {
	// A line of all the bytes that may be: seven digits, a blank, `a`, `=`, and a line feed.
	const most = api.MaxExt - 11
	for _, n := range []int{most - 1, most} {
		l := recs("a", fill(n))
		b := strconv.Itoa(n+11) + " a=" + fill(n) + "\n"
		checkPrint(t, l, b, api.OK)
		checkParse(t, b, l, api.OK)
	}
	for _, n := range []int{most + 1, most + 2, api.MaxExt, 2 * api.MaxExt} {
		checkPrint(t, recs("a", fill(n)), "", api.ErrLong)
		checkParse(t, strconv.Itoa(n+11)+" a="+fill(n)+"\n", nil, api.ErrLong)
	}
	checkPrint(t, recs(strings.Repeat("k", api.MaxExt), "b"), "", api.ErrLong)

	// And of some lines together.
	front := recs("a", "b", "c", "")
	for _, n := range []int{most - 12, most - 11, most - 10, most} {
		l := append(slices.Clone(front), api.Rec{Key: "a", Value: fill(n)})
		b := "6 a=b\n5 c=\n" + strconv.Itoa(n+11) + " a=" + fill(n) + "\n"
		if len(b) <= api.MaxExt {
			checkPrint(t, l, b, api.OK)
			checkParse(t, b, l, api.OK)
		} else {
			checkPrint(t, l, "", api.ErrLong)
			checkParse(t, b, nil, api.ErrLong)
		}
	}
	full := recs("a", fill(most))
	for _, l := range [][]api.Rec{append(recs("b", ""), full...), append(full, recs("b", "")...), slices.Repeat(full, 3)} {
		checkPrint(t, l, "", api.ErrLong)
	}

	// What is too long is told ahead of what is no line.
	checkParse(t, strings.Repeat("\x00", api.MaxExt+1), nil, api.ErrLong)
	checkParse(t, strings.Repeat("x", 3*api.MaxExt), nil, api.ErrLong)
	checkParse(t, strings.Repeat("6 a=b\n", api.MaxExt/3), nil, api.ErrLong)
}

// TestManyLongRecords asks for more bytes than there may be, without making them.
func TestManyLongRecords(t *testing.T) {
	checkPrint(t, slices.Repeat(recs("a", fill(api.MaxExt)), api.MaxRecs), "", api.ErrLong)
	checkPrint(t, slices.Repeat(recs("a", fill(2000)), api.MaxRecs), "", api.ErrLong)
}

func TestFind(t *testing.T) {
	l := recs("a", "1", "b", "2", "a", "3", "c", "", "b", "4", "d", "5", "d", "")
	for _, c := range []struct {
		key, value string
		ok         bool
	}{
		{"a", "3", true},
		{"b", "4", true},
		{"c", "", true},
		{"d", "", true},
		{"e", "", false},
		{"", "", false},
		{"A", "", false},
		{"aa", "", false},
		{"a=", "", false},
		{" a", "", false},
	} {
		if value, ok := Find(l, c.key); value != c.value || ok != c.ok {
			t.Errorf("Find of %q = %q, %v; want %q, %v", c.key, value, ok, c.value, c.ok)
		}
	}
	if value, ok := Find(nil, "a"); value != "" || ok {
		t.Errorf("Find in nothing = %q, %v", value, ok)
	}
	if value, ok := Find(nil, ""); value != "" || ok {
		t.Errorf("Find of no key in nothing = %q, %v", value, ok)
	}
}

// TestFindOfWrongKeys: a list may have records that are not Right, and they are found like others.
func TestFindOfWrongKeys(t *testing.T) {
	l := recs("", "1", "a=b", "2", "\xff", "\x00", "a", "b=c")
	for _, r := range l {
		if value, ok := Find(l, r.Key); value != r.Value || !ok {
			t.Errorf("Find of %q = %q, %v", r.Key, value, ok)
		}
	}
	if value, ok := Find(l, "a="); value != "" || ok {
		t.Errorf("Find of a= = %q, %v", value, ok)
	}
}

func TestMerge(t *testing.T) {
	for _, c := range []struct {
		l, over, want []api.Rec
	}{
		{nil, nil, nil},
		{recs("a", "1"), nil, recs("a", "1")},
		{nil, recs("a", "1"), recs("a", "1")},
		{recs("a", "1"), recs("a", "2"), recs("a", "2")},
		{recs("a", "2"), recs("a", "1"), recs("a", "1")},
		{recs("a", "1"), recs("b", "2"), recs("a", "1", "b", "2")},
		{recs("b", "1"), recs("a", "2"), recs("a", "2", "b", "1")},
		{recs("c", "1", "a", "2", "b", "3"), nil, recs("a", "2", "b", "3", "c", "1")},
		{nil, recs("c", "1", "a", "2", "b", "3"), recs("a", "2", "b", "3", "c", "1")},
		{recs("d", "1", "b", "2"), recs("c", "3", "a", "4"), recs("a", "4", "b", "2", "c", "3", "d", "1")},

		// The last one of each counts.
		{recs("a", "1", "a", "2"), nil, recs("a", "2")},
		{nil, recs("a", "1", "a", "2"), recs("a", "2")},
		{recs("a", "1", "a", "2"), recs("a", "3", "a", "4"), recs("a", "4")},
		{recs("a", "1", "b", "2", "a", "3"), recs("b", "4", "c", "5", "b", "6"), recs("a", "3", "b", "6", "c", "5")},

		// One without a value takes the others away, but not those behind it.
		{recs("a", ""), nil, nil},
		{nil, recs("a", ""), nil},
		{recs("a", "1"), recs("a", ""), nil},
		{recs("a", ""), recs("a", "1"), recs("a", "1")},
		{recs("a", "1", "a", ""), nil, nil},
		{recs("a", "", "a", "1"), nil, recs("a", "1")},
		{recs("a", "1"), recs("a", "2", "a", ""), nil},
		{recs("a", "1"), recs("a", "", "a", "2"), recs("a", "2")},
		{recs("a", "1", "b", "2", "c", "3"), recs("b", ""), recs("a", "1", "c", "3")},
		{recs("a", "1", "b", "2"), recs("b", "", "a", ""), nil},
		{recs("a", "1"), recs("b", ""), recs("a", "1")},

		// Byte by byte, not as numbers or as letters.
		{recs("b", "1", "B", "2", "a", "3", "A", "4"), nil, recs("A", "4", "B", "2", "a", "3", "b", "1")},
		{recs("10", "1", "9", "2", "1", "3"), nil, recs("1", "3", "10", "1", "9", "2")},
		{recs("ab", "1", "a", "2", "a!", "3"), recs("aa", "4"), recs("a", "2", "a!", "3", "aa", "4", "ab", "1")},
		{recs("\xff", "1", "\u00e9", "2", "z", "3", "\U0001f600", "4", "\uffff", "5"), nil,
			recs("z", "3", "\u00e9", "2", "\uffff", "5", "\U0001f600", "4", "\xff", "1")},

		// Records that are not Right are merged like others.
		{recs("", "1", "a=b", "2"), recs("\x00", "\x00", "a", "b=c"), recs("", "1", "\x00", "\x00", "a", "b=c", "a=b", "2")},
		{recs("", "1"), recs("", ""), nil},
	} {
		if m := Merge(c.l, c.over); !slices.Equal(m, c.want) {
			t.Errorf("Merge(%q, %q) = %q; want %q", c.l, c.over, m, c.want)
		}
	}
}

// mergeByWords asks for each key that there may be.
func mergeByWords(l, over []api.Rec, keys []string) []api.Rec {
	var m []api.Rec
	for _, key := range keys {
		value, ok := Find(over, key)
		if !ok {
			value, _ = Find(l, key)
		}
		if value != "" {
			m = append(m, api.Rec{Key: key, Value: value})
		}
	}
	return m
}

func TestMergeByWords(t *testing.T) {
	keys := []string{"a", "b", "c"}
	var lists [][]api.Rec
	for s := range spelt("aAbBcC", 3) {
		var l []api.Rec
		for i, c := range s {
			r := api.Rec{Key: strings.ToLower(string(c))}
			if c >= 'a' {
				r.Value = strconv.Itoa(i)
			}
			l = append(l, r)
		}
		lists = append(lists, l)
	}
	for _, l := range lists {
		for _, over := range lists {
			if m, want := Merge(l, over), mergeByWords(l, over, keys); !slices.Equal(m, want) {
				t.Fatalf("Merge(%q, %q) = %q; want %q", l, over, m, want)
			}
		}
	}
}

func TestMergeOfMany(t *testing.T) {
	const many = 3000
	var l, want []api.Rec
	for i := range many {
		l = append(l, api.Rec{Key: strconv.Itoa(10*many - i), Value: "v"})
		want = append(want, api.Rec{Key: strconv.Itoa(9*many + 1 + i), Value: "v"})
	}
	for range 5 {
		if m := Merge(l, nil); !slices.Equal(m, want) {
			t.Fatalf("Merge of %s = %s", short(l), short(m))
		}
		if m := Merge(l[:many/2], l[many/2:]); !slices.Equal(m, want) {
			t.Fatalf("Merge of %s, in halves = %s", short(l), short(m))
		}
	}
}

func TestWhatIsMergedStays(t *testing.T) {
	m := Merge(recs("b", "1", "a", "2", "c", ""), recs("d", "3", "b", "4"))
	for _, again := range [][]api.Rec{Merge(m, nil), Merge(nil, m), Merge(m, m)} {
		if !slices.Equal(again, m) {
			t.Errorf("%q became %q", m, again)
		}
	}
}

func TestNilIsEmpty(t *testing.T) {
	for _, b := range [][]byte{nil, {}} {
		if l, e := Parse(b); len(l) != 0 || e != api.OK {
			t.Errorf("Parse of nothing = %q, %d", l, e)
		}
	}
	empty := []api.Rec{}
	for _, l := range [][]api.Rec{nil, empty} {
		if b, e := Print(l); len(b) != 0 || e != api.OK {
			t.Errorf("Print of nothing = %q, %d", b, e)
		}
		if _, ok := Find(l, "a"); ok {
			t.Error("Find of nothing")
		}
		for _, over := range [][]api.Rec{nil, empty} {
			if m := Merge(l, over); len(m) != 0 {
				t.Errorf("Merge of nothing = %q", m)
			}
		}
		if a, b := Merge(recs("a", "b"), l), Merge(l, recs("a", "b")); !slices.Equal(a, recs("a", "b")) || !slices.Equal(b, a) {
			t.Errorf("Merge with nothing = %q, %q", a, b)
		}
	}
}

func TestBytesThatAreHandedInStay(t *testing.T) {
	for _, s := range []string{"6 a=b\n", "6 a=b\n6 c=d\n", "6 a=b", "", "7 a=b\n", "6"} {
		for _, behind := range []string{"6 e=f\n", "\n", "\x00", " a=b\n"} {
			whole := []byte(s + behind)
			l, e := Parse(whole[:len(s)])
			alone, f := Parse([]byte(s))
			if !slices.Equal(l, alone) || e != f {
				t.Errorf("Parse(%q) = %q, %d with bytes behind it, %q, %d without", s, l, e, alone, f)
			}
			if string(whole) != s+behind {
				t.Errorf("%q became %q", s+behind, whole)
			}
		}
	}
}

func TestRecordsThatAreHandedInStay(t *testing.T) {
	hidden := recs("", "\x00", "a", "hidden", "z", "hidden")
	was := append(recs("b", "1", "a", "2", "b", ""), hidden...)
	whole := slices.Clone(was)
	l := whole[:3]
	checkPrint(t, l, "6 b=1\n6 a=2\n5 b=\n", api.OK)
	if value, ok := Find(l, "a"); value != "2" || !ok {
		t.Errorf("Find = %q, %v", value, ok)
	}
	if _, ok := Find(l, "z"); ok {
		t.Error("Find behind the length")
	}
	over := whole[1:2]
	if m := Merge(l, over); !slices.Equal(m, recs("a", "2")) {
		t.Errorf("Merge = %q", m)
	}
	if m := Merge(over, l); !slices.Equal(m, recs("a", "2")) {
		t.Errorf("Merge = %q", m)
	}
	if !slices.Equal(whole, was) {
		t.Errorf("%q became %q", was, whole)
	}
}

func TestRecordsThatComeOutAreNew(t *testing.T) {
	b := []byte("6 a=b\n6 c=d\n")
	want := recs("a", "b", "c", "d")
	l, _ := Parse(b)
	other, _ := Parse(b)
	copy(b, bytes.Repeat([]byte("x"), len(b)))
	l[0], l[1] = api.Rec{}, api.Rec{}
	if again, _ := Parse([]byte("6 a=b\n6 c=d\n")); !slices.Equal(other, want) || !slices.Equal(again, want) {
		t.Errorf("Parse: %q and %q", other, again)
	}

	for _, over := range [][]api.Rec{nil, recs("c", "d")} {
		m := Merge(other, over)
		m[0], m[1] = api.Rec{}, api.Rec{}
		_ = append(m[:1], recs("x", "x", "x", "x")...)
		if !slices.Equal(other, want) {
			t.Errorf("what is merged became %q", other)
		}
		if again := Merge(other, over); !slices.Equal(again, want) {
			t.Errorf("Merge: %q", again)
		}
	}
}

func TestBytesThatComeOutAreNew(t *testing.T) {
	l := recs("a", "b", "c", "d")
	one, _ := Print(l)
	other, _ := Print(l)
	copy(one, bytes.Repeat([]byte("x"), len(one)))
	again, _ := Print(l)
	if want := "6 a=b\n6 c=d\n"; string(other) != want || string(again) != want {
		t.Errorf("Print: %q and %q; want %q", other, again, want)
	}
	if !slices.Equal(l, recs("a", "b", "c", "d")) {
		t.Errorf("what is printed became %q", l)
	}
}
