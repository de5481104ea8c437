package sparse

import (
	"bytes"
	"math"
	"slices"
	"strconv"
	"strings"
	"testing"

	"mudlark/api"
)

// parts are those of numbers, each At with the Len behind it.
func parts(numbers ...int) []api.Part {
	var l []api.Part
	for pair := range slices.Chunk(numbers, 2) {
		l = append(l, api.Part{At: pair[0], Len: pair[1]})
	}
	return l
}

// many are so many parts of a byte each, with a byte between.
func many(n int) []api.Part {
	var l []api.Part
	for i := range n {
		l = append(l, api.Part{At: 2 * i, Len: 1})
	}
	return l
}

// manyText is the text of many.
func manyText(n int) string {
	var l []string
	for i := range n {
		l = append(l, strconv.Itoa(2*i)+",1")
	}
	return strings.Join(l, ",")
}

// short is a list as a failure tells it.
func short(l []api.Part) string {
	s := strconv.Itoa(len(l)) + " parts"
	for _, p := range l[:min(len(l), 6)] {
		s += " " + strconv.Itoa(p.At) + "," + strconv.Itoa(p.Len)
	}
	return s
}

func checks(t *testing.T, l []api.Part, stored, real int, want api.Errno) {
	t.Helper()
	if e := Check(l, stored, real); e != want {
		t.Errorf("Check of %s, %d, %d = %d; want %d", short(l), stored, real, e, want)
	}
}

func parses(t *testing.T, s string, want []api.Part) {
	t.Helper()
	if l, ok := Parse(s); !slices.Equal(l, want) || !ok {
		t.Errorf("Parse of %d bytes, %.60q = %s, %v; want %s", len(s), s, short(l), ok, short(want))
	}
}

func isNone(t *testing.T, s string) {
	t.Helper()
	if l, ok := Parse(s); len(l) != 0 || ok {
		t.Errorf("Parse of %d bytes, %.60q = %s, %v", len(s), s, short(l), ok)
	}
}

func prints(t *testing.T, l []api.Part, want string) {
	t.Helper()
	if s := Print(l); s != want {
		t.Errorf("Print of %s = %d bytes, %.60q; want %.60q", short(l), len(s), s, want)
	}
}

func expands(t *testing.T, l []api.Part, real int, data, want string) {
	t.Helper()
	if b, e := Expand(l, real, []byte(data)); string(b) != want || e != api.OK {
		t.Errorf("Expand of %s, %d, %.40q = %d bytes, %.40q, %d; want %.40q", short(l), real, data, len(b), b, e, want)
	}
}

func refuses(t *testing.T, l []api.Part, real int, data string, want api.Errno) {
	t.Helper()
	if b, e := Expand(l, real, []byte(data)); len(b) != 0 || e != want {
		t.Errorf("Expand of %s, %d, %.40q = %d bytes, %.40q, %d; want %d", short(l), real, data, len(b), b, e, want)
	}
}

func TestExamples(t *testing.T) {
	l := parts(0, 5, 10, 2)
	parses(t, "0,5,10,2", l)
	prints(t, l, "0,5,10,2")
	expands(t, l, 12, "abcdefg", "abcde\x00\x00\x00\x00\x00fg")
}

func TestCheck(t *testing.T) {
	for _, c := range []struct {
		l            []api.Part
		stored, real int
		want         api.Errno
	}{
		{nil, 0, 0, api.OK},
		{nil, 0, 1, api.OK},
		{nil, 0, 1 << 40, api.OK},
		{parts(0, 5, 10, 2), 7, 12, api.OK},
		{parts(0, 5, 10, 2), 7, 13, api.OK},
		{parts(0, 5, 5, 2), 7, 7, api.OK},
		{parts(3, 5), 5, 8, api.OK},
		{parts(0, 0), 0, 0, api.OK},
		{parts(0, 0, 0, 0, 0, 0), 0, 0, api.OK},
		{parts(4, 0), 0, 4, api.OK},
		{parts(0, 4, 4, 0, 4, 0, 4, 1), 5, 5, api.OK},
		{parts(0, 1, 9, 0), 1, 9, api.OK},
		{parts(0, 1<<40), 1 << 40, 1 << 40, api.OK},
		{parts(1<<40-1, 1), 1, 1 << 40, api.OK},
		{parts(1<<40, 0), 0, 1 << 40, api.OK},

		// Another real.
		{nil, 0, -1, api.ErrForm},
		{nil, 0, 1<<40 + 1, api.ErrForm},
		{nil, 0, math.MinInt, api.ErrForm},
		{nil, 0, math.MaxInt, api.ErrForm},
		{parts(0, 5), 5, 1<<40 + 1, api.ErrForm},
		{parts(0, 1<<40+1), 1<<40 + 1, 1<<40 + 1, api.ErrForm},
		{parts(0, 0), 0, -1, api.ErrForm},
		{parts(-1, 0), 0, -1, api.ErrForm},

		// Below 0.
		{parts(-1, 1), 1, 12, api.ErrForm},
		{parts(-1, 0), 0, 12, api.ErrForm},
		{parts(-1, 5, 10, 2), 7, 12, api.ErrForm},
		{parts(0, 5, -1, 2), 7, 12, api.ErrForm},
		{parts(0, -1), -1, 12, api.ErrForm},
		{parts(5, -5), -5, 12, api.ErrForm},
		{parts(0, 5, 10, -1), 4, 12, api.ErrForm},
		{parts(10, -5, 5, 2), -3, 12, api.ErrForm},
		{parts(math.MinInt, 0), 0, 12, api.ErrForm},
		{parts(math.MinInt, math.MinInt), math.MinInt, 12, api.ErrForm},
		{parts(0, math.MinInt), math.MinInt, 12, api.ErrForm},

		// Ahead of the end of another.
		{parts(0, 5, 4, 2), 7, 12, api.ErrForm},
		{parts(0, 5, 0, 5), 10, 12, api.ErrForm},
		{parts(10, 2, 0, 5), 7, 12, api.ErrForm},
		{parts(0, 5, 3, 0), 5, 12, api.ErrForm},
		{parts(4, 0, 3, 0), 0, 12, api.ErrForm},
		{parts(0, 5, 10, 2, 5, 5), 12, 12, api.ErrForm},

		// Behind the end of all.
		{parts(0, 5, 10, 2), 7, 11, api.ErrForm},
		{parts(0, 5, 10, 2), 7, 4, api.ErrForm},
		{parts(0, 5, 10, 2), 7, 0, api.ErrForm},
		{parts(0, 1), 1, 0, api.ErrForm},
		{parts(13, 0), 0, 12, api.ErrForm},
		{parts(12, 1), 1, 12, api.ErrForm},
		{parts(1<<40, 1), 1, 1 << 40, api.ErrForm},
		{parts(1<<40+1, 0), 0, 1 << 40, api.ErrForm},
		{parts(0, 13), 13, 12, api.ErrForm},

		// Of so many bytes that numbers go round.
		{parts(0, math.MaxInt), math.MaxInt, 12, api.ErrForm},
		{parts(5, math.MaxInt), math.MaxInt, 12, api.ErrForm},
		{parts(math.MaxInt, 0), 0, 12, api.ErrForm},
		{parts(math.MaxInt, 1), 1, 12, api.ErrForm},
		{parts(math.MaxInt, math.MaxInt), math.MaxInt, 12, api.ErrForm},
		{parts(2, math.MaxInt, 2, math.MaxInt), -2, 12, api.ErrForm},
		{parts(1<<62, 1<<62, 0, 5), 5, 12, api.ErrForm},

		// Another sum.
		{nil, 1, 12, api.ErrForm},
		{nil, -1, 12, api.ErrForm},
		{parts(0, 5, 10, 2), 6, 12, api.ErrForm},
		{parts(0, 5, 10, 2), 8, 12, api.ErrForm},
		{parts(0, 5, 10, 2), 12, 12, api.ErrForm},
		{parts(0, 5, 10, 2), 0, 12, api.ErrForm},
		{parts(0, 5, 10, 2), -7, 12, api.ErrForm},
		{parts(0, 5, 10, 2), 2, 12, api.ErrForm},
		{parts(0, 5, 10, 2), math.MaxInt, 12, api.ErrForm},
		{parts(0, 5, 10, 2), math.MinInt, 12, api.ErrForm},
	} {
		checks(t, c.l, c.stored, c.real, c.want)
	}
}

func TestHowManyPartsAreChecked(t *testing.T) {
	for _, n := range []int{999, 1000} {
		checks(t, many(n), n, 2*n, api.OK)
		checks(t, many(n), n+1, 2*n, api.ErrForm)
		checks(t, make([]api.Part, n), 0, 0, api.OK)
	}
	// Too many are told ahead of all else.
	for _, n := range []int{1001, 1002, 5000} {
		checks(t, many(n), n, 2*n, api.ErrLong)
		checks(t, many(n), n+1, 2*n, api.ErrLong)
		checks(t, many(n), n, -1, api.ErrLong)
		checks(t, many(n), n, 5, api.ErrLong)
		checks(t, many(n), n, math.MaxInt, api.ErrLong)
		checks(t, make([]api.Part, n), 0, 0, api.ErrLong)
		checks(t, slices.Repeat(parts(-1, -1), n), 0, 0, api.ErrLong)
	}
}

// written are parts and their texts.
var written = []struct {
	l []api.Part
	s string
}{
	{nil, ""},
	{parts(0, 0), "0,0"},
	{parts(0, 5), "0,5"},
	{parts(7, 0), "7,0"},
	{parts(0, 5, 10, 2), "0,5,10,2"},
	{parts(10, 2, 0, 5), "10,2,0,5"},
	{parts(0, 0, 0, 0, 0, 0), "0,0,0,0,0,0"},
	{parts(1, 1, 1, 1), "1,1,1,1"},
	{parts(10, 100, 1000, 10000), "10,100,1000,10000"},
	{parts(1234567890, 9876543210), "1234567890,9876543210"},
	{parts(1000000000000, 999999999999), "1000000000000,999999999999"},
	{parts(9999999999999, 9999999999999), "9999999999999,9999999999999"},
	{parts(9999999999998, 1), "9999999999998,1"},
}

func TestWritten(t *testing.T) {
	for _, c := range written {
		parses(t, c.s, c.l)
		prints(t, c.l, c.s)
	}
}

func TestParseOfNone(t *testing.T) {
	for _, s := range []string{
		// Numbers that are odd in number, or none.
		"0", "5", "0,5,10", "0,0,0", ",", ",,", ",,,", "0,", ",0", "0,5,", ",0,5", "0,,5", "0,5,,10,2", "0,5,10,", "0,5,10,2,", ",0,5,10,2",

		// Noughts ahead of others.
		"00,5", "0,00", "0,05", "01,5", "0,5,010,2", "000,0", "0000000000000,0", "0,0000000000001", "0123456789012,0",

		// More digits.
		"10000000000000,0", "0,10000000000000", "99999999999999,0", "0,99999999999999", "00000000000005,0",
		"0,5,12345678901234,2", "9223372036854775807,0", "9223372036854775808,0", "18446744073709551616,0", "0,18446744073709551621",
		"4294967296000000000000,5", "1" + strings.Repeat("0", 100) + ",5", strings.Repeat("0", 100) + ",5", strings.Repeat("5", 3000),

		// Other bytes.
		"-1,5", "0,-5", "-0,5", "+1,5", "0,+5", " 0,5", "0 ,5", "0, 5", "0,5 ", "0,5\n", "\n0,5", "0,5\x00", "\x000,5", "0\x00,5", "0,5,\x00",
		"0.5", "0;5", "0:5", "0/5", "0,5;10,2", "0.0,5", "1e3,5", "0x5,5", "0b1,5", "0o7,5", "a,5", "0,f", "1_000,5", "0,5_0", "_1,5", "1_,5",
		"\u0660,5", "\u0665,5", "\u00bd,5", "\uff15,5", "0\u201a5", "0\uff0c5", "\xff,5", "0,\x80", "x", "\x00", " ", "\n", "NaN,5", "Inf,5", "1e,5",
		"/,5", ":,5", "0,/", "0,:", "1/,5", "1:,5",
	} {
		isNone(t, s)
	}
}

func TestHowManyPartsAreParsed(t *testing.T) {
	for _, n := range []int{1, 2, 999, 1000} {
		parses(t, manyText(n), many(n))
		isNone(t, manyText(n)+",")
		isNone(t, manyText(n)+",7")
		isNone(t, manyText(n)+",x")
		isNone(t, manyText(n)+",x,1")
	}
	for _, n := range []int{1001, 1002, 5000} {
		isNone(t, manyText(n))
		isNone(t, manyText(n)+",7")
		isNone(t, manyText(n)+",x")
	}
	isNone(t, strings.Repeat(",", 1<<20))
	isNone(t, strings.Repeat("0,", 1<<20)+"0")
	isNone(t, strings.Repeat("7", 1<<20)+",0")
}

func TestPrintClips(t *testing.T) {
	for _, c := range []struct {
		l    []api.Part
		want string
	}{
		{parts(-1, 5), "0,5"},
		{parts(5, -1), "5,0"},
		{parts(-1, -1, -5, -9999999999999), "0,0,0,0"},
		{parts(math.MinInt, math.MaxInt), "0,9999999999999"},
		{parts(math.MaxInt, math.MinInt), "9999999999999,0"},
		{parts(10000000000000, 9999999999999), "9999999999999,9999999999999"},
		{parts(1<<62, 1<<43, 1<<44, 3), "9999999999999,8796093022208,9999999999999,3"},
		{parts(-10, 1, 20, 10000000000001), "0,1,20,9999999999999"},
	} {
		prints(t, c.l, c.want)
	}
}

// TestPrintOfMany: more parts than are parsed are printed all the same.
func TestPrintOfMany(t *testing.T) {
	for _, n := range []int{999, 1000, 1001, 5000} {
		prints(t, many(n), manyText(n))
	}
}

func TestExpand(t *testing.T) {
	const o = "\x00"
	for _, c := range []struct {
		l          []api.Part
		real       int
		data, want string
	}{
		{nil, 0, "", ""},
		{nil, 3, "", o + o + o},
		{parts(0, 0), 0, "", ""},
		{parts(0, 3), 3, "abc", "abc"},
		{parts(0, 3), 5, "abc", "abc" + o + o},
		{parts(2, 3), 5, "abc", o + o + "abc"},
		{parts(1, 3), 5, "abc", o + "abc" + o},
		{parts(0, 1, 1, 1, 2, 1), 3, "abc", "abc"},
		{parts(0, 1, 2, 2), 5, "abc", "a" + o + "bc" + o},
		{parts(0, 0, 1, 1, 2, 0, 2, 0, 2, 1, 4, 0), 4, "ab", o + "ab" + o},
		{parts(0, 0, 4, 0), 4, "", o + o + o + o},
		{parts(1, 3), 5, "\x00a\x00", o + o + "a" + o + o},
		{parts(1, 2), 4, "\xff\x80", o + "\xff\x80" + o},
	} {
		expands(t, c.l, c.real, c.data, c.want)
	}
}

func TestExpandOfAsManyBytesAsMayBe(t *testing.T) {
	noughts := strings.Repeat("\x00", 1<<20)
	letters := strings.Repeat("abcdefgh", 1<<17)
	expands(t, nil, 1<<20, "", noughts)
	expands(t, nil, 1<<20-1, "", noughts[1:])
	expands(t, parts(0, 1<<20), 1<<20, letters, letters)
	expands(t, parts(1<<20-1, 1), 1<<20, "x", noughts[1:]+"x")
	expands(t, many(1000), 1<<20, strings.Repeat("x", 1000), strings.Repeat("x\x00", 1000)+noughts[2000:])

	for _, real := range []int{1<<20 + 1, 1<<20 + 512, 1 << 40} {
		refuses(t, nil, real, "", api.ErrLong)
		refuses(t, parts(0, 0), real, "", api.ErrLong)
		refuses(t, parts(0, 3), real, "abc", api.ErrLong)
		refuses(t, parts(real-3, 3), real, "abc", api.ErrLong)
		// What Check tells is told first.
		refuses(t, parts(0, 3), real, "ab", api.ErrForm)
		refuses(t, parts(0, 3, 2, 0), real, "abc", api.ErrForm)
		refuses(t, parts(0, -1), real, "", api.ErrForm)
	}
	refuses(t, parts(0, 1<<20+1), 1<<20+1, letters+"x", api.ErrLong)
}

func TestExpandRefuses(t *testing.T) {
	for _, c := range []struct {
		l    []api.Part
		real int
		data string
		want api.Errno
	}{
		{nil, -1, "", api.ErrForm},
		{nil, 1<<40 + 1, "", api.ErrForm},
		{nil, math.MaxInt, "", api.ErrForm},
		{nil, math.MinInt, "", api.ErrForm},
		{nil, 5, "a", api.ErrForm},
		{parts(0, 3), 3, "", api.ErrForm},
		{parts(0, 3), 3, "ab", api.ErrForm},
		{parts(0, 3), 3, "abcd", api.ErrForm},
		{parts(0, 3), 2, "abc", api.ErrForm},
		{parts(1, 3), 3, "abc", api.ErrForm},
		{parts(-1, 3), 3, "abc", api.ErrForm},
		{parts(0, -1, 0, 1), 3, "", api.ErrForm},
		{parts(0, 2, 1, 1), 3, "abc", api.ErrForm},
		{parts(2, 1, 0, 1), 3, "ab", api.ErrForm},
		{parts(math.MaxInt, 3), 3, "abc", api.ErrForm},
		{parts(0, math.MaxInt), 3, "abc", api.ErrForm},
		{parts(0, math.MinInt), 3, "abc", api.ErrForm},
		{many(1001), 2002, strings.Repeat("x", 1001), api.ErrLong},
		{many(1001), -1, "", api.ErrLong},
		{many(1001), 1 << 30, "", api.ErrLong},
	} {
		refuses(t, c.l, c.real, c.data, c.want)
	}
}

func TestFront(t *testing.T) {
	for _, c := range []struct {
		l    []api.Part
		n    int
		want []api.Part
	}{
		{nil, 0, nil},
		{nil, 5, nil},
		{parts(0, 5, 10, 2), 7, parts(0, 5, 10, 2)},
		{parts(0, 5, 10, 2), 8, parts(0, 5, 10, 2)},
		{parts(0, 5, 10, 2), 6, parts(0, 5, 10, 1)},
		{parts(0, 5, 10, 2), 5, parts(0, 5)},
		{parts(0, 5, 10, 2), 4, parts(0, 4)},
		{parts(0, 5, 10, 2), 1, parts(0, 1)},
		{parts(0, 5, 10, 2), 0, nil},
		{parts(0, 5, 10, 2), -1, nil},
		{parts(0, 5, 10, 2), math.MinInt, nil},
		{parts(0, 5, 10, 2), math.MaxInt, parts(0, 5, 10, 2)},

		// Those of no bytes, as long as others are lacking.
		{parts(0, 0), 0, nil},
		{parts(0, 0), 1, parts(0, 0)},
		{parts(0, 0, 3, 2, 5, 0), 2, parts(0, 0, 3, 2)},
		{parts(0, 0, 3, 2, 5, 0), 3, parts(0, 0, 3, 2, 5, 0)},
		{parts(0, 0, 3, 2, 5, 0, 9, 4), 1, parts(0, 0, 3, 1)},
		{parts(0, 0, 0, 0, 0, 0), 1, parts(0, 0, 0, 0, 0, 0)},

		// Whatever the parts are, wherever they begin.
		{parts(10, 2, 0, 5), 3, parts(10, 2, 0, 1)},
		{parts(-7, 2, math.MaxInt, 5, math.MinInt, 5), 8, parts(-7, 2, math.MaxInt, 5, math.MinInt, 1)},
		{parts(0, math.MaxInt), 3, parts(0, 3)},
		{parts(0, math.MaxInt), math.MaxInt, parts(0, math.MaxInt)},
		{parts(0, math.MaxInt, 5, 1), math.MaxInt, parts(0, math.MaxInt)},
		{parts(0, math.MaxInt-1, 5, 7), math.MaxInt, parts(0, math.MaxInt-1, 5, 1)},

		// Of less than no bytes more are lacking.
		{parts(0, -3, 5, 9), 4, parts(0, -3, 5, 7)},
		{parts(0, 1, 0, -1, 0, 2), 2, parts(0, 1, 0, -1, 0, 2)},
		{parts(0, 1, 0, -1, 0, 3), 2, parts(0, 1, 0, -1, 0, 2)},
		{parts(0, -3), 0, nil},
		{parts(0, -3), -5, nil},
		{parts(0, 4, 0, -3), 4, parts(0, 4)},

		// And numbers go round, so that none are.
		{parts(0, -1, 5, 9), math.MaxInt, parts(0, -1)},
		{parts(0, math.MinInt, 5, 9), 1, parts(0, math.MinInt)},
		{parts(0, math.MinInt, 5, 9), math.MaxInt, parts(0, math.MinInt)},
		{parts(0, math.MinInt+1, 5, 9), 1, parts(0, math.MinInt+1)},
		{parts(0, -math.MaxInt, 5, 9), 1, parts(0, -math.MaxInt)},
		{parts(0, 1-math.MaxInt, 5, 9), 1, parts(0, 1-math.MaxInt, 5, 9)},
		{parts(0, math.MinInt/2, 5, math.MinInt/2, 9, 9), 1, parts(0, math.MinInt/2, 5, math.MinInt/2)},
	} {
		if front := Front(c.l, c.n); !slices.Equal(front, c.want) {
			t.Errorf("Front of %s, %d = %s; want %s", short(c.l), c.n, short(front), short(c.want))
		}
	}
}

func TestFrontOfMany(t *testing.T) {
	for _, n := range []int{1, 1000, 1001, 5000} {
		if front := Front(many(5000), n); !slices.Equal(front, many(n)) {
			t.Errorf("Front of %d = %s", n, short(front))
		}
	}
}

func TestNilIsEmpty(t *testing.T) {
	for _, l := range [][]api.Part{nil, {}} {
		for _, data := range [][]byte{nil, {}} {
			checks(t, l, len(data), 0, api.OK)
			if b, e := Expand(l, 3, data); !bytes.Equal(b, make([]byte, 3)) || e != api.OK {
				t.Errorf("Expand of nothing = %q, %d", b, e)
			}
			if b, e := Expand(l, 0, data); len(b) != 0 || e != api.OK {
				t.Errorf("Expand of nothing to nothing = %q, %d", b, e)
			}
			if m, b := Pack(data); len(m) != 0 || len(b) != 0 {
				t.Errorf("Pack of nothing = %s, %q", short(m), b)
			}
			if m, isMore, ok := Old(data); len(m) != 0 || isMore || ok {
				t.Errorf("Old of nothing = %s, %v, %v", short(m), isMore, ok)
			}
		}
		prints(t, l, "")
		if front := Front(l, 5); len(front) != 0 {
			t.Errorf("Front of nothing = %s", short(front))
		}
	}
}

func TestPartsThatAreHandedInStay(t *testing.T) {
	// Behind the length stand parts that would count if they were read.
	was := append(parts(0, 5, 10, 2), parts(-1, -1, 11, 4, 20, 20)...)
	whole := slices.Clone(was)
	l := whole[:2]
	checks(t, l, 7, 12, api.OK)
	prints(t, l, "0,5,10,2")
	expands(t, l, 12, "abcdefg", "abcde\x00\x00\x00\x00\x00fg")
	for n := range 10 {
		front := Front(l, n)
		for i := range front {
			front[i] = api.Part{At: 9, Len: 9}
		}
		_ = append(front, api.Part{At: 9, Len: 9})
	}
	if front := Front(l, 100); !slices.Equal(front, l) {
		t.Errorf("Front = %s", short(front))
	}
	if !slices.Equal(whole, was) {
		t.Errorf("%v became %v", was, whole)
	}
}

func TestBytesThatAreHandedInStay(t *testing.T) {
	was := []byte(strings.Repeat("abcdefg", 300))
	for _, n := range []int{0, 1, 7, 511, 512, 513, 1024, 1500} {
		whole := bytes.Clone(was)
		b, e := Expand(parts(0, n), n, whole[:n])
		if !bytes.Equal(b, was[:n]) || e != api.OK {
			t.Errorf("Expand of %d bytes = %d bytes, %d", n, len(b), e)
		}
		l, data := Pack(whole[:n])
		if !bytes.Equal(data, was[:n]) || n > 0 && !slices.Equal(l, parts(0, n)) || n == 0 && len(l) != 0 {
			t.Errorf("Pack of %d bytes = %s, %d bytes", n, short(l), len(data))
		}
		Old(whole[:n])
		for _, out := range [][]byte{b, data} {
			out = out[:cap(out)]
			copy(out, bytes.Repeat([]byte("x"), len(out)))
		}
		if !bytes.Equal(whole, was) {
			t.Errorf("with %d bytes handed in, they became others", n)
		}
	}
}

func TestWhatComesOutIsNew(t *testing.T) {
	l, was := parts(0, 5, 10, 2), parts(0, 5, 10, 2)
	data := []byte("abcdefg")
	const want = "abcde\x00\x00\x00\x00\x00fg"
	one, _ := Expand(l, 12, data)
	other, _ := Expand(l, 12, data)
	spoil(one, nil)
	spoil(data, nil)
	if string(other) != want {
		t.Errorf("what was expanded became %q", other)
	}

	packed, stored := Pack(other)
	packedToo, storedToo := Pack(other)
	spoil(stored, packed)
	if string(other) != want || string(storedToo) != want || !slices.Equal(packedToo, parts(0, 12)) {
		t.Errorf("what was packed became %q, %s, %q", other, short(packedToo), storedToo)
	}

	front, frontToo := Front(l, 7), Front(l, 7)
	parsed, _ := Parse("0,5,10,2")
	parsedToo, _ := Parse("0,5,10,2")
	spoil(nil, front)
	spoil(nil, parsed)
	for _, m := range [][]api.Part{l, frontToo, parsedToo} {
		if !slices.Equal(m, was) {
			t.Errorf("parts became %s", short(m))
		}
	}
}

// spoil writes others over bytes and parts, as far as their memory goes.
func spoil(b []byte, l []api.Part) {
	b, l = b[:cap(b)], l[:cap(l)]
	for i := range b {
		b[i] = 'x'
	}
	for i := range l {
		l[i] = api.Part{At: -9, Len: -9}
	}
}
