package stamp

import (
	"cmp"
	"math"
	"math/big"
	"regexp"
	"slices"
	"strings"
	"testing"

	"mudlark/api"
)

const (
	end  = 999_999_999_999_999
	last = 999_999_999
)

func TestParse(t *testing.T) {
	for _, c := range []struct {
		text string
		s, n int
	}{
		{"0", 0, 0},
		{"1", 1, 0},
		{"9", 9, 0},
		{"10", 10, 0},
		{"1234567890", 1234567890, 0},
		{"00", 0, 0},
		{"007", 7, 0},
		{"000000000000000", 0, 0},
		{"000000000000001", 1, 0},
		{"999999999999999", end, 0},
		{"0.0", 0, 0},
		{"0.5", 0, 500000000},
		{"1.5", 1, 500000000},
		{"1.50", 1, 500000000},
		{"1.05", 1, 50000000},
		{"1.1", 1, 100000000},
		{"1.123456789", 1, 123456789},
		{"1.000000001", 1, 1},
		{"1.0000000019", 1, 1},
		{"1.0000000009", 1, 0},
		{"1.000000000999999999", 1, 0},
		{"1.999999999999999999", 1, last},
		{"1.123456789123456789", 1, 123456789},
		{"1.000000000000000000", 1, 0},
		{"999999999999999.999999999999999999", end, last},
		{"1600000000.25", 1600000000, 250000000},

		{"-0", 0, 0},
		{"-00", 0, 0},
		{"-0.0", 0, 0},
		{"-0.0000000009", 0, 0},
		{"-0.000000000999999999", 0, 0},
		{"-0.000000001", -1, last},
		{"-0.0000000019", -1, last},
		{"-0.5", -1, 500000000},
		{"-0.999999999", -1, 1},
		{"-0.9999999999", -1, 1},
		{"-1", -1, 0},
		{"-1.0", -1, 0},
		{"-1.0000000009", -1, 0},
		{"-1.5", -2, 500000000},
		{"-1.25", -2, 750000000},
		{"-1.000000001", -2, last},
		{"-1.999999999", -2, 1},
		{"-007.5", -8, 500000000},
		{"-999999999999998.5", -end, 500000000},
		{"-999999999999999", -end, 0},
		{"-999999999999999.0", -end, 0},
		{"-999999999999999.000000001", -end - 1, last},
		{"-999999999999999.999999999999999999", -end - 1, 1},
	} {
		want := api.Time{S: c.s, N: c.n}
		if x, ok := Parse(c.text); x != want || !ok {
			t.Errorf("Parse(%q) = %v, %v; want %v", c.text, x, ok, want)
		}
	}
}

func TestParseOfNone(t *testing.T) {
	for _, text := range []string{
		"", "-", ".", "-.", "--", "--1", "+1", "-+1", "1-", "1-1",
		".5", "-.5", "5.", "-5.", "1..5", "1.5.", "1.5.5", "1.-5", "-1.-5", "1.+5",
		" 1", "1 ", "1 .5", "1. 5", "- 1", "1\n", "1.5\n", "1\x00", "1.5\x00", "\x001",
		"a", "1a", "a1", "1.a", "1.5a", "1.a5", "0x1", "1e3", "1_0", "1,5", "1.1_0", "1.5e3",
		"/", ":", "1/", "1:", "1./", "1.:",
		"1000000000000000", "0000000000000000", "-1000000000000000", "9999999999999999",
		"99999999999999999999999999", strings.Repeat("0", 10000), strings.Repeat("-", 10000),
		"1.0000000000000000000", "1.1234567891234567891", "-1.0000000000000000000",
		"1.123456789a", "1.12345678912345678a", "1." + strings.Repeat("0", 10000),
		"1.00000000000000000.", "1.000000000-", "1.000000000 ",
		"\u0661", "1.\u0661", "\uff11", "\xff", "1\xff", "1.\xff", "\u00b2", "\U0001d7cf",
		"nan", "inf", "-inf", "1;", "1.5;",
	} {
		if x, ok := Parse(text); x != (api.Time{}) || ok {
			t.Errorf("Parse(%.30q) = %v, %v; want nothing", text, x, ok)
		}
	}
}

func TestParseOfEachByte(t *testing.T) {
	for i := range 256 {
		c := string([]byte{byte(i)})
		digit := i >= '0' && i <= '9'
		for _, text := range []string{c, "1" + c + "1", "-" + c + "1", "1.5" + c, "1.5" + c + "5", "1.1234567891" + c} {
			want := digit || text == "1.1"
			if _, ok := Parse(text); ok != want {
				t.Errorf("Parse(%q) = %v", text, ok)
			}
		}
	}
}

var form = regexp.MustCompile(`^(-?)([0-9]{1,15})(?:\.([0-9]{1,18}))?$`)

// parseByWords is Parse as the chapter has it: told by a pattern, and reckoned without bounds.
func parseByWords(s string) (api.Time, bool) {
	m := form.FindStringSubmatch(s)
	if m == nil {
		return api.Time{}, false
	}
	kept := m[3][:min(len(m[3]), 9)]
	number, _ := new(big.Int).SetString(m[1]+m[2]+kept+strings.Repeat("0", 9-len(kept)), 10)
	// Euclid's division goes down where the number is below 0.
	n := new(big.Int)
	number.DivMod(number, big.NewInt(1e9), n)
	return api.Time{S: int(number.Int64()), N: int(n.Int64())}, true
}

// texts are all of so many bytes at most, of these.
func texts(bytes string, most int) []string {
	all := []string{""}
	for from := 0; most > 0; most-- {
		to := len(all)
		for _, s := range all[from:to] {
			for i := range len(bytes) {
				all = append(all, s+bytes[i:i+1])
			}
		}
		from = to
	}
	return all
}

func TestParseByWords(t *testing.T) {
	all := texts("-.059a", 6)
	for _, whole := range []string{"0", "1", "12345678901234", "999999999999999", "000000000000000", "1234567890123456"} {
		for _, digits := range []string{"000000000000000001", "123456789987654321", "999999999999999999", "000000001000000000"} {
			for i := range 20 {
				fraction := (digits + "75")[:i]
				all = append(all, whole+"."+fraction, "-"+whole+"."+fraction)
			}
		}
	}
	for _, s := range all {
		x, ok := Parse(s)
		if want, right := parseByWords(s); x != want || ok != right {
			t.Fatalf("Parse(%q) = %v, %v; want %v, %v", s, x, ok, want, right)
		}
	}
}

func TestNorm(t *testing.T) {
	for _, c := range []struct{ t, want api.Time }{
		{api.Time{}, api.Time{}},
		{api.Time{S: 1, N: 2}, api.Time{S: 1, N: 2}},
		{api.Time{S: -1, N: 2}, api.Time{S: -1, N: 2}},
		{api.Time{S: 1, N: -1}, api.Time{S: 1}},
		{api.Time{S: -1, N: -1}, api.Time{S: -1}},
		{api.Time{S: 1, N: last}, api.Time{S: 1, N: last}},
		{api.Time{S: 1, N: last + 1}, api.Time{S: 1, N: last}},
		{api.Time{S: 1, N: 5000000000}, api.Time{S: 1, N: last}},
		{api.Time{S: end}, api.Time{S: end}},
		{api.Time{S: end, N: last}, api.Time{S: end, N: last}},
		{api.Time{S: end + 1}, api.Time{S: end}},
		{api.Time{S: end + 1, N: 7}, api.Time{S: end, N: 7}},
		{api.Time{S: -end}, api.Time{S: -end}},
		{api.Time{S: -end, N: 7}, api.Time{S: -end, N: 7}},
		{api.Time{S: -end - 1}, api.Time{S: -end}},
		{api.Time{S: -end - 1, N: 7}, api.Time{S: -end, N: 7}},
		{api.Time{S: math.MaxInt, N: math.MaxInt}, api.Time{S: end, N: last}},
		{api.Time{S: math.MinInt, N: math.MinInt}, api.Time{S: -end}},
		{api.Time{S: math.MinInt, N: math.MaxInt}, api.Time{S: -end, N: last}},
		{api.Time{S: math.MaxInt, N: math.MinInt}, api.Time{S: end}},
	} {
		if x := Norm(c.t); x != c.want {
			t.Errorf("Norm(%v) = %v; want %v", c.t, x, c.want)
		}
		if x := Norm(c.want); x != c.want {
			t.Errorf("Norm(%v) = %v; want the same", c.want, x)
		}
	}
}

func TestPrint(t *testing.T) {
	for _, c := range []struct {
		s, n int
		want string
	}{
		{0, 0, "0"},
		{1, 0, "1"},
		{-1, 0, "-1"},
		{10, 0, "10"},
		{-10, 0, "-10"},
		{100, 100000000, "100.1"},
		{0, 1, "0.000000001"},
		{0, 10, "0.00000001"},
		{0, 500000000, "0.5"},
		{0, 50000000, "0.05"},
		{0, 123456789, "0.123456789"},
		{0, 120000000, "0.12"},
		{0, last, "0.999999999"},
		{1, 500000000, "1.5"},
		{-1, 500000000, "-0.5"},
		{-1, last, "-0.000000001"},
		{-1, 1, "-0.999999999"},
		{-2, 500000000, "-1.5"},
		{-2, 750000000, "-1.25"},
		{-10, 900000000, "-9.1"},
		{end, 0, "999999999999999"},
		{end, last, "999999999999999.999999999"},
		{-end, 0, "-999999999999999"},
		{-end, 1, "-999999999999998.999999999"},
		{-end, 500000000, "-999999999999998.5"},
		{-end, last, "-999999999999998.000000001"},
		{1 - end, last, "-999999999999997.000000001"},

		// What is not Norm is told as Norm of it.
		{end + 1, 0, "999999999999999"},
		{-end - 1, 0, "-999999999999999"},
		{-end - 1, 500000000, "-999999999999998.5"},
		{math.MaxInt, math.MaxInt, "999999999999999.999999999"},
		{math.MinInt, math.MinInt, "-999999999999999"},
		{math.MinInt, math.MaxInt, "-999999999999998.000000001"},
		{0, -1, "0"},
		{1, -1, "1"},
		{-1, -1, "-1"},
		{0, 1000000000, "0.999999999"},
		{-1, 1000000000, "-0.000000001"},
	} {
		if s := Print(api.Time{S: c.s, N: c.n}); s != c.want {
			t.Errorf("Print(%d, %d) = %q; want %q", c.s, c.n, s, c.want)
		}
	}
}

// edges are numbers of either field, and beside them.
var (
	edgesOfS = []int{math.MinInt, math.MinInt + 1, -end - 2, -end - 1, -end, 1 - end, -1000000001, -101, -100, -10, -9, -2, -1,
		0, 1, 2, 9, 10, 99, 100, 1600000000, end - 1, end, end + 1, math.MaxInt}
	edgesOfN = []int{math.MinInt, -1000000001, -1, 0, 1, 9, 10, 11, 100, 999, 1000, 123456789, 123456780, 100000000, 90000000,
		500000000, 900000000, last - 9, last - 1, last, last + 1, 2000000000, math.MaxInt}
)

func TestThereAndBack(t *testing.T) {
	for _, s := range edgesOfS {
		for _, n := range edgesOfN {
			x := api.Time{S: s, N: n}
			text := Print(x)
			if back, ok := Parse(text); back != Norm(x) || !ok {
				t.Errorf("Parse(Print(%v)) = Parse(%q) = %v, %v; want %v", x, text, back, ok, Norm(x))
			}
			if again := Print(Norm(x)); again != text {
				t.Errorf("Print(Norm(%v)) = %q, Print = %q", x, again, text)
			}
		}
	}
}

// Of all texts that are read as a time what is printed is the only one of the fewest characters.
func TestPrintIsShortest(t *testing.T) {
	shortest := map[api.Time][]string{}
	for _, s := range texts("-.0159", 6) {
		x, ok := Parse(s)
		if !ok {
			continue
		}
		if l := shortest[x]; len(l) == 0 || len(s) == len(l[0]) {
			shortest[x] = append(l, s)
		}
	}
	for x, l := range shortest {
		if s := Print(x); len(s) != len(l[0]) || !slices.Contains(l, s) || len(l) != 1 {
			t.Errorf("Print(%v) = %q; want the shortest of %q", x, s, l)
		}
	}
}

func TestLess(t *testing.T) {
	for _, c := range []struct {
		a, b api.Time
		want bool
	}{
		{api.Time{}, api.Time{}, false},
		{api.Time{S: 1}, api.Time{S: 2}, true},
		{api.Time{S: 2}, api.Time{S: 1}, false},
		{api.Time{S: 1}, api.Time{S: 1}, false},
		{api.Time{S: 1, N: 1}, api.Time{S: 1, N: 2}, true},
		{api.Time{S: 1, N: 2}, api.Time{S: 1, N: 1}, false},
		{api.Time{S: 1, N: 2}, api.Time{S: 1, N: 2}, false},
		{api.Time{S: 1, N: 2}, api.Time{S: 2, N: 1}, true},
		{api.Time{S: 2, N: 1}, api.Time{S: 1, N: 2}, false},
		{api.Time{S: -2, N: 500000000}, api.Time{S: -1}, true},
		{api.Time{S: -2, N: 500000000}, api.Time{S: -2}, false},
		{api.Time{S: -1}, api.Time{}, true},
		{api.Time{S: -1, N: last}, api.Time{}, true},

		// What is clipped to the same is not ahead.
		{api.Time{S: end}, api.Time{S: end + 1}, false},
		{api.Time{S: end + 1}, api.Time{S: end}, false},
		{api.Time{S: -end - 1}, api.Time{S: -end}, false},
		{api.Time{S: math.MinInt}, api.Time{S: -end}, false},
		{api.Time{N: -1}, api.Time{}, false},
		{api.Time{N: last}, api.Time{N: last + 1}, false},
		{api.Time{N: last - 1}, api.Time{N: last + 1}, true},
		{api.Time{N: math.MaxInt}, api.Time{S: 1}, true},
		{api.Time{S: end + 5, N: 1}, api.Time{S: end + 1, N: 2}, true},
		{api.Time{S: math.MinInt}, api.Time{S: math.MaxInt}, true},
		{api.Time{S: math.MaxInt}, api.Time{S: math.MinInt}, false},
	} {
		if less := Less(c.a, c.b); less != c.want {
			t.Errorf("Less(%v, %v) = %v", c.a, c.b, less)
		}
	}
}

// Less is the order of the numbers that are meant.
func TestLessOfEdges(t *testing.T) {
	var all []api.Time
	for _, s := range edgesOfS {
		for _, n := range edgesOfN {
			all = append(all, api.Time{S: s, N: n})
		}
	}
	for _, a := range all {
		for _, b := range all {
			x, y := Norm(a), Norm(b)
			want := cmp.Compare(x.S, y.S) < 0 || x.S == y.S && x.N < y.N
			if Less(a, b) != want {
				t.Fatalf("Less(%v, %v) = %v", a, b, !want)
			}
		}
	}
}

func TestExample(t *testing.T) {
	x, ok := Parse("-1.5")
	if x != (api.Time{S: -2, N: 500000000}) || !ok || Print(x) != "-1.5" {
		t.Errorf("Parse(-1.5) = %v, %v; Print %q", x, ok, Print(x))
	}
}
