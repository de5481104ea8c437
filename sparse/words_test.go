package sparse

import (
	"iter"
	"math"
	"math/big"
	"regexp"
	"slices"
	"strconv"
	"strings"
	"testing"

	"mudlark/api"
)

// checkByWords, parseByWords, printByWords, expandByWords and frontByWords are the calls as the chapter has them.
func checkByWords(l []api.Part, stored, real int) api.Errno {
	if len(l) > 1000 {
		return 3
	}
	isRight := real >= 0 && real <= 1<<40
	end, sum := new(big.Int), new(big.Int)
	for _, p := range l {
		at, long := big.NewInt(int64(p.At)), big.NewInt(int64(p.Len))
		isRight = isRight && at.Sign() >= 0 && long.Sign() >= 0 && at.Cmp(end) >= 0
		end = new(big.Int).Add(at, long)
		isRight = isRight && end.Cmp(big.NewInt(int64(real))) <= 0
		sum.Add(sum, long)
	}
	if !isRight || sum.Cmp(big.NewInt(int64(stored))) != 0 {
		return 11
	}
	return 0
}

var numbersByWords = regexp.MustCompile(`^(0|[1-9][0-9]{0,12})(,(0|[1-9][0-9]{0,12}))*$`)

func parseByWords(s string) ([]api.Part, bool) {
	if s == "" {
		return nil, true
	}
	texts := strings.Split(s, ",")
	if !numbersByWords.MatchString(s) || len(texts)%2 != 0 || len(texts) > 2000 {
		return nil, false
	}
	var numbers []int
	for _, text := range texts {
		n, _ := strconv.Atoi(text)
		numbers = append(numbers, n)
	}
	return parts(numbers...), true
}

func printByWords(l []api.Part) string {
	var texts []string
	for _, p := range l {
		for _, n := range []int{p.At, p.Len} {
			if n < 0 {
				n = 0
			}
			if n > 9999999999999 {
				n = 9999999999999
			}
			texts = append(texts, strconv.Itoa(n))
		}
	}
	return strings.Join(texts, ",")
}

// expandByWords asks for each byte in which part it is.
func expandByWords(l []api.Part, real int, data string) (string, api.Errno) {
	if e := checkByWords(l, len(data), real); e != 0 {
		return "", e
	}
	if real > 1<<20 {
		return "", 3
	}
	b := make([]byte, real)
	for i := range b {
		ahead := 0
		for _, p := range l {
			if i >= p.At && i < p.At+p.Len {
				b[i] = data[ahead+i-p.At]
			}
			ahead += p.Len
		}
	}
	return string(b), 0
}

// frontByWords reckons in numbers that do not go round by themselves.
func frontByWords(l []api.Part, n int) []api.Part {
	round := new(big.Int).Lsh(big.NewInt(1), 64)
	lacking := big.NewInt(int64(n))
	var front []api.Part
	for _, p := range l {
		if lacking.Sign() <= 0 {
			return front
		}
		lesser := big.NewInt(int64(p.Len))
		if lacking.Cmp(lesser) < 0 {
			lesser.Set(lacking)
		}
		front = append(front, api.Part{At: p.At, Len: int(lesser.Int64())})
		lacking.Sub(lacking, lesser)
		if lacking.Cmp(big.NewInt(math.MaxInt)) > 0 {
			lacking.Sub(lacking, round)
		}
	}
	return front
}

// lists tells all lists of up to so many parts of these numbers.
func lists(numbers []int, most int) iter.Seq[[]api.Part] {
	return func(yield func([]api.Part) bool) {
		count := 1
		for long := range most + 1 {
			for n := range count {
				l := make([]api.Part, long)
				for i := range l {
					l[i].At = numbers[n%len(numbers)]
					n /= len(numbers)
					l[i].Len = numbers[n%len(numbers)]
					n /= len(numbers)
				}
				if !yield(l) {
					return
				}
			}
			count *= len(numbers) * len(numbers)
		}
	}
}

func TestCheckByWords(t *testing.T) {
	for l := range lists([]int{-1, 0, 1, 2, 3}, 3) {
		for stored := -1; stored < 5; stored++ {
			for real := -1; real < 5; real++ {
				if e, want := Check(l, stored, real), checkByWords(l, stored, real); e != want {
					t.Fatalf("Check of %s, %d, %d = %d; want %d", short(l), stored, real, e, want)
				}
			}
		}
	}
}

func TestCheckOfNumbersThatGoRound(t *testing.T) {
	far := []int{math.MinInt, math.MinInt + 1, -1, 0, 1, 1 << 39, 1 << 40, 1<<40 + 1, 1 << 62, math.MaxInt}
	for l := range lists(far, 2) {
		sum := 0
		for _, p := range l {
			sum += p.Len
		}
		for _, stored := range append(far, sum, sum+1) {
			for _, real := range far {
				if e, want := Check(l, stored, real), checkByWords(l, stored, real); e != want {
					t.Fatalf("Check of %s, %d, %d = %d; want %d", short(l), stored, real, e, want)
				}
			}
		}
	}
}

func TestExpandByWords(t *testing.T) {
	for l := range lists([]int{-1, 0, 1, 2, 3}, 3) {
		for stored := range 5 {
			for real := -1; real < 7; real++ {
				data := "abcde"[:stored]
				want, err := expandByWords(l, real, data)
				if b, e := Expand(l, real, []byte(data)); string(b) != want || e != err {
					t.Fatalf("Expand of %s, %d, %q = %q, %d; want %q, %d", short(l), real, data, b, e, want, err)
				}
			}
		}
	}
}

// spelt tells all texts of up to so many of these bytes.
func spelt(alphabet string, most int) iter.Seq[string] {
	return func(yield func(string) bool) {
		count := 1
		for long := range most + 1 {
			b := make([]byte, long)
			for n := range count {
				for i := range b {
					b[i] = alphabet[n%len(alphabet)]
					n /= len(alphabet)
				}
				if !yield(string(b)) {
					return
				}
			}
			count *= len(alphabet)
		}
	}
}

func parsesByWords(t *testing.T, s string) {
	t.Helper()
	want, isTrue := parseByWords(s)
	l, ok := Parse(s)
	if !slices.Equal(l, want) || ok != isTrue {
		t.Fatalf("Parse of %q = %s, %v; want %s, %v", s, short(l), ok, short(want), isTrue)
	}
	if back := Print(l); ok && back != s {
		t.Fatalf("Parse of %q, printed: %q", s, back)
	}
}

func TestParseByWords(t *testing.T) {
	for s := range spelt("019, -+\x00", 6) {
		parsesByWords(t, s)
	}
	for s := range spelt("059,", 7) {
		parsesByWords(t, s)
		parsesByWords(t, "0,5,"+s)
	}
	// Around as many digits as there may be.
	for s := range spelt("09,", 5) {
		parsesByWords(t, "99999999999"+s)
		parsesByWords(t, "0,90000000000"+s)
	}
}

// TestParseNearWhatIsWritten takes what is a byte off: one less, another one, one more.
func TestParseNearWhatIsWritten(t *testing.T) {
	for _, c := range written {
		for i := range len(c.s) + 1 {
			for b := range 256 {
				one := string([]byte{byte(b)})
				parsesByWords(t, c.s[:i]+one+c.s[i:])
				if i < len(c.s) {
					parsesByWords(t, c.s[:i]+one+c.s[i+1:])
				}
			}
			if i < len(c.s) {
				parsesByWords(t, c.s[:i]+c.s[i+1:])
			}
			parsesByWords(t, c.s[:i])
			parsesByWords(t, c.s[i:])
		}
	}
}

func TestPrintByWords(t *testing.T) {
	for l := range lists([]int{math.MinInt, -1, 0, 1, 10, 9999999999998, 9999999999999, 10000000000000, math.MaxInt}, 2) {
		s, want := Print(l), printByWords(l)
		if s != want {
			t.Fatalf("Print of %s = %q; want %q", short(l), s, want)
		}
		parsesByWords(t, s)
	}
}

func TestFrontByWords(t *testing.T) {
	for l := range lists([]int{-2, -1, 0, 1, 3}, 3) {
		for n := -2; n < 10; n++ {
			if front, want := Front(l, n), frontByWords(l, n); !slices.Equal(front, want) {
				t.Fatalf("Front of %s, %d = %s; want %s", short(l), n, short(front), short(want))
			}
		}
	}
	far := []int{math.MinInt, math.MinInt + 1, -1 << 62, -1, 0, 1, 1 << 62, math.MaxInt - 1, math.MaxInt}
	for l := range lists(far, 2) {
		for _, n := range far {
			with := append(l, api.Part{At: 7, Len: 7})
			if front, want := Front(with, n), frontByWords(with, n); !slices.Equal(front, want) {
				t.Fatalf("Front of %s, %d = %s; want %s", short(with), n, short(front), short(want))
			}
		}
	}
}

// TestFrontIsChecked: of parts that may be, and of any of their bytes, those in front may be, and have so many.
func TestFrontIsChecked(t *testing.T) {
	for l := range lists([]int{0, 1, 2, 4}, 3) {
		stored := 0
		for _, p := range l {
			stored += p.Len
		}
		if Check(l, stored, 20) != api.OK {
			continue
		}
		for n := range stored + 1 {
			checks(t, Front(l, n), n, 20, api.OK)
		}
	}
}
