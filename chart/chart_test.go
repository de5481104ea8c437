package chart

import (
	"bytes"
	"math"
	"slices"
	"testing"

	"mudlark/api"
	"mudlark/sample"
)

// spans are those of numbers, each From with the To and the Class behind it.
func spans(numbers ...int) []api.Span {
	var l []api.Span
	for three := range slices.Chunk(numbers, 3) {
		l = append(l, api.Span{From: three[0], To: three[1], Class: three[2]})
	}
	return l
}

func TestExamples(t *testing.T) {
	if l := Spans([]int{5, 5, 3}); !slices.Equal(l, spans(0, 2, 5, 2, 3, 3)) {
		t.Errorf("Spans of 5, 5, 3 = %v", l)
	}
	if l := Map(sample.Image(sample.Noughts(2))); !slices.Equal(l, spans(0, 2, 5)) {
		t.Errorf("Map of 1024 noughts = %v", l)
	}
	if l := Map(api.Image{}); len(l) > 0 {
		t.Errorf("Map of no bytes = %v", l)
	}
}

func TestSpans(t *testing.T) {
	for _, c := range []struct {
		classes []int
		want    []api.Span
	}{
		{nil, nil},
		{[]int{}, nil},
		{[]int{1}, spans(0, 1, 1)},
		{[]int{9, 9}, spans(0, 2, 9)},
		{[]int{1, 2}, spans(0, 1, 1, 1, 2, 2)},
		{[]int{2, 2, 2, 2, 2}, spans(0, 5, 2)},
		{[]int{1, 2, 1, 2}, spans(0, 1, 1, 1, 2, 2, 2, 3, 1, 3, 4, 2)},
		{[]int{1, 1, 2, 1, 1, 1}, spans(0, 2, 1, 2, 3, 2, 3, 6, 1)},
		{[]int{3, 5, 5}, spans(0, 1, 3, 1, 3, 5)},
		{[]int{8, 5, 5, 8}, spans(0, 1, 8, 1, 3, 5, 3, 4, 8)},
		{[]int{1, 2, 3, 4, 5, 6, 7, 8, 9}, spans(0, 1, 1, 1, 2, 2, 2, 3, 3, 3, 4, 4, 4, 5, 5, 5, 6, 6, 6, 7, 7, 7, 8, 8, 8, 9, 9)},
		// What is no class is in a span likewise.
		{[]int{0}, spans(0, 1, 0)},
		{[]int{0, 0, 1, 0}, spans(0, 2, 0, 2, 3, 1, 3, 4, 0)},
		{[]int{-1, -1, 10, 10, 10}, spans(0, 2, -1, 2, 5, 10)},
		{[]int{math.MinInt, math.MaxInt, math.MaxInt}, spans(0, 1, math.MinInt, 1, 3, math.MaxInt)},
	} {
		if l := Spans(c.classes); !slices.Equal(l, c.want) {
			t.Errorf("Spans of %v = %v; want %v", c.classes, l, c.want)
		}
	}
}

func TestSpansOfMany(t *testing.T) {
	for _, n := range []int{2, 255, 256, 257, 65536, 1 << 20} {
		if l := Spans(slices.Repeat([]int{api.OfData}, n)); !slices.Equal(l, spans(0, n, 2)) {
			t.Errorf("Spans of %d blocks of one class = %v", n, l)
		}
		if l := Spans(slices.Repeat([]int{api.OfBad, api.OfEnd}, n/2)); len(l) != n/2*2 || !Covers(l, n/2*2) {
			t.Errorf("Spans of %d blocks of another class each are %d", n/2*2, len(l))
		}
	}
}

func TestMap(t *testing.T) {
	a, main, global := sample.File("a", sample.Some(600)), sample.Main(api.File, "b", 0), sample.Records(api.Global, "k", "v")
	whole := sample.Image(sample.Archived(a, main, global, main), sample.Noughts(3))
	for name, c := range map[string]struct {
		x    api.Image
		want []api.Span
	}{
		"a byte":               {sample.Image([]byte{0}), spans(0, 1, 9)},
		"a block of noughts":   {sample.Image(sample.Noughts(1)), spans(0, 1, 3)},
		"three blocks of them": {sample.Image(sample.Noughts(3)), spans(0, 2, 5, 2, 3, 3)},
		"an archive":           {whole, spans(0, 1, 1, 1, 3, 2, 3, 4, 1, 4, 6, 4, 6, 7, 1, 7, 9, 5, 9, 12, 3)},
		"of which some is bad": {sample.Spoilt(whole, 6, 1, 2, 0), spans(0, 3, 8, 3, 4, 1, 4, 6, 4, 6, 7, 8, 7, 9, 5, 9, 12, 3)},
		"and some is cut off":  {sample.Cut(whole, 9*512+100), spans(0, 1, 1, 1, 3, 2)},
		"an orphan":            {sample.Image(sample.Extension(api.LongName, "n"), sample.Noughts(1)), spans(0, 1, 6, 1, 2, 9, 2, 3, 3)},
		"suspects":             {sample.Image(sample.Unsealed(main), sample.Like(6), sample.Like(5)), spans(0, 2, 7, 2, 3, 9)},
		"headers of two":       {sample.Image(main, main), spans(0, 2, 1)},
		"all bad":              {sample.Spoilt(sample.Image(a, main), 3, 1, 0, 2, 4), spans(0, 4, 8)},
		"no such block is bad": {sample.Spoilt(api.Image{}, 0, -1), nil},
	} {
		if l := Map(c.x); !slices.Equal(l, c.want) {
			t.Errorf("%s: Map = %v; want %v", name, l, c.want)
		}
	}
}

func TestClass(t *testing.T) {
	const first, last = math.MinInt, math.MaxInt
	for _, c := range []struct {
		l    []api.Span
		i    int
		want int
	}{
		{nil, 0, 0},
		{[]api.Span{}, 0, 0},
		{spans(0, 1, 7), -1, 0},
		{spans(0, 1, 7), 0, 7},
		{spans(0, 1, 7), 1, 0},
		{spans(0, 2, 5, 2, 3, 3), 0, 5},
		{spans(0, 2, 5, 2, 3, 3), 1, 5},
		{spans(0, 2, 5, 2, 3, 3), 2, 3},
		{spans(0, 2, 5, 2, 3, 3), 3, 0},
		// They need not be in order, nor all that there are.
		{spans(2, 3, 3, 0, 2, 5), 1, 5},
		{spans(2, 3, 3, 0, 2, 5), 2, 3},
		{spans(0, 2, 5, 4, 6, 3), 3, 0},
		{spans(0, 2, 5, 4, 6, 3), 4, 3},
		// The first one that has it counts.
		{spans(0, 9, 1, 3, 5, 2), 4, 1},
		{spans(3, 5, 2, 0, 9, 1), 4, 2},
		{spans(3, 5, 2, 0, 9, 1), 5, 1},
		{spans(3, 5, 2, 3, 5, 1), 3, 2},
		{spans(3, 5, 0, 3, 5, 1), 3, 0},
		// One that ends where it begins, or ahead of it, has none.
		{spans(3, 3, 2, 0, 9, 1), 3, 1},
		{spans(3, 3, 2), 3, 0},
		{spans(5, 3, 2), 3, 0},
		{spans(5, 3, 2), 4, 0},
		{spans(5, 3, 2), 5, 0},
		{spans(5, 3, 2, 4, 5, 6), 4, 6},
		// What is no class, or no block, is told likewise.
		{spans(0, 3, -8), 1, -8},
		{spans(0, 3, 10), 1, 10},
		{spans(-3, 0, 4), -3, 4},
		{spans(-3, 0, 4), -1, 4},
		{spans(-3, 0, 4), 0, 0},
		{spans(first, last, 6), first, 6},
		{spans(first, last, 6), last - 1, 6},
		{spans(first, last, 6), last, 0},
		{spans(last, first, 6), 0, 0},
	} {
		if n := Class(c.l, c.i); n != c.want {
			t.Errorf("Class of %v at %d = %d; want %d", c.l, c.i, n, c.want)
		}
	}
}

func TestCount(t *testing.T) {
	const first, last = math.MinInt, math.MaxInt
	for _, c := range []struct {
		l     []api.Span
		class int
		want  int
	}{
		{nil, 0, 0},
		{[]api.Span{}, 5, 0},
		{spans(0, 2, 5, 2, 3, 3), 5, 2},
		{spans(0, 2, 5, 2, 3, 3), 3, 1},
		{spans(0, 2, 5, 2, 3, 3), 4, 0},
		{spans(0, 2, 5, 2, 3, 3), 0, 0},
		{spans(0, 2, 5, 2, 3, 3, 3, 10, 5), 5, 9},
		// Blocks that two have count twice; gaps don't count.
		{spans(0, 9, 1, 3, 5, 1), 1, 11},
		{spans(0, 9, 1, 3, 5, 2), 1, 9},
		{spans(0, 9, 1, 100, 105, 1), 1, 14},
		{spans(100, 105, 1, 0, 9, 1), 1, 14},
		// One that ends where it begins, or ahead of it, has none.
		{spans(3, 3, 2), 2, 0},
		{spans(5, 3, 2), 2, 0},
		{spans(0, 4, 2, 5, 3, 2, 7, 7, 2, 5, 6, 2), 2, 5},
		{spans(last, first, 2), 2, 0},
		{spans(first, 0, 2, 0, first, 2), 2, first},
		// What is no class, or no block, counts likewise.
		{spans(0, 4, 0, 4, 5, 1), 0, 4},
		{spans(0, 4, -7, 4, 6, 10), -7, 4},
		{spans(0, 4, -7, 4, 6, 10), 10, 2},
		{spans(-3, 4, 2), 2, 7},
		{spans(-3, -1, 2), 2, 2},
		// Sums go round.
		{spans(0, last, 2), 2, last},
		{spans(0, last, 2, 0, 1, 2), 2, first},
		{spans(0, last, 2, 0, last, 2), 2, -2},
		{spans(0, last, 2, 5, 0, 2, 0, last, 2, 0, 3, 2), 2, 1},
		{spans(first, last, 2), 2, -1},
		{spans(-1, last, 2), 2, first},
		{spans(first, last, 2, 0, 1, 2), 2, 0},
	} {
		if n := Count(c.l, c.class); n != c.want {
			t.Errorf("Count of %d in %v = %d; want %d", c.class, c.l, n, c.want)
		}
	}
}

func TestCovers(t *testing.T) {
	const first, last = math.MinInt, math.MaxInt
	for _, c := range []struct {
		l    []api.Span
		n    int
		want bool
	}{
		{nil, 0, true},
		{[]api.Span{}, 0, true},
		{nil, 1, false},
		{nil, -1, false},
		{nil, first, false},
		{spans(0, 1, 1), 1, true},
		{spans(0, 1, 1), 0, false},
		{spans(0, 1, 1), 2, false},
		{spans(0, last, 9), last, true},
		{spans(0, 2, 5, 2, 3, 3), 3, true},
		{spans(0, 2, 5, 2, 3, 3), 2, false},
		{spans(0, 2, 5, 2, 3, 3), 4, false},
		{spans(0, 2, 5, 2, 3, 3), -3, false},
		{spans(0, 2, 5, 2, 3, 3, 3, 4, 5), 4, true},
		{spans(0, 1, 1, 1, 2, 2, 2, 3, 3, 3, 4, 4, 4, 5, 5, 5, 6, 6, 6, 7, 7, 7, 8, 8, 8, 9, 9), 9, true},
		// The first one begins elsewhere.
		{spans(1, 2, 5, 2, 3, 3), 3, false},
		{spans(1, 3, 5), 3, false},
		{spans(-1, 3, 5), 3, false},
		{spans(-1, 0, 5, 0, 3, 3), 3, false},
		// A gap, or blocks that two have.
		{spans(0, 2, 5, 3, 4, 3), 4, false},
		{spans(0, 2, 5, 1, 3, 3), 3, false},
		{spans(0, 2, 5, 0, 3, 3), 3, false},
		{spans(0, 2, 5, 0, 2, 3), 2, false},
		{spans(2, 3, 3, 0, 2, 5), 3, false},
		// One without a block.
		{spans(0, 0, 5), 0, false},
		{spans(0, 0, 5, 0, 3, 3), 3, false},
		{spans(0, 2, 5, 2, 2, 3), 2, false},
		{spans(0, 2, 5, 2, 2, 3, 2, 4, 5), 4, false},
		{spans(0, -1, 5), -1, false},
		{spans(0, -1, 5, -1, 3, 3), 3, false},
		{spans(0, 4, 5, 4, 2, 3, 2, 5, 4), 5, false},
		{spans(0, first, 5), first, false},
		// What is no class.
		{spans(0, 1, 0), 1, false},
		{spans(0, 1, 10), 1, false},
		{spans(0, 1, -1), 1, false},
		{spans(0, 1, first), 1, false},
		{spans(0, 1, last), 1, false},
		{spans(0, 1, 5, 1, 2, 0), 2, false},
		{spans(0, 1, 5, 1, 2, 10), 2, false},
		{spans(0, 1, 0, 1, 2, 5), 2, false},
		// The class of the one ahead.
		{spans(0, 1, 5, 1, 2, 5), 2, false},
		{spans(0, 1, 4, 1, 2, 5, 2, 3, 5), 3, false},
		{spans(0, 1, 4, 1, 2, 5, 2, 3, 5, 3, 4, 4), 4, false},
	} {
		if ok := Covers(c.l, c.n); ok != c.want {
			t.Errorf("Covers of %v, %d blocks = %v; want %v", c.l, c.n, ok, c.want)
		}
	}
}

func TestNilIsEmpty(t *testing.T) {
	for _, bad := range [][]int{nil, {}} {
		if l := Map(api.Image{Bytes: []byte{}, Bad: bad}); len(l) > 0 {
			t.Errorf("Map of no bytes = %v", l)
		}
		if l := Map(sample.Spoilt(sample.Image(sample.Noughts(2)), bad...)); !slices.Equal(l, spans(0, 2, 5)) {
			t.Errorf("Map with none bad = %v", l)
		}
	}
}

func TestWhatIsHandedInStays(t *testing.T) {
	// Behind the lengths stand classes, spans, blocks and numbers that would count if they were read.
	classes, l := []int{5, 5, 3, 3, 5}, spans(0, 2, 5, 2, 3, 3, 3, 9, 5)
	b, bad := sample.Archived(sample.File("a", sample.Some(5))), []int{1, 0, 2}
	keepClasses, keep, keepBytes, keepBad := slices.Clone(classes), slices.Clone(l), bytes.Clone(b), slices.Clone(bad)
	if got := Spans(classes[:3]); !slices.Equal(got, l[:2]) {
		t.Errorf("Spans with others behind = %v", got)
	}
	if Class(l[:2], 4) != 0 || Class(l[:2], 2) != 3 {
		t.Error("Class with others behind")
	}
	if n := Count(l[:2], 5); n != 2 {
		t.Errorf("Count with others behind = %d", n)
	}
	if !Covers(l[:2], 3) || Covers(l[:2], 9) {
		t.Error("Covers with others behind")
	}
	if got := Map(api.Image{Bytes: b[:3*512], Bad: bad[:1]}); !slices.Equal(got, spans(0, 1, 1, 1, 2, 8, 2, 3, 3)) {
		t.Errorf("Map with others behind = %v", got)
	}
	if !slices.Equal(classes, keepClasses) || !slices.Equal(l, keep) || !bytes.Equal(b, keepBytes) || !slices.Equal(bad, keepBad) {
		t.Error("what was handed in is another")
	}
}

func TestWhatComesOutIsNew(t *testing.T) {
	classes, x := []int{5, 5, 3}, sample.Image(sample.Noughts(3))
	want := spans(0, 2, 5, 2, 3, 3)
	for name, call := range map[string]func() []api.Span{
		"Spans": func() []api.Span { return Spans(classes) },
		"Map":   func() []api.Span { return Map(x) },
	} {
		l, again := call(), call()
		clear(l[:cap(l)])
		if !slices.Equal(again, want) || !slices.Equal(call(), want) {
			t.Errorf("%s: the spans became %v, %v", name, again, call())
		}
		clear(classes)
		clear(x.Bytes)
		if !slices.Equal(again, want) {
			t.Errorf("%s: the spans became %v", name, again)
		}
		classes, x = []int{5, 5, 3}, sample.Image(sample.Noughts(3))
	}
}

// What lies behind a list's length is not handed out.
func TestNothingLiesBehind(t *testing.T) {
	for n := range 40 {
		classes := slices.Repeat([]int{1, 2}, n)
		x := sample.Image(bytes.Repeat(sample.File("a", sample.Some(5)), n))
		for _, l := range [][]api.Span{Spans(classes), Spans(classes[:n]), Map(x)} {
			for _, s := range l[len(l):cap(l)] {
				if s != (api.Span{}) {
					t.Errorf("behind %d spans stands %v", len(l), s)
				}
			}
		}
	}
}
