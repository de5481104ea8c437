package chart

import (
	"math"
	"math/big"
	"slices"
	"testing"

	"mudlark/api"
	"mudlark/chain"
	"mudlark/medium"
	"mudlark/sample"
)

// spansByWords, classByWords, countByWords and coversByWords are the calls as the chapter has them.
func spansByWords(classes []int) []api.Span {
	var l []api.Span
	for i, class := range classes {
		if i > 0 && classes[i-1] == class {
			l[len(l)-1].To = i + 1
			continue
		}
		l = append(l, api.Span{From: i, To: i + 1, Class: class})
	}
	return l
}

func classByWords(l []api.Span, i int) int {
	for _, s := range l {
		if i < s.From || i >= s.To {
			continue
		}
		return s.Class
	}
	return 0
}

func countByWords(l []api.Span, class int) int {
	n := new(big.Int)
	for _, s := range l {
		if s.Class != class || s.To < s.From {
			continue
		}
		n.Add(n, big.NewInt(int64(s.To)))
		n.Sub(n, big.NewInt(int64(s.From)))
	}
	// As many bits as an int has, of which the first one is its sign.
	n.And(n, new(big.Int).SetUint64(math.MaxUint64))
	return int(n.Uint64())
}

func coversByWords(l []api.Span, n int) bool {
	if len(l) == 0 {
		return n == 0
	}
	ok := l[0].From == 0 && l[len(l)-1].To == n
	for i, s := range l {
		ok = ok && s.To > s.From && s.Class >= 1 && s.Class <= 9
		if i > 0 {
			ok = ok && s.From == l[i-1].To && s.Class != l[i-1].Class
		}
	}
	return ok
}

// classes are such as stand in rows, drawn, of as many kinds as asked.
func classes(d *sample.Draw, kinds int) []int {
	var l []int
	for range d.Below(12) {
		l = append(l, slices.Repeat([]int{1 + d.Below(kinds)}, 1+d.Below(5)*d.Below(2))...)
	}
	return l
}

func TestSpansByWords(t *testing.T) {
	d := sample.Draw(18)
	for range 30000 {
		classes := classes(&d, sample.One(&d, 1, 2, 9))
		if at := d.Below(len(classes) + 1); d.Below(9) == 0 {
			classes = slices.Insert(classes, at, sample.One(&d, 0, -1, 10, math.MaxInt, math.MinInt))
		}
		l := Spans(classes)
		if want := spansByWords(classes); !slices.Equal(l, want) {
			t.Fatalf("Spans of %v = %v; want %v", classes, l, want)
		}
		// Each block is in one span alone, which has its class.
		for i, class := range classes {
			has := slices.DeleteFunc(slices.Clone(l), func(s api.Span) bool { return i < s.From || i >= s.To })
			if len(has) != 1 || has[0].Class != class || Class(l, i) != class {
				t.Fatalf("Spans of %v have the block %d in %v", classes, i, has)
			}
		}
	}
}

// worn are spans of classes, of which some may be others.
func worn(d *sample.Draw) []api.Span {
	l := Spans(classes(d, sample.One(d, 2, 9)))
	if len(l) == 0 {
		return l
	}
	at := d.Below(len(l))
	number := sample.One(d, -1, 0, 1, 2, 5, 9, 10, math.MaxInt, math.MinInt, l[at].From, l[at].To)
	switch d.Below(12) {
	case 0:
		l[at].From = number
	case 1:
		l[at].To = number
	case 2:
		l[at].Class = number
	case 3:
		l = slices.Delete(l, at, at+1)
	case 4:
		l = slices.Insert(l, at, l[d.Below(len(l))])
	case 5:
		l = slices.Insert(l, at, api.Span{From: number, To: l[at].From, Class: l[at].Class})
	case 6:
		l[at].Class = l[d.Below(len(l))].Class
	case 7:
		l[at].To--
	case 8:
		slices.Reverse(l)
	}
	return l
}

func TestWornSpansByWords(t *testing.T) {
	d := sample.Draw(8)
	covered, others, round, none := 0, 0, 0, 0
	for range 60000 {
		l := worn(&d)
		for _, n := range []int{0, -1, 7, math.MaxInt, math.MinInt, last(l), last(l) + 1} {
			want := coversByWords(l, n)
			if ok := Covers(l, n); ok != want {
				t.Fatalf("Covers of %v, %d blocks = %v; want %v", l, n, ok, want)
			}
			if class := Class(l, n); class != classByWords(l, n) {
				t.Fatalf("Class of %v at %d = %d; want %d", l, n, class, classByWords(l, n))
			}
			if want {
				covered++
			} else if n == last(l) {
				others++
			}
		}
		for i := -2; i < 30; i++ {
			if class := Class(l, i); class != classByWords(l, i) {
				t.Fatalf("Class of %v at %d = %d; want %d", l, i, class, classByWords(l, i))
			} else if class == 0 {
				none++
			}
		}
		for _, class := range []int{-1, 0, 1, 2, 3, 5, 9, 10, math.MinInt, math.MaxInt} {
			n := Count(l, class)
			if want := countByWords(l, class); n != want {
				t.Fatalf("Count of %d in %v = %d; want %d", class, l, n, want)
			}
			if n < 0 {
				round++
			}
		}
	}
	// What is drawn has to tell all that may be told.
	if covered < 10000 || others < 10000 || round < 200 || none < 10000 {
		t.Errorf("%d cover all, %d don't, %d sums went round, %d blocks have no class", covered, others, round, none)
	}
}

// last is where the last of spans ends.
func last(l []api.Span) int {
	if len(l) == 0 {
		return 0
	}
	return l[len(l)-1].To
}

// The map of whatever covers each block once, and tells of it what the chain does.
func TestMapOfAnything(t *testing.T) {
	d := sample.Draw(5)
	told := map[int]int{}
	for range 8000 {
		x := sample.Anything(&d)
		l := Map(x)
		_, classes := chain.Walk(x)
		if !slices.Equal(l, spansByWords(classes)) || !Covers(l, medium.Count(x)) || !coversByWords(l, medium.Count(x)) {
			t.Fatalf("Map of %d bytes, bad %v = %v; want that of %v", len(x.Bytes), x.Bad, l, classes)
		}
		for i := range medium.Count(x) {
			if isBad := Class(l, i) == api.OfBad; isBad != medium.Bad(x, i) {
				t.Fatalf("bad %v: the block %d is %d", x.Bad, i, Class(l, i))
			}
		}
		all := 0
		for class := api.OfHeader; class <= api.OfNothing; class++ {
			all += Count(l, class)
			told[class] += Count(l, class)
		}
		if all != medium.Count(x) {
			t.Fatalf("the classes of %d blocks have %d together", medium.Count(x), all)
		}
	}
	for class := api.OfHeader; class <= api.OfNothing; class++ {
		if told[class] < 100 {
			t.Errorf("class %d was told %d times alone", class, told[class])
		}
	}
}

// In whatever pieces it was read, an image has the same map.
func TestMapOfWhateverPieces(t *testing.T) {
	d := sample.Draw(9)
	for range 500 {
		x := sample.Anything(&d)
		m := medium.New(x.Bytes, x.Bad, -1, 1+d.Below(700), d.Below(5000), d.Below(3))
		if l, again := Map(medium.Make(x.Bytes, x.Bad)), Map(medium.Gather(m)); !slices.Equal(l, again) {
			t.Fatalf("in pieces: %v; want %v", again, l)
		}
	}
}

// A strict archive has no block of the classes of damage, and an end.
func TestMapOfStrictArchives(t *testing.T) {
	d := sample.Draw(3)
	for range 500 {
		var b []byte
		for range d.Below(6) {
			b = append(b, sample.Written(sample.Member(&d))...)
		}
		l := Map(sample.Image(sample.Archived(b)))
		if end := (api.Span{From: len(b) / 512, To: len(b)/512 + 2, Class: api.OfEnd}); !slices.Contains(l, end) {
			t.Fatalf("the end of %v is not %v", l, end)
		}
		for class := api.OfOrphan; class <= api.OfNothing; class++ {
			if n := Count(l, class); n > 0 {
				t.Fatalf("%d blocks of a strict archive are %d", n, class)
			}
		}
	}
}
