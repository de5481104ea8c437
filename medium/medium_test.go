package medium

import (
	"bytes"
	"math"
	"slices"
	"testing"

	"mudlark/api"
)

// some is so many bytes, of which none is 00 and neighbouring blocks differ.
func some(n int) []byte {
	b := make([]byte, n)
	for i := range b {
		b[i] = byte(1 + (i+i/512*7)%255)
	}
	return b
}

// makeByWords is Make as the chapter has it.
func makeByWords(b []byte, bad []int) api.Image {
	var x api.Image
	for i := 0; i*512 < len(b); i++ {
		if slices.Contains(bad, i) {
			x.Bad = append(x.Bad, i)
		}
	}
	for place, c := range b {
		if slices.Contains(bad, place/512) {
			c = 0
		}
		x.Bytes = append(x.Bytes, c)
	}
	return x
}

// piecesByWords is what Reads of so many bytes tell, one after another.
func piecesByWords(b []byte, sizes []int) [][]byte {
	var l [][]byte
	for i := 0; len(b) > 0; i++ {
		n := 512
		if len(sizes) > 0 {
			n = sizes[i%len(sizes)]
		}
		if n < 1 {
			n = 1
		}
		if n > 4096 {
			n = 4096
		}
		if n > len(b) {
			n = len(b)
		}
		l = append(l, b[:n])
		b = b[n:]
	}
	return l
}

func same(x, y api.Image) bool {
	return bytes.Equal(x.Bytes, y.Bytes) && slices.Equal(x.Bad, y.Bad)
}

// reads are the pieces that are left.
func reads(m *Medium) [][]byte {
	var l [][]byte
	for {
		piece, ok := m.Read()
		if !ok {
			return l
		}
		l = append(l, piece)
	}
}

func lengths(l [][]byte) []int {
	var n []int
	for _, b := range l {
		n = append(n, len(b))
	}
	return n
}

var badLists = [][]int{
	nil, {}, {0}, {1}, {2}, {3}, {0, 1}, {1, 0}, {2, 0, 1}, {1, 1}, {1, 0, 1, 0, 2, 2, 0},
	{-1}, {-1, 0}, {-512}, {512}, {7}, {3, 2, 1, 0, -1}, {100, 0, 50}, {4, 9},
	{math.MaxInt, math.MinInt, 1}, {math.MaxInt/512 + 1, math.MinInt / 512}, {1 << 55}, {1<<55 + 1},
}

var imageLengths = []int{0, 1, 2, 511, 512, 513, 1023, 1024, 1025, 1536, 2047, 2048, 5120, 5121, 10000}

var sizeLists = [][]int{
	nil, {}, {1}, {2}, {7}, {511}, {512}, {513}, {1024}, {4095}, {4096}, {4097}, {1 << 20},
	{0}, {-1}, {math.MinInt}, {math.MaxInt}, {1, 2}, {3, 1, 2}, {512, 1}, {0, 0, 600}, {-5, 5000, 512},
	{100, 200, 300, 400, 500, 600}, {1, 1}, {math.MaxInt, math.MinInt, 0, 10},
}

var ends = []int{-1, math.MinInt, 0, 1, 511, 512, 513, 700, 1024, 1025, 2000, 5120, 9999, 10000, 10001, 1 << 40, math.MaxInt}

// endOf is where bytes end.
func endOf(b []byte, end int) []byte {
	if end >= 0 && end < len(b) {
		return b[:end]
	}
	return b
}

func TestMake(t *testing.T) {
	for _, c := range []struct {
		n     int
		bad   []int
		want  []int
		zeros [][2]int // from and behind which places
	}{
		{0, nil, nil, nil},
		{0, []int{0, 1}, nil, nil},
		{1, nil, nil, nil},
		{1, []int{0}, []int{0}, [][2]int{{0, 1}}},
		{1, []int{1}, nil, nil},
		{512, []int{0}, []int{0}, [][2]int{{0, 512}}},
		{512, []int{1}, nil, nil},
		{513, []int{0}, []int{0}, [][2]int{{0, 512}}},
		{513, []int{1}, []int{1}, [][2]int{{512, 513}}},
		{513, []int{2}, nil, nil},
		{513, []int{1, 1, 7}, []int{1}, [][2]int{{512, 513}}},
		{1536, []int{2, 0}, []int{0, 2}, [][2]int{{0, 512}, {1024, 1536}}},
		{1536, []int{2, 1, 0, 1, 2}, []int{0, 1, 2}, [][2]int{{0, 1536}}},
		{1536, []int{3, -1, 1}, []int{1}, [][2]int{{512, 1024}}},
		{1536, []int{-1, -2, math.MinInt, math.MaxInt}, nil, nil},
		{1600, []int{3}, []int{3}, [][2]int{{1536, 1600}}},
	} {
		want := some(c.n)
		for _, z := range c.zeros {
			for i := z[0]; i < z[1]; i++ {
				want[i] = 0
			}
		}
		x := Make(some(c.n), c.bad)
		if !bytes.Equal(x.Bytes, want) || !slices.Equal(x.Bad, c.want) {
			t.Errorf("Make of %d bytes, %v: %d bytes, as wanted %v, Bad %v; want %v", c.n, c.bad, len(x.Bytes), bytes.Equal(x.Bytes, want), x.Bad, c.want)
		}
	}
}

func TestMakeByWords(t *testing.T) {
	for _, n := range imageLengths {
		for _, bad := range badLists {
			if x, want := Make(some(n), bad), makeByWords(some(n), bad); !same(x, want) {
				t.Errorf("Make of %d bytes, %v: Bad %v; want %v", n, bad, x.Bad, want.Bad)
			}
		}
	}
}

func TestManyBad(t *testing.T) {
	var bad []int
	for i := 2000; i >= -10; i-- {
		bad = append(bad, i, i+1, i)
	}
	x := Make(some(1000*512+1), bad)
	if len(x.Bad) != 1001 || x.Bad[0] != 0 || x.Bad[1000] != 1000 || !slices.IsSorted(x.Bad) {
		t.Errorf("%d of 1001 blocks are Bad", len(x.Bad))
	}
	if !bytes.Equal(x.Bytes, make([]byte, 1000*512+1)) {
		t.Error("what is Bad is not 00")
	}
}

func TestCount(t *testing.T) {
	want := 0
	for n := range 2100 {
		if n%512 == 1 {
			want++
		}
		if c := Count(api.Image{Bytes: make([]byte, n)}); c != want {
			t.Errorf("Count of %d bytes = %d; want %d", n, c, want)
		}
		if c := Count(api.Image{Bytes: make([]byte, n), Bad: []int{0, 1, 9, -3}}); c != want {
			t.Errorf("Count of %d bytes, some bad = %d; want %d", n, c, want)
		}
	}
}

func TestBlock(t *testing.T) {
	for _, n := range imageLengths {
		b := some(n)
		x := api.Image{Bytes: some(n), Bad: []int{1}}
		for i := range 25 {
			want := b[min(i*512, n):min(i*512+512, n)]
			// Bytes that are bad, and not 00, are told as they stand.
			if got := Block(x, i); !bytes.Equal(got, want) {
				t.Errorf("Block %d of %d bytes: %d bytes; want %d", i, n, len(got), len(want))
			}
		}
		for _, i := range []int{-1, -2, -512, math.MinInt, math.MaxInt, math.MaxInt / 512, math.MaxInt/512 + 1, 1 << 55, 1 << 56} {
			if got := Block(x, i); len(got) != 0 {
				t.Errorf("Block %d of %d bytes: %d bytes; want none", i, n, len(got))
			}
		}
	}
}

func TestBlocksAreTheBytes(t *testing.T) {
	for _, n := range imageLengths {
		x := Make(some(n), []int{2})
		var b []byte
		for i := range Count(x) {
			b = append(b, Block(x, i)...)
		}
		if !bytes.Equal(b, x.Bytes) {
			t.Errorf("%d bytes: the blocks are %d others", n, len(b))
		}
	}
}

func TestBad(t *testing.T) {
	for _, c := range []struct {
		x    api.Image
		i    int
		want bool
	}{
		{api.Image{}, 0, false},
		{Make(some(1025), nil), 0, false},
		{Make(some(1025), []int{0}), 0, true},
		{Make(some(1025), []int{0}), 1, false},
		{Make(some(1025), []int{2, 0}), 0, true},
		{Make(some(1025), []int{2, 0}), 1, false},
		{Make(some(1025), []int{2, 0}), 2, true},
		{Make(some(1025), []int{2, 0}), 3, false},
		{Make(some(1025), []int{2, 0}), -1, false},
		{Make(some(1025), []int{3, -1}), 3, false},
		{Make(some(1025), []int{3, -1}), -1, false},
		// What stands among Bad counts, in whatever order, and be it no block.
		{api.Image{Bytes: some(2000), Bad: []int{3, 1, 2}}, 1, true},
		{api.Image{Bytes: some(2000), Bad: []int{3, 1, 2}}, 2, true},
		{api.Image{Bytes: some(2000), Bad: []int{3, 1, 2}}, 3, true},
		{api.Image{Bytes: some(2000), Bad: []int{3, 1, 2}}, 0, false},
		{api.Image{Bad: []int{5}}, 5, true},
		{api.Image{Bad: []int{-5}}, -5, true},
		{api.Image{Bad: []int{math.MaxInt}}, math.MaxInt, true},
		// 00 alone make no block bad.
		{api.Image{Bytes: make([]byte, 512)}, 0, false},
	} {
		if ok := Bad(c.x, c.i); ok != c.want {
			t.Errorf("Bad %d of %d bytes, Bad %v = %v", c.i, len(c.x.Bytes), c.x.Bad, ok)
		}
	}
}

func TestRead(t *testing.T) {
	for _, c := range []struct {
		n     int
		end   int
		sizes []int
		want  []int // the pieces' lengths
	}{
		{0, -1, nil, nil},
		{0, -1, []int{5}, nil},
		{10, 0, nil, nil},
		{1, -1, nil, []int{1}},
		{512, -1, nil, []int{512}},
		{513, -1, nil, []int{512, 1}},
		{1500, -1, nil, []int{512, 512, 476}},
		{1500, 1024, nil, []int{512, 512}},
		{10, -1, []int{3}, []int{3, 3, 3, 1}},
		{10, 9, []int{3}, []int{3, 3, 3}},
		{10, -1, []int{10}, []int{10}},
		{10, -1, []int{11}, []int{10}},
		{10, -1, []int{9}, []int{9, 1}},
		{10, -1, []int{1, 2}, []int{1, 2, 1, 2, 1, 2, 1}},
		{12, -1, []int{1, 2, 3}, []int{1, 2, 3, 1, 2, 3}},
		{12, -1, []int{3, 1, 2}, []int{3, 1, 2, 3, 1, 2}},
		{13, -1, []int{3, 1, 2}, []int{3, 1, 2, 3, 1, 2, 1}},
		{5, -1, []int{0}, []int{1, 1, 1, 1, 1}},
		{5, -1, []int{-1, 2}, []int{1, 2, 1, 1}},
		{5, -1, []int{math.MinInt}, []int{1, 1, 1, 1, 1}},
		{9000, -1, []int{4096}, []int{4096, 4096, 808}},
		{9000, -1, []int{4097}, []int{4096, 4096, 808}},
		{9000, -1, []int{math.MaxInt}, []int{4096, 4096, 808}},
		{9000, -1, []int{4095}, []int{4095, 4095, 810}},
		{9000, -1, []int{5000, 0}, []int{4096, 1, 4096, 1, 806}},
		{4096, -1, []int{4096}, []int{4096}},
	} {
		m := New(some(c.n), nil, c.end, c.sizes...)
		l := reads(m)
		if got := lengths(l); !slices.Equal(got, c.want) {
			t.Errorf("%d bytes to %d, sizes %v: pieces of %v; want %v", c.n, c.end, c.sizes, got, c.want)
		}
		if want := endOf(some(c.n), c.end); !bytes.Equal(slices.Concat(l...), want) {
			t.Errorf("%d bytes to %d, sizes %v: the pieces are others", c.n, c.end, c.sizes)
		}
		for range 3 {
			if piece, ok := m.Read(); len(piece) != 0 || ok {
				t.Errorf("%d bytes to %d, sizes %v: behind the end %d bytes, %v", c.n, c.end, c.sizes, len(piece), ok)
			}
		}
	}
}

func TestReadByWords(t *testing.T) {
	for _, n := range []int{0, 1, 513, 2048, 5000, 10000} {
		for _, end := range ends {
			for _, sizes := range sizeLists {
				bad := []int{3, 1, 1, 40}
				want := makeByWords(endOf(some(n), end), bad)
				m := New(some(n), bad, end, sizes...)
				if l, w := reads(m), piecesByWords(want.Bytes, sizes); !slices.EqualFunc(l, w, bytes.Equal) {
					t.Errorf("%d bytes to %d, sizes %v: pieces of %v; want %v", n, end, sizes, lengths(l), lengths(w))
				}
				if got := m.Spoilt(); !slices.Equal(got, want.Bad) {
					t.Errorf("%d bytes to %d: Spoilt %v; want %v", n, end, got, want.Bad)
				}
			}
		}
	}
}

func TestSpoilt(t *testing.T) {
	for _, c := range []struct {
		n, end int
		bad    []int
		want   []int
	}{
		{0, -1, []int{0}, nil},
		{2000, -1, nil, nil},
		{2000, -1, []int{3, 0, 3}, []int{0, 3}},
		{2000, -1, []int{4, -1}, nil},
		{2000, 1537, []int{3, 0}, []int{0, 3}},
		{2000, 1536, []int{3, 0}, []int{0}},
		{2000, 1, []int{3, 0}, []int{0}},
		{2000, 0, []int{3, 0}, nil},
		{2000, 2001, []int{3, 0}, []int{0, 3}},
	} {
		m := New(some(c.n), c.bad, c.end, 100)
		// It is the same before, between and behind the Reads.
		for ok := true; ok; _, ok = m.Read() {
			if got := m.Spoilt(); !slices.Equal(got, c.want) {
				t.Fatalf("%d bytes to %d, %v: Spoilt %v; want %v", c.n, c.end, c.bad, got, c.want)
			}
		}
		if got := m.Spoilt(); !slices.Equal(got, c.want) {
			t.Errorf("%d bytes to %d, %v: Spoilt %v behind the end; want %v", c.n, c.end, c.bad, got, c.want)
		}
	}
}

func TestGather(t *testing.T) {
	for _, n := range []int{0, 1, 512, 513, 5000, 10000} {
		for _, end := range ends {
			for _, bad := range badLists {
				want := makeByWords(endOf(some(n), end), bad)
				// In whatever pieces it is read, the image is the same.
				for _, sizes := range sizeLists {
					m := New(some(n), bad, end, sizes...)
					if x := Gather(m); !same(x, want) {
						t.Fatalf("%d bytes to %d, %v, sizes %v: %d bytes, Bad %v; want %d, %v", n, end, bad, sizes, len(x.Bytes), x.Bad, len(want.Bytes), want.Bad)
					}
				}
			}
		}
	}
}

func TestGatherOfTheRest(t *testing.T) {
	bad := []int{0, 1, 2, 3}
	for _, sizes := range sizeLists {
		whole := makeByWords(some(2000), bad[1:3])
		pieces := piecesByWords(whole.Bytes, sizes)
		for ahead := range min(len(pieces)+2, 20) {
			m := New(some(2000), bad[1:3], -1, sizes...)
			for range ahead {
				m.Read()
			}
			want := api.Image{Bytes: slices.Concat(pieces[min(ahead, len(pieces)):]...)}
			if ahead == 0 {
				want.Bad = whole.Bad
			}
			if x := Gather(m); !same(x, want) {
				t.Errorf("sizes %v, %d read ahead: %d bytes, Bad %v; want %d, %v", sizes, ahead, len(x.Bytes), x.Bad, len(want.Bytes), want.Bad)
			}
		}
	}
}

func TestGatherLeavesNothing(t *testing.T) {
	m := New(some(1000), []int{1}, -1, 300)
	if x := Gather(m); len(x.Bytes) != 1000 || !slices.Equal(x.Bad, []int{1}) {
		t.Errorf("%d bytes, Bad %v", len(x.Bytes), x.Bad)
	}
	if piece, ok := m.Read(); len(piece) != 0 || ok {
		t.Errorf("Read behind it: %d bytes, %v", len(piece), ok)
	}
	if x := Gather(m); len(x.Bytes) != 0 || len(x.Bad) != 0 {
		t.Errorf("Gather behind it: %d bytes, Bad %v", len(x.Bytes), x.Bad)
	}
	if bad := m.Spoilt(); !slices.Equal(bad, []int{1}) {
		t.Errorf("Spoilt behind it: %v", bad)
	}
}

func TestExample(t *testing.T) {
	x := Make(make([]byte, 513), nil)
	if n := Count(x); n != 2 {
		t.Errorf("Count = %d", n)
	}
	if b := Block(x, 1); len(b) != 1 || b[0] != 0 {
		t.Errorf("Block 1 = %x", b)
	}
}

func TestNilMedium(t *testing.T) {
	var m *Medium
	if piece, ok := m.Read(); len(piece) != 0 || ok {
		t.Errorf("Read: %d bytes, %v", len(piece), ok)
	}
	if bad := m.Spoilt(); len(bad) != 0 {
		t.Errorf("Spoilt: %v", bad)
	}
	if x := Gather(m); len(x.Bytes) != 0 || len(x.Bad) != 0 {
		t.Errorf("Gather: %d bytes, Bad %v", len(x.Bytes), x.Bad)
	}
	if x := Gather(new(Medium)); len(x.Bytes) != 0 || len(x.Bad) != 0 {
		t.Errorf("Gather of one that no call gave: %d bytes, Bad %v", len(x.Bytes), x.Bad)
	}
}

func TestNilIsEmpty(t *testing.T) {
	for _, b := range [][]byte{nil, {}} {
		for _, bad := range [][]int{nil, {}} {
			if x := Make(b, bad); len(x.Bytes) != 0 || len(x.Bad) != 0 {
				t.Errorf("Make: %v", x)
			}
			x := api.Image{Bytes: b, Bad: bad}
			if Count(x) != 0 || len(Block(x, 0)) != 0 || Bad(x, 0) {
				t.Errorf("Count %d, Block %v, Bad %v", Count(x), Block(x, 0), Bad(x, 0))
			}
			for _, sizes := range [][]int{nil, {}} {
				m := New(b, bad, 0, sizes...)
				if piece, ok := m.Read(); m == nil || len(piece) != 0 || ok || len(m.Spoilt()) != 0 {
					t.Errorf("Read: %v, %v", piece, ok)
				}
				if x := Gather(New(some(600), bad, -1, sizes...)); !same(x, api.Image{Bytes: some(600)}) {
					t.Errorf("Gather: %d bytes, Bad %v", len(x.Bytes), x.Bad)
				}
			}
		}
	}
}

func TestWhatIsHandedInStays(t *testing.T) {
	// Behind the lengths stand bytes and numbers that would tell if they were read.
	b, bad, sizes := some(3000), []int{2, 0, 1, 1}, []int{100, 7, 9}
	early, few, first := b[:1100], bad[:2], sizes[:1]
	want := makeByWords(some(1100), []int{2, 0})
	if x := Make(early, few); !same(x, want) {
		t.Errorf("Make: %d bytes, Bad %v", len(x.Bytes), x.Bad)
	}
	for _, end := range []int{-1, 1100, 2000, 3000} {
		m := New(early, few, end, first...)
		if l := reads(m); !slices.EqualFunc(l, piecesByWords(want.Bytes, []int{100}), bytes.Equal) {
			t.Errorf("to %d: pieces of %v", end, lengths(l))
		}
		if x := Gather(New(early, few, end, first...)); !same(x, want) {
			t.Errorf("Gather to %d: %d bytes, Bad %v", end, len(x.Bytes), x.Bad)
		}
	}
	x := api.Image{Bytes: early, Bad: few}
	if Count(x) != 3 || len(Block(x, 2)) != 76 || len(Block(x, 3)) != 0 || Bad(x, 1) || !Bad(x, 2) {
		t.Errorf("Count %d, Block %d bytes, %d bytes, Bad %v, %v", Count(x), len(Block(x, 2)), len(Block(x, 3)), Bad(x, 1), Bad(x, 2))
	}
	if !bytes.Equal(b, some(3000)) || !slices.Equal(bad, []int{2, 0, 1, 1}) || !slices.Equal(sizes, []int{100, 7, 9}) {
		t.Error("what was handed in is another")
	}
}

func TestWhatIsHandedInIsNotKept(t *testing.T) {
	b, bad, sizes := some(2000), []int{2, 0}, []int{100, 7}
	want := makeByWords(some(2000), []int{2, 0})
	m, x := New(b, bad, -1, sizes...), Make(b, bad)
	clear(b)
	clear(bad)
	clear(sizes)
	if !same(x, want) {
		t.Errorf("Make changes with what was handed in: Bad %v", x.Bad)
	}
	if !slices.Equal(m.Spoilt(), want.Bad) {
		t.Errorf("Spoilt changes with what was handed in: %v", m.Spoilt())
	}
	if l := reads(m); !slices.EqualFunc(l, piecesByWords(want.Bytes, []int{100, 7}), bytes.Equal) {
		t.Errorf("Reads change with what was handed in: pieces of %v", lengths(l))
	}
}

// spoil writes over a list, and behind it.
func spoil[T any](l []T, with T) {
	l = l[:cap(l)]
	for i := range l {
		l[i] = with
	}
}

func TestWhatComesOutIsNew(t *testing.T) {
	want := makeByWords(some(2000), []int{2, 0})

	m := New(some(2000), []int{2, 0}, -1, 500)
	spoil(m.Spoilt(), 1)
	if !slices.Equal(m.Spoilt(), want.Bad) {
		t.Errorf("Spoilt changes with what it told: %v", m.Spoilt())
	}
	var all []byte
	for {
		piece, ok := m.Read()
		if !ok {
			break
		}
		all = append(all, piece...)
		spoil(piece, 'x')
	}
	if !bytes.Equal(all, want.Bytes) {
		t.Error("Reads change with what they told")
	}

	one, other := Make(some(2000), []int{2, 0}), Make(some(2000), []int{2, 0})
	spoil(one.Bytes, 'x')
	spoil(one.Bad, 7)
	if !same(other, want) {
		t.Error("Make gives what it gave before")
	}
	for i := range Count(other) {
		b := Block(other, i)
		again := bytes.Clone(b)
		spoil(b, 'x')
		if !same(other, want) || !bytes.Equal(Block(other, i), again) {
			t.Errorf("Block %d is not new", i)
		}
	}

	m = New(some(2000), []int{2, 0}, -1, 500)
	x := Gather(m)
	spoil(x.Bytes, 'x')
	spoil(x.Bad, 7)
	if !slices.Equal(m.Spoilt(), want.Bad) {
		t.Errorf("Spoilt changes with what Gather told: %v", m.Spoilt())
	}
}

func TestMediaKnowNothingOfOneAnother(t *testing.T) {
	b, sizes := some(2000), []int{300, 200}
	one, other := New(b, []int{1}, -1, sizes...), New(b, []int{2}, 1800, sizes...)
	one.Read()
	Gather(New(b, nil, -1, sizes...))
	piece, _ := other.Read()
	if len(piece) != 300 || !slices.Equal(other.Spoilt(), []int{2}) || !slices.Equal(one.Spoilt(), []int{1}) {
		t.Errorf("%d bytes, Spoilt %v and %v", len(piece), other.Spoilt(), one.Spoilt())
	}
	if piece, _ := one.Read(); len(piece) != 200 {
		t.Errorf("%d bytes", len(piece))
	}
}
