package sink

import (
	"bytes"
	"math"
	"testing"

	"mudlark/api"
)

// some is so many bytes, of which none is 00 and neighbours differ.
func some(n int) []byte {
	b := make([]byte, n)
	for i := range b {
		b[i] = byte(1 + i%255)
	}
	return b
}

// model is a sink as the chapter has it: all that was written, and how many of its first bytes there is room for.
type model struct {
	room    int
	written []byte
}

func newModel(room int) *model {
	if room < 0 {
		room = 0
	}
	return &model{room: room}
}

func (m *model) bytes() []byte {
	if len(m.written) > m.room {
		return m.written[:m.room]
	}
	return m.written
}

func (m *model) left() int {
	return m.room - len(m.bytes())
}

func (m *model) write(b []byte) (int, api.Errno) {
	had := len(m.bytes())
	m.written = append(m.written, b...)
	n := len(m.bytes()) - had
	if n == len(b) {
		return n, api.OK
	}
	return n, api.ErrFull
}

// hold holds a sink against the model, while pieces of these lengths are written.
func hold(t *testing.T, room int, lengths []int) {
	t.Helper()
	s, m := New(room), newModel(room)
	from := some(1 << 14)
	for i, n := range lengths {
		b := from[:n]
		from = from[n:]
		got, e := s.Write(b)
		want, wantErr := m.write(b)
		if got != want || e != wantErr {
			t.Errorf("New(%d), Writes of %v, the one at %d: %d, %v; want %d, %v", room, lengths, i, got, e, want, wantErr)
		}
		if !bytes.Equal(s.Bytes(), m.bytes()) || s.Left() != m.left() {
			t.Errorf("New(%d), Writes of %v, behind the one at %d: Bytes %d, Left %d; want %d, %d", room, lengths, i, len(s.Bytes()), s.Left(), len(m.bytes()), m.left())
		}
	}
}

func TestNew(t *testing.T) {
	for _, c := range []struct{ room, want int }{
		{math.MinInt, 0}, {-512, 0}, {-1, 0}, {0, 0}, {1, 1}, {3, 3}, {512, 512},
		{1 << 31, 1 << 31}, {1 << 62, 1 << 62}, {math.MaxInt - 1, math.MaxInt - 1}, {math.MaxInt, math.MaxInt},
	} {
		s := New(c.room)
		if s == nil || len(s.Bytes()) != 0 || s.Left() != c.want {
			t.Errorf("New(%d): Bytes %x, Left %d; want %d", c.room, s.Bytes(), s.Left(), c.want)
		}
	}
}

func TestWrite(t *testing.T) {
	type write struct {
		b    string
		n    int
		e    api.Errno
		has  string
		left int
	}
	for _, c := range []struct {
		room   int
		writes []write
	}{
		{0, []write{{"", 0, api.OK, "", 0}, {"a", 0, api.ErrFull, "", 0}, {"", 0, api.OK, "", 0}}},
		{-1, []write{{"", 0, api.OK, "", 0}, {"a", 0, api.ErrFull, "", 0}}},
		{math.MinInt, []write{{"ab", 0, api.ErrFull, "", 0}, {"", 0, api.OK, "", 0}}},
		{1, []write{{"a", 1, api.OK, "a", 0}, {"b", 0, api.ErrFull, "a", 0}}},
		{1, []write{{"ab", 1, api.ErrFull, "a", 0}, {"c", 0, api.ErrFull, "a", 0}}},
		{3, []write{{"ab", 2, api.OK, "ab", 1}, {"", 0, api.OK, "ab", 1}, {"c", 1, api.OK, "abc", 0}, {"", 0, api.OK, "abc", 0}}},
		{3, []write{{"ab", 2, api.OK, "ab", 1}, {"cd", 1, api.ErrFull, "abc", 0}, {"e", 0, api.ErrFull, "abc", 0}, {"", 0, api.OK, "abc", 0}}},
		{3, []write{{"abc", 3, api.OK, "abc", 0}, {"d", 0, api.ErrFull, "abc", 0}}},
		{3, []write{{"abcd", 3, api.ErrFull, "abc", 0}}},
		{5, []write{{"\x00\x00", 2, api.OK, "\x00\x00", 3}, {"\xff\x80\x00\x7f", 3, api.ErrFull, "\x00\x00\xff\x80\x00", 0}}},
		{math.MaxInt, []write{{"abc", 3, api.OK, "abc", math.MaxInt - 3}, {"de", 2, api.OK, "abcde", math.MaxInt - 5}}},
	} {
		s := New(c.room)
		for i, w := range c.writes {
			n, e := s.Write([]byte(w.b))
			if n != w.n || e != w.e || string(s.Bytes()) != w.has || s.Left() != w.left {
				t.Errorf("New(%d), Write %d, of %q: %d, %v, Bytes %q, Left %d; want %d, %v, %q, %d", c.room, i, w.b, n, e, s.Bytes(), s.Left(), w.n, w.e, w.has, w.left)
			}
		}
	}
}

func TestExample(t *testing.T) {
	s := New(3)
	if n, e := s.Write([]byte("abcde")); n != 3 || int(e) != 20 {
		t.Errorf("%d, %v", n, e)
	}
	if string(s.Bytes()) != "abc" || s.Left() != 0 {
		t.Errorf("Bytes %q, Left %d", s.Bytes(), s.Left())
	}
}

func TestWriteByWords(t *testing.T) {
	for room := -1; room <= 9; room++ {
		for code := range 5 * 5 * 5 * 5 {
			hold(t, room, []int{code % 5, code / 5 % 5, code / 25 % 5, code / 125})
		}
	}
}

func TestLongPieces(t *testing.T) {
	for _, room := range []int{0, 1, 511, 512, 513, 1024, 4095, 4096, 4097, 8192, 10000, 1 << 20, math.MaxInt} {
		for _, lengths := range [][]int{
			{512, 512, 512}, {511, 1, 512, 1}, {4096, 4096}, {4097, 4095}, {8192, 0, 1}, {1, 4096, 7, 4000},
			{513, 513, 513, 513, 513, 513, 513, 513, 513}, {10000}, {10001}, {9999, 1, 1}, {1 << 14},
		} {
			hold(t, room, lengths)
		}
	}
}

// What it has is the front of all that was written: the same, in whatever pieces that was.
func TestFront(t *testing.T) {
	all := some(3000)
	for _, room := range []int{0, 1, 2, 100, 511, 512, 513, 1024, 2999, 3000, 3001, 5000} {
		for _, size := range []int{1, 2, 7, 511, 512, 513, 2999, 3000} {
			s, taken := New(room), 0
			for from := 0; from < len(all); from += size {
				n, _ := s.Write(all[from:min(from+size, len(all))])
				taken += n
			}
			want := all[:min(room, len(all))]
			if !bytes.Equal(s.Bytes(), want) || taken != len(want) || s.Left() != room-len(want) {
				t.Errorf("New(%d), pieces of %d: Bytes %d, %d taken, Left %d; want %d", room, size, len(s.Bytes()), taken, s.Left(), len(want))
			}
		}
	}
}

func TestManyWrites(t *testing.T) {
	const room = 1 << 20
	s := New(room)
	all := some(room + 100)
	for i := range all {
		n, e := s.Write(all[i : i+1])
		if i < room && (n != 1 || e != api.OK) || i >= room && (n != 0 || e != api.ErrFull) {
			t.Fatalf("Write of the byte %d: %d, %v", i, n, e)
		}
	}
	if !bytes.Equal(s.Bytes(), all[:room]) || s.Left() != 0 {
		t.Errorf("Bytes %d, Left %d", len(s.Bytes()), s.Left())
	}
}

func TestBytesTakesNothingAway(t *testing.T) {
	s := New(5)
	s.Write([]byte("abc"))
	for range 3 {
		if string(s.Bytes()) != "abc" || s.Left() != 2 {
			t.Errorf("Bytes %q, Left %d", s.Bytes(), s.Left())
		}
	}
	s.Write([]byte("de"))
	if string(s.Bytes()) != "abcde" || s.Left() != 0 {
		t.Errorf("Bytes %q, Left %d", s.Bytes(), s.Left())
	}
}

func TestNilSink(t *testing.T) {
	var s *Sink
	for _, b := range [][]byte{nil, {}, []byte("a"), some(600)} {
		if n, e := s.Write(b); n != 0 || e != api.ErrFull {
			t.Errorf("Write of %d bytes: %d, %v", len(b), n, e)
		}
	}
	if b, n := s.Bytes(), s.Left(); len(b) != 0 || n != 0 {
		t.Errorf("Bytes %x, Left %d", b, n)
	}
}

func TestNilIsEmpty(t *testing.T) {
	for _, room := range []int{-1, 0, 1, 3} {
		for _, had := range []string{"", "a", "abc"} {
			for _, b := range [][]byte{nil, {}, some(4)[:0]} {
				s := New(room)
				s.Write([]byte(had))
				has, left := s.Bytes(), s.Left()
				if n, e := s.Write(b); n != 0 || e != api.OK || !bytes.Equal(s.Bytes(), has) || s.Left() != left {
					t.Errorf("New(%d), %q, and a Write of nothing: %d, %v, Bytes %q, Left %d", room, had, n, e, s.Bytes(), s.Left())
				}
			}
		}
	}
}

func TestWhatIsHandedInStays(t *testing.T) {
	// Behind the length stand bytes that would tell if they were read.
	for _, room := range []int{0, 10, 100, 150, 1000} {
		b := some(300)
		s := New(room)
		n, _ := s.Write(b[:100])
		if n != min(room, 100) || !bytes.Equal(s.Bytes(), some(n)) {
			t.Errorf("New(%d): %d bytes, Bytes %d", room, n, len(s.Bytes()))
		}
		s.Write([]byte("something behind it"))
		if !bytes.Equal(b, some(300)) {
			t.Errorf("New(%d): what was handed in is another", room)
		}
	}
}

func TestWhatIsHandedInIsNotKept(t *testing.T) {
	for _, room := range []int{50, 100, 1000} {
		b := some(100)
		s := New(room)
		n, _ := s.Write(b)
		clear(b)
		if !bytes.Equal(s.Bytes(), some(n)) {
			t.Errorf("New(%d): it has what was handed in", room)
		}
		copy(b, some(100))
		s.Write(b)
		clear(b)
		if want := append(some(n), some(100)[:min(100, room-n)]...); !bytes.Equal(s.Bytes(), want) {
			t.Errorf("New(%d): it has what was handed in then", room)
		}
	}
}

func TestWhatComesOutIsNew(t *testing.T) {
	s := New(150)
	s.Write(some(100))
	one, other := s.Bytes(), s.Bytes()
	// Behind its length, too, nothing is of the sink's, or of another answer.
	for _, c := range one[len(one):cap(one)] {
		if c != 0 {
			t.Fatalf("behind what it has stands %x", c)
		}
	}
	one = one[:cap(one)]
	for i := range one {
		one[i] = 'x'
	}
	if !bytes.Equal(other, some(100)) || !bytes.Equal(s.Bytes(), some(100)) {
		t.Error("Bytes changes with what it told")
	}
	other = append(other, "yyyyyyyy"...)
	s.Write(some(60))
	if want := append(some(100), some(50)...); !bytes.Equal(s.Bytes(), want) {
		t.Error("Bytes changes with what was put behind what it told")
	}
	if !bytes.Equal(other, append(some(100), "yyyyyyyy"...)) {
		t.Error("what was told changes with a Write")
	}
}

// What Bytes told of a sink may be written into the same one.
func TestItsOwnBytes(t *testing.T) {
	s := New(20)
	s.Write([]byte("abc"))
	for range 3 {
		s.Write(s.Bytes())
	}
	if string(s.Bytes()) != "abcabcabcabcabcabcab" || s.Left() != 0 {
		t.Errorf("Bytes %q, Left %d", s.Bytes(), s.Left())
	}
}

func TestSinksKnowNothingOfOneAnother(t *testing.T) {
	b := some(100)
	one, other, third := New(10), New(200), New(10)
	one.Write(b[:20])
	other.Write(b)
	other.Write(one.Bytes())
	if !bytes.Equal(one.Bytes(), b[:10]) || one.Left() != 0 {
		t.Errorf("Bytes %d, Left %d", len(one.Bytes()), one.Left())
	}
	if !bytes.Equal(other.Bytes(), append(some(100), b[:10]...)) || other.Left() != 90 {
		t.Errorf("Bytes %d, Left %d", len(other.Bytes()), other.Left())
	}
	if len(third.Bytes()) != 0 || third.Left() != 10 {
		t.Errorf("Bytes %d, Left %d", len(third.Bytes()), third.Left())
	}
}
