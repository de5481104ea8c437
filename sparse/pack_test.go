package sparse

import (
	"bytes"
	"slices"
	"strings"
	"testing"

	"mudlark/api"
	"mudlark/head"
)

const wholeBlock = 512

func packs(t *testing.T, b []byte, want []api.Part, data string) {
	t.Helper()
	if l, stored := Pack(b); !slices.Equal(l, want) || string(stored) != data {
		t.Errorf("Pack of %d bytes = %s, %d bytes; want %s, %d bytes", len(b), short(l), len(stored), short(want), len(data))
	}
}

// file is bytes whose blocks are noughts where a byte of its plan is a point, and of that byte where it is another one; so many bytes of the last block are missing.
func file(plan string, missing int) []byte {
	var b []byte
	for i := range len(plan) {
		b = append(b, bytes.Repeat([]byte(strings.ReplaceAll(plan[i:i+1], ".", "\x00")), wholeBlock)...)
	}
	return b[:len(b)-missing]
}

func TestPack(t *testing.T) {
	for _, c := range []struct {
		plan    string
		missing int
		want    []api.Part
	}{
		{"", 0, nil},
		{".", 0, nil},
		{".", 511, nil},
		{"....", 0, nil},
		{"....", 100, nil},
		{"a", 0, parts(0, 512)},
		{"a", 511, parts(0, 1)},
		{"a", 12, parts(0, 500)},
		{"ab", 0, parts(0, 1024)},
		{"ab", 511, parts(0, 513)},
		{"a.", 0, parts(0, 512)},
		{"a.", 511, parts(0, 512)},
		{".a", 0, parts(512, 512)},
		{".a", 511, parts(512, 1)},
		{"a.b", 0, parts(0, 512, 1024, 512)},
		{"a.b", 500, parts(0, 512, 1024, 12)},
		{"abc...de.f", 0, parts(0, 1536, 3072, 1024, 4608, 512)},
		{"abc...de.f", 1, parts(0, 1536, 3072, 1024, 4608, 511)},
		{"...abc", 300, parts(1536, 1236)},
		{".a.b.c.", 0, parts(512, 512, 1536, 512, 2560, 512)},
		{"\xff.\x01", 0, parts(0, 512, 1024, 512)},
	} {
		b := file(c.plan, c.missing)
		var data []byte
		for _, p := range c.want {
			data = append(data, b[p.At:p.At+p.Len]...)
		}
		packs(t, b, c.want, string(data))
		expands(t, c.want, len(b), string(data), string(b))
	}
}

// TestPackOfEachByte: one byte that is not 00, wherever it is, makes its block a part, and no other block.
func TestPackOfEachByte(t *testing.T) {
	for _, long := range []int{1, 2, 511, 512, 513, 1024, 1100} {
		for i := range long {
			for _, c := range []byte{1, ' ', 0x80, 0xff} {
				b := make([]byte, long)
				b[i] = c
				from := i / wholeBlock * wholeBlock
				behind := min(from+wholeBlock, long)
				packs(t, b, parts(from, behind-from), string(b[from:behind]))
			}
		}
	}
}

// packByWords is the call as the chapter has it: each row begins behind a block without a byte, and ends ahead of one.
func packByWords(b []byte) ([]api.Part, []byte) {
	has := func(i int) bool {
		from := i * wholeBlock
		return i >= 0 && from < len(b) && strings.Trim(string(b[from:min(from+wholeBlock, len(b))]), "\x00") != ""
	}
	var l []api.Part
	var data []byte
	for i := 0; i*wholeBlock < len(b); i++ {
		if !has(i) || has(i-1) {
			continue
		}
		behind := i
		for has(behind) {
			behind++
		}
		from, to := i*wholeBlock, min(behind*wholeBlock, len(b))
		l = append(l, api.Part{At: from, Len: to - from})
		data = append(data, b[from:to]...)
	}
	return l, data
}

// TestWhatIsPackedIsExpanded goes through all files of up to so many blocks, each of them noughts or not.
func TestWhatIsPackedIsExpanded(t *testing.T) {
	for blocks := range 9 {
		for plan := range 1 << blocks {
			b := make([]byte, blocks*wholeBlock)
			for i := range blocks {
				if plan>>i&1 == 1 {
					b[i*wholeBlock] = byte(i + 1)
				}
			}
			for _, missing := range []int{0, 1, 256, 511} {
				if missing > 0 && blocks == 0 {
					continue
				}
				part := b[:len(b)-missing]
				want, stored := packByWords(part)
				packs(t, part, want, string(stored))
				expands(t, want, len(part), string(stored), string(part))
				checks(t, want, len(stored), len(part), api.OK)
				parses(t, Print(want), want)
			}
		}
	}
}

// TestPackOfManyRows: there may be more rows than are expanded, and more bytes.
func TestPackOfManyRows(t *testing.T) {
	for _, n := range []int{999, 1000, 1001, 1024, 3000} {
		b := file(strings.Repeat("a.", n), 0)
		want, stored := packByWords(b)
		if len(want) != n {
			t.Fatalf("%d rows are %d", n, len(want))
		}
		packs(t, b, want, string(stored))
		if n <= 1000 {
			expands(t, want, len(b), string(stored), string(b))
		} else {
			refuses(t, want, len(b), string(stored), api.ErrLong)
		}
	}
	for _, long := range []int{1 << 20, 1<<20 + 1, 1 << 22} {
		b := bytes.Repeat([]byte("x"), long)
		packs(t, b, parts(0, long), string(b))
	}
}

// octal is a number as a block of old has it, 12 bytes wide.
func octal(n int) string {
	b := []byte("00000000000\x00")
	for i := range 11 {
		b[10-i] = '0' + byte(n>>(3*i)&7)
	}
	return string(b)
}

// pairs are parts as a block of old has them.
func pairs(l []api.Part) string {
	var s string
	for _, p := range l {
		s += octal(p.At) + octal(p.Len)
	}
	return s
}

// old is a block that begins so, with a byte at 504.
func old(front string, more byte) []byte {
	b := make([]byte, wholeBlock)
	copy(b, front)
	b[504] = more
	return b
}

func tells(t *testing.T, b []byte, want []api.Part, isMore bool) {
	t.Helper()
	if l, m, ok := Old(b); !slices.Equal(l, want) || m != isMore || !ok {
		t.Errorf("Old of %.60q = %s, %v, %v; want %s, %v", b, short(l), m, ok, short(want), isMore)
	}
}

func tellsNothing(t *testing.T, b []byte) {
	t.Helper()
	if l, m, ok := Old(b); len(l) != 0 || m || ok {
		t.Errorf("Old of %d bytes, %.60q = %s, %v, %v", len(b), b, short(l), m, ok)
	}
}

func TestOld(t *testing.T) {
	for n := range 22 {
		for _, more := range []byte{0, 1} {
			tells(t, old(pairs(many(n)), more), many(n), more == 1)
		}
	}
	// What they tell is not checked, but read; and what is behind the first one that is none is not read.
	for _, l := range [][]api.Part{parts(7, 0), parts(0, 7), parts(9, 9, 3, 1, 3, 1), parts(1<<32, 1<<32)} {
		tells(t, old(pairs(l), 0), l, false)
		tells(t, old(pairs(l)+pairs(parts(0, 0))+"what is no number", 1), l, true)
		tells(t, old(pairs(l)+pairs(parts(0, 0))+pairs(l), 0), l, false)
	}
	tells(t, old(" 17 \x00 "+strings.Repeat("\x00", 6)+"\x80\x00\x00\x00\x00\x00\x00\x01\x00\x00\x00\x00", 0), parts(15, 1<<32), false)
	tells(t, make([]byte, wholeBlock), nil, false)
}

func TestOldOfMore(t *testing.T) {
	l := parts(0, 5, 10, 2)
	for c := range 256 {
		tells(t, old(pairs(l), byte(c)), l, c != 0)
	}
	// The bytes beside it do not count.
	for i := range 8 {
		b := old(pairs(many(21)), 0)
		b[504+i] = 'x'
		tells(t, b, many(21), i == 0)
	}
	b := old(pairs(many(21)), 0)
	b[503] = ' '
	tells(t, b, many(21), false)
}

func TestOldOfNone(t *testing.T) {
	whole := append(old(pairs(many(21)), 1), old(pairs(many(21)), 1)...)
	for n := range len(whole) + 1 {
		if n != wholeBlock {
			tellsNothing(t, whole[:n])
		}
	}
	for i := range 42 {
		for _, wrong := range []string{"x", "8", "-1", "0 1", "\x7f", strings.Repeat("\xff", 12), "\x80\xff\xff\xff\xff\xff\xff\xff"} {
			for _, more := range []byte{0, 1} {
				b := old(pairs(many(21)), more)
				copy(b[12*i:12*i+12], wrong)
				tellsNothing(t, b)
			}
		}
	}
}

// TestOldByWords holds what is told against what layer 8 tells, whatever byte is another one.
func TestOldByWords(t *testing.T) {
	for _, n := range []int{0, 1, 3, 20, 21} {
		for i := range wholeBlock {
			for _, c := range []byte{0, 1, ' ', '0', '7', '8', 0x80, 0xff} {
				b := old(pairs(many(n)), byte(n&1))
				b[i] = c
				want, isTrue := head.Parts(b, 0, 21)
				l, m, ok := Old(b)
				if !slices.Equal(l, want) || ok != isTrue || m != (isTrue && b[504] != 0) {
					t.Fatalf("%d parts, %02x at %d: Old = %s, %v, %v; want %s, %v", n, c, i, short(l), m, ok, short(want), isTrue)
				}
			}
		}
	}
}

func TestWhatOldHasStays(t *testing.T) {
	whole := append(old(pairs(many(5)), 1), 'x', 'y', 'z')
	was := bytes.Clone(whole)
	b := whole[:wholeBlock]
	one, _, _ := Old(b)
	other, _, _ := Old(b)
	spoil(nil, one)
	if !bytes.Equal(whole, was) {
		t.Error("a block became another one")
	}
	spoil(b[:wholeBlock:wholeBlock], nil)
	if !slices.Equal(other, many(5)) {
		t.Errorf("parts became %s", short(other))
	}
}
