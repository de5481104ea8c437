package write

import (
	"bytes"
	"fmt"
	"math"
	"slices"
	"strings"
	"testing"

	"mudlark/api"
	"mudlark/sample"
)

// laid is a header's block byte by byte: texts at their places, octal digits of nought where no other ones stand, and the sum.
func laid(texts map[int]string) []byte {
	b := make([]byte, 512)
	for place, digits := range map[int]int{100: 7, 108: 7, 116: 7, 124: 11, 136: 11, 329: 7, 337: 7} {
		copy(b[place:], strings.Repeat("0", digits))
	}
	copy(b[257:], "ustar\x0000")
	for place, text := range texts {
		copy(b[place:], text)
	}
	copy(b[148:], "        ")
	n := 0
	for _, c := range b {
		n += int(c)
	}
	copy(b[148:], fmt.Sprintf("%06o\x00 ", n))
	return b
}

// local is the header of records, of so many bytes, and these behind it.
func local(payload string) []byte {
	h := laid(map[int]string{0: "pax", 100: "0000644", 124: fmt.Sprintf("%011o", len(payload)), 156: "x"})
	return slices.Concat(h, sample.Filled([]byte(payload)))
}

// file is the header of a file, of so many bytes, and these behind it.
func file(name string, data []byte) []byte {
	return slices.Concat(laid(map[int]string{0: name, 124: fmt.Sprintf("%011o", len(data)), 156: "0"}), sample.Filled(data))
}

// plain is a file that may be, changed one with something of it another.
func plain(name string, data []byte) api.Member {
	return api.Member{Meta: api.Meta{Name: name, Kind: api.File, Size: len(data), Real: len(data)}, Data: data}
}

func changed(data []byte, change func(m *api.Meta)) api.Member {
	m := plain("a", data)
	change(&m.Meta)
	return m
}

// of is a member of no bytes, of a kind.
func of(kind byte) api.Member {
	m := api.Meta{Name: "a", Kind: kind}
	if kind == api.Hard || kind == api.Soft {
		m.Link = "l"
	}
	return api.Member{Meta: m}
}

// unlike tells of bytes and those they should be how many they are, and where they part.
func unlike(b, want []byte) string {
	i := 0
	for i < len(b) && i < len(want) && b[i] == want[i] {
		i++
	}
	return fmt.Sprintf("%d bytes, want %d: from %d on %q, want %q", len(b), len(want), i, b[i:min(i+40, len(b))], want[i:min(i+40, len(want))])
}

// holds holds One of a member against its blocks, and Write of it, alone and beside others.
func holds(t *testing.T, name string, m api.Member, want []byte) {
	t.Helper()
	b, e := One(m)
	if !bytes.Equal(b, want) || e != api.OK {
		t.Errorf("%s: One = %d, %s", name, e, unlike(b, want))
	}
	writes(t, name, sample.Archived(want), m)
	writes(t, name+", beside others", sample.Archived(file("b", sample.Some(5)), want, want, file("c", nil)), plain("b", sample.Some(5)), m, m, plain("c", nil))
}

func writes(t *testing.T, name string, want []byte, l ...api.Member) {
	t.Helper()
	b, e := Write(l)
	if !bytes.Equal(b, want) || e != api.OK {
		t.Errorf("%s: Write = %d, %s", name, e, unlike(b, want))
	}
}

// holdsNone holds One of a member against an error, and Write of it, alone and beside others.
func holdsNone(t *testing.T, name string, m api.Member, want api.Errno) {
	t.Helper()
	b, e := One(m)
	if len(b) != 0 || e != want {
		t.Errorf("%s: One = %d bytes, %d; want %d", name, len(b), e, want)
	}
	good := plain("b", sample.Some(5))
	writesNone(t, name, want, m)
	writesNone(t, name+", first", want, m, good)
	writesNone(t, name+", last", want, good, good, m)
}

func writesNone(t *testing.T, name string, want api.Errno, l ...api.Member) {
	t.Helper()
	b, e := Write(l)
	if len(b) != 0 || e != want {
		t.Errorf("%s: Write = %d bytes, %d; want %d", name, len(b), e, want)
	}
}

func TestExample(t *testing.T) {
	writes(t, "nothing", make([]byte, 1024))
}

func TestPlainFiles(t *testing.T) {
	holds(t, "no bytes", plain("a", nil), file("a", nil))
	holds(t, "bytes", plain("d/a", []byte("text")), file("d/a", []byte("text")))
	holds(t, "noughts", plain("a", make([]byte, 700)), file("a", make([]byte, 700)))
	inner, _ := Write([]api.Member{plain("b", sample.Some(600))})
	holds(t, "an archive within", plain("a", inner), file("a", inner))
}

// Bytes that make blocks have none behind them, others as many noughts as are lacking.
func TestPadding(t *testing.T) {
	for _, n := range []int{0, 1, 2, 255, 510, 511, 512, 513, 1023, 1024, 1025, 5000, 1 << 20} {
		data := sample.Some(n)
		holds(t, "a file", plain("a", data), file("a", data))
		b, _ := One(plain("a", data))
		if want := 512 + (n+511)/512*512; len(b) != want {
			t.Errorf("One of %d bytes has %d; want %d", n, len(b), want)
		}
	}
	for n := 500; n <= 530; n++ {
		value := strings.Repeat("v", n)
		payload := fmt.Sprintf("%d k=%s\n", n+7, value)
		m := changed(sample.Some(3), func(m *api.Meta) { m.Extra = sample.Recs("k", value) })
		holds(t, "records", m, slices.Concat(local(payload), file("a", sample.Some(3))))
	}
}

func TestEachKind(t *testing.T) {
	for c := range 256 {
		kind := byte(c)
		m := of(kind)
		if strings.IndexByte("0123456", kind) < 0 {
			holdsNone(t, "another kind", m, api.ErrKind)
			continue
		}
		texts := map[int]string{0: "a", 156: string(kind), 157: m.Meta.Link}
		holds(t, string(kind), m, laid(texts))
		m.Meta.Mode, m.Meta.Uid, m.Meta.Gid, m.Meta.User, m.Meta.Group, m.Meta.Mtime.S = 0o755, 8, 9, "u", "g", 64
		for place, text := range map[int]string{100: "0000755", 108: "0000010", 116: "0000011", 136: "00000000100", 265: "u", 297: "g"} {
			texts[place] = text
		}
		holds(t, "all of "+string(kind), m, laid(texts))
		if kind == api.Char || kind == api.Device {
			m.Meta.Major, m.Meta.Minor = 2097151, 10
			texts[329], texts[337] = "7777777", "0000012"
			holds(t, "a device, "+string(kind), m, laid(texts))
		}
	}
}

// What a header has no room for stands in records ahead of it, by their keys.
func TestRecords(t *testing.T) {
	data := sample.Some(600)
	size := fmt.Sprintf("%011o", len(data))
	m := changed(data, func(m *api.Meta) {
		m.Uid, m.Mtime, m.Extra = 3000000, api.Time{S: -2, N: 500000000}, sample.Recs("A", "1", "z", "2\n=")
	})
	payload := "6 A=1\n14 mtime=-1.5\n15 uid=3000000\n8 z=2\n=\n"
	holds(t, "of many", m, slices.Concat(local(payload), file("a", data)))

	name, user := strings.Repeat("n", 101), strings.Repeat("u", 33)
	m = changed(data, func(m *api.Meta) { m.Name, m.User = name, user })
	h := laid(map[int]string{0: name[:100], 124: size, 156: "0", 265: user[:32]})
	holds(t, "long texts", m, slices.Concat(local("111 path="+name+"\n43 uname="+user+"\n"), h, sample.Filled(data)))

	m = changed(data, func(m *api.Meta) {
		m.Holes, m.Real, m.Parts = true, 2000, sample.Parts(100, 1, 1000, 599)
	})
	payload = "33 GNU.sparse.map=100,1,1000,599\n24 GNU.sparse.size=2000\n"
	holds(t, "with holes", m, slices.Concat(local(payload), file("a", data)))
	m = changed(nil, func(m *api.Meta) { m.Holes, m.Real = true, 7 })
	holds(t, "nothing but a hole", m, slices.Concat(local("22 GNU.sparse.map=0,0\n21 GNU.sparse.size=7\n"), file("a", nil)))

	soft := of(api.Soft)
	soft.Meta.Link = strings.Repeat("l", 101)
	h = laid(map[int]string{0: "a", 156: "2", 157: soft.Meta.Link[:100]})
	holds(t, "a long link", soft, slices.Concat(local("115 linkpath="+soft.Meta.Link+"\n"), h))
}

// A header that has room for all of it needs no records, though it is full.
func TestNoRecords(t *testing.T) {
	prefix, rest := strings.Repeat("p", 155), strings.Repeat("n", 100)
	m := changed(nil, func(m *api.Meta) {
		m.Name, m.Mode, m.Uid, m.Gid, m.Mtime.S = prefix+"/"+rest, 2097151, 2097151, 2097151, 8589934591
		m.User, m.Group = strings.Repeat("u", 32), strings.Repeat("g", 32)
	})
	holds(t, "a full header", m, laid(map[int]string{
		0: rest, 100: "7777777", 108: "7777777", 116: "7777777", 136: "77777777777", 156: "0",
		265: m.Meta.User, 297: m.Meta.Group, 345: prefix,
	}))
}

// The most records, and the longest, there may be.
func TestMostRecords(t *testing.T) {
	var l []api.Rec
	var payload strings.Builder
	for i := range 1000 {
		l = append(l, api.Rec{Key: fmt.Sprintf("k%04d", i), Value: "v"})
		fmt.Fprintf(&payload, "11 k%04d=v\n", i)
	}
	holds(t, "1000", changed(nil, func(m *api.Meta) { m.Extra = l }), slices.Concat(local(payload.String()), file("a", nil)))
	holdsNone(t, "1000, and one that is known", changed(nil, func(m *api.Meta) { m.Extra, m.Uid = l, 3000000 }), api.ErrLong)
	more := append(slices.Clone(l), api.Rec{Key: "l", Value: "v"})
	holdsNone(t, "1001", changed(nil, func(m *api.Meta) { m.Extra = more }), api.ErrLong)

	value := strings.Repeat("v", 1<<20-len("1048576 k=\n"))
	holds(t, "2^20 bytes", changed(nil, func(m *api.Meta) { m.Extra = sample.Recs("k", value) }), slices.Concat(local("1048576 k="+value+"\n"), file("a", nil)))
	holdsNone(t, "2^20 bytes and one", changed(nil, func(m *api.Meta) { m.Extra = sample.Recs("k", value+"v") }), api.ErrLong)
}

func TestAnotherSize(t *testing.T) {
	data := sample.Some(2000)
	for _, n := range []int{0, 1, 511, 512, 513, 1024} {
		m := plain("a", data[:n])
		for _, count := range []int{0, 1, n - 1, n + 1, n + 511, n + 512, 2000} {
			if count >= 0 && count != n {
				m.Data = data[:count]
				holdsNone(t, fmt.Sprintf("%d bytes, not %d", count, n), m, api.ErrForm)
			}
		}
	}
	m := plain("a", nil)
	for _, n := range []int{1, 1 << 31, 1 << 33, api.MaxSize} {
		m.Meta.Size, m.Meta.Real = n, n
		holdsNone(t, "no bytes at all", m, api.ErrForm)
	}
	for _, kind := range []byte("123456") {
		m := of(kind)
		m.Data = []byte("x")
		holdsNone(t, "bytes of "+string(kind), m, api.ErrForm)
	}
	// Of a file with holes those bytes are meant that are stored.
	m = changed(data[:7], func(m *api.Meta) { m.Holes, m.Real, m.Parts = true, 12, sample.Parts(0, 5, 10, 2) })
	for _, n := range []int{0, 6, 8, 12} {
		m.Data = data[:n]
		holdsNone(t, "with holes", m, api.ErrForm)
	}
}

// wrongs are members that may not be, each with all bytes that it tells of, so that nothing but its error is wrong.
func wrongs() map[api.Errno][]api.Member {
	file := func(change func(m *api.Meta)) api.Member {
		return changed([]byte("x"), change)
	}
	return map[api.Errno][]api.Member{
		api.ErrKind: {
			file(func(m *api.Meta) { m.Kind = api.Dense }), file(func(m *api.Meta) { m.Kind = api.Sparse }),
			file(func(m *api.Meta) { m.Kind = api.Local }), file(func(m *api.Meta) { m.Kind = 0 }),
		},
		api.ErrText: {
			file(func(m *api.Meta) { m.Name = "" }), file(func(m *api.Meta) { m.Name = "a/" }), file(func(m *api.Meta) { m.Name = "a\x00" }),
			file(func(m *api.Meta) { m.Name = sample.Letters(4097) }), file(func(m *api.Meta) { m.Link = "l" }), file(func(m *api.Meta) { m.User = "\x00" }),
			{Meta: api.Meta{Name: "a", Kind: api.Soft}},
		},
		api.ErrField: {
			file(func(m *api.Meta) { m.Mode = -1 }), file(func(m *api.Meta) { m.Mode = 2097152 }), file(func(m *api.Meta) { m.Uid = -1 }),
			file(func(m *api.Meta) { m.Gid = api.MaxNum + 1 }), file(func(m *api.Meta) { m.Major = 1 }), file(func(m *api.Meta) { m.Mtime.N = -1 }),
			file(func(m *api.Meta) { m.Real = 2 }), file(func(m *api.Meta) { m.Parts = sample.Parts(0, 1) }), file(func(m *api.Meta) { m.Kind = api.Dir }),
		},
		api.ErrRecs: {
			file(func(m *api.Meta) { m.Extra = sample.Recs("", "v") }), file(func(m *api.Meta) { m.Extra = sample.Recs("k", "") }),
			file(func(m *api.Meta) { m.Extra = sample.Recs("path", "p") }), file(func(m *api.Meta) { m.Extra = sample.Recs("b", "1", "a", "2") }),
			file(func(m *api.Meta) { m.Holes, m.Parts = true, sample.Parts(0, 2) }), file(func(m *api.Meta) { m.Holes = true }),
		},
		api.ErrLong: {file(func(m *api.Meta) { m.Extra = sample.Recs("k", sample.Letters(1<<20)) })},
	}
}

// What meta says is told first, how many bytes there are behind it.
func TestWrongMembers(t *testing.T) {
	for want, l := range wrongs() {
		for _, m := range l {
			holdsNone(t, "wrong", m, want)
			m.Data = append(m.Data, 'x')
			holdsNone(t, "wrong, and too long", m, want)
			m.Data = nil
			holdsNone(t, "wrong, without bytes", m, want)
		}
	}
	for _, n := range []int{-1, math.MinInt, api.MaxSize + 1, math.MaxInt} {
		holdsNone(t, "a size that is none", changed(nil, func(m *api.Meta) { m.Size, m.Real = n, n }), api.ErrField)
	}
}

// Of several that are wrong the first one is told.
func TestFirstError(t *testing.T) {
	all := wrongs()
	short := plain("a", []byte("x"))
	short.Data = nil
	all[api.ErrForm] = []api.Member{short}
	good := plain("a", []byte("x"))
	for first, l := range all {
		for _, others := range all {
			writesNone(t, "two", first, l[0], others[0])
			writesNone(t, "two, others between", first, good, l[0], good, good, others[0], good)
		}
	}
}
