package meta

import (
	"math"
	"reflect"
	"slices"
	"strings"
	"testing"

	"mudlark/api"
)

func tos(t *testing.T, name string, m api.Meta, want api.Header, l []api.Rec) {
	t.Helper()
	h, got, e := To(m)
	if !reflect.DeepEqual(h, want) || !slices.Equal(got, l) || e != api.OK {
		t.Errorf("%s: To = %+v, %v, %d; want %+v, %v", name, h, got, e, want, l)
	}
}

func tosNone(t *testing.T, name string, m api.Meta, want api.Errno) {
	t.Helper()
	h, l, e := To(m)
	if !reflect.DeepEqual(h, api.Header{}) || len(l) != 0 || e != want {
		t.Errorf("%s: To = %+v, %v, %d; want %d", name, h, l, e, want)
	}
}

// changed is what is known of a kind, with something of it another.
func changed(kind byte, change func(*api.Meta)) api.Meta {
	m := known(kind, "a")
	change(&m)
	return m
}

func TestToEachKind(t *testing.T) {
	for c := range 256 {
		kind := byte(c)
		if strings.IndexByte("0123456", kind) < 0 {
			tosNone(t, "another kind", known(kind, "a"), api.ErrKind)
			continue
		}
		tos(t, string(kind), known(kind, "a"), named(kind, "a"), nil)
		m := api.Meta{
			Name: "d/n", Kind: kind, Mode: 0o755, Uid: 1, Gid: 2, User: "u", Group: "g", Mtime: api.Time{S: 3},
			Extra: recs("a", "1", "b", "2"),
		}
		h := api.Header{Name: "d/n", Mode: 0o755, Uid: 1, Gid: 2, Mtime: 3, Kind: kind, Way: api.Ustar, User: "u", Group: "g"}
		switch kind {
		case '0':
			m.Size, m.Real, h.Size = 9, 9, 9
		case '1', '2':
			m.Link, h.Link = "l", "l"
		case '3', '4':
			m.Major, m.Minor, h.Major, h.Minor = 5, 6, 5, 6
		}
		tos(t, "all of "+string(kind), m, h, recs("a", "1", "b", "2"))
	}
}

func TestToTexts(t *testing.T) {
	for _, kind := range []byte("0123456") {
		for _, s := range []string{"", "a\x00", "\x00", letters(4097), letters(5000)} {
			tosNone(t, "the Name of "+string(kind), changed(kind, func(m *api.Meta) { m.Name = s }), api.ErrText)
			tosNone(t, "the Link of "+string(kind), changed(kind, func(m *api.Meta) { m.Link = s + "\x00" }), api.ErrText)
			if s != "" {
				tosNone(t, "the User of "+string(kind), changed(kind, func(m *api.Meta) { m.User = s }), api.ErrText)
				tosNone(t, "the Group of "+string(kind), changed(kind, func(m *api.Meta) { m.Group = s }), api.ErrText)
			}
		}
		if kind == api.Hard || kind == api.Soft {
			tosNone(t, "no Link", changed(kind, func(m *api.Meta) { m.Link = "" }), api.ErrText)
			tosNone(t, "a Link too long", changed(kind, func(m *api.Meta) { m.Link = letters(4097) }), api.ErrText)
		} else {
			tosNone(t, "a Link of "+string(kind), changed(kind, func(m *api.Meta) { m.Link = "l" }), api.ErrText)
		}
		m := changed(kind, func(m *api.Meta) { m.Name = "a/" })
		if kind == api.File {
			tosNone(t, "a slash behind a File", m, api.ErrText)
		} else {
			tos(t, "a slash behind "+string(kind), m, named(kind, "a/"), nil)
		}
	}
}

// Where a text has no room its first bytes stand in the header.
func TestToLongTexts(t *testing.T) {
	for _, c := range []struct {
		wide int
		key  string
		of   func(*api.Meta) *string
		in   func(*api.Header) *string
	}{
		{100, "path", func(m *api.Meta) *string { return &m.Name }, func(h *api.Header) *string { return &h.Name }},
		{100, "linkpath", func(m *api.Meta) *string { return &m.Link }, func(h *api.Header) *string { return &h.Link }},
		{32, "uname", func(m *api.Meta) *string { return &m.User }, func(h *api.Header) *string { return &h.User }},
		{32, "gname", func(m *api.Meta) *string { return &m.Group }, func(h *api.Header) *string { return &h.Group }},
	} {
		for _, n := range []int{1, c.wide - 1, c.wide, c.wide + 1, 256, 4095, 4096} {
			for _, s := range []string{letters(n), strings.Repeat("é", n/2) + "."[:n%2], strings.Repeat("\xff\n=", n)[:n]} {
				m, h := known(api.Soft, "a"), named(api.Soft, "a")
				*c.of(&m) = s
				*c.in(&h) = s[:min(n, c.wide)]
				var l []api.Rec
				if n > c.wide {
					l = recs(c.key, s)
				}
				tos(t, c.key, m, h, l)
			}
		}
	}
	m := changed(api.Hard, func(m *api.Meta) { m.User, m.Group = "", "" })
	tos(t, "none", m, named(api.Hard, "a"), nil)
}

func TestToPrefix(t *testing.T) {
	for _, c := range []struct {
		name, prefix, rest string
	}{
		{"a/b", "", "a/b"},
		{"a/" + letters(98), "", "a/" + letters(98)},
		{"a/" + letters(99), "a", letters(99)},
		{letters(155) + "/" + letters(100), letters(155), letters(100)},
		{"/" + letters(100), "", ""},
		{letters(156) + "/" + letters(100), "", ""},
		{letters(155) + "/" + letters(101), "", ""},
	} {
		h := named(api.File, c.rest)
		h.Prefix = c.prefix
		var l []api.Rec
		if c.rest == "" {
			h.Name = c.name[:100]
			l = recs("path", c.name)
		}
		tos(t, c.name, known(api.File, c.name), h, l)
	}
}

func TestToNumbers(t *testing.T) {
	for _, kind := range []byte("0123456") {
		isDevice := kind == api.Char || kind == api.Device
		for _, n := range []int{-1, 1, 2097151, 2097152, 1 << 62, math.MinInt, math.MaxInt} {
			isRight := n == 1 || n == 2097151
			m, h := known(kind, "a"), named(kind, "a")
			if m.Mode, h.Mode = n, n; isRight {
				tos(t, "a Mode", m, h, nil)
			} else {
				tosNone(t, "a Mode", m, api.ErrField)
			}
			m, h = known(kind, "a"), named(kind, "a")
			if m.Major, h.Major = n, n; isRight && isDevice {
				tos(t, "a Major", m, h, nil)
			} else {
				tosNone(t, "a Major", m, api.ErrField)
			}
			m, h = known(kind, "a"), named(kind, "a")
			if m.Minor, h.Minor = n, n; isRight && isDevice {
				tos(t, "a Minor", m, h, nil)
			} else {
				tosNone(t, "a Minor", m, api.ErrField)
			}
		}
	}
}

func TestToIds(t *testing.T) {
	for _, c := range []struct {
		n    int
		text string
	}{
		{0, ""}, {1, ""}, {2097151, ""}, {2097152, "2097152"}, {3000000, "3000000"}, {1<<62 - 1, "4611686018427387903"}, {1 << 62, "4611686018427387904"},
	} {
		uid, gid := named(api.Fifo, "a"), named(api.Fifo, "a")
		var ofUid, ofGid []api.Rec
		if c.text == "" {
			uid.Uid, gid.Gid = c.n, c.n
		} else {
			ofUid, ofGid = recs("uid", c.text), recs("gid", c.text)
		}
		tos(t, "a Uid", changed(api.Fifo, func(m *api.Meta) { m.Uid = c.n }), uid, ofUid)
		tos(t, "a Gid", changed(api.Fifo, func(m *api.Meta) { m.Gid = c.n }), gid, ofGid)
	}
	for _, n := range []int{-1, 1<<62 + 1, math.MinInt, math.MaxInt} {
		tosNone(t, "a Uid", changed(api.Fifo, func(m *api.Meta) { m.Uid = n }), api.ErrField)
		tosNone(t, "a Gid", changed(api.Fifo, func(m *api.Meta) { m.Gid = n }), api.ErrField)
	}
}

func TestToTimes(t *testing.T) {
	const latest = 999999999999999
	for _, c := range []struct {
		t    api.Time
		text string
	}{
		{api.Time{}, ""},
		{api.Time{S: 1}, ""},
		{api.Time{S: 8589934591}, ""},
		{api.Time{S: 8589934592}, "8589934592"},
		{api.Time{S: latest}, "999999999999999"},
		{api.Time{S: -1}, "-1"},
		{api.Time{S: -latest}, "-999999999999999"},
		{api.Time{N: 1}, "0.000000001"},
		{api.Time{S: 1, N: 500000000}, "1.5"},
		{api.Time{S: -2, N: 500000000}, "-1.5"},
		{api.Time{S: latest, N: 999999999}, "999999999999999.999999999"},
		{api.Time{S: -latest, N: 1}, "-999999999999998.999999999"},
	} {
		h := named(api.Dir, "a")
		var l []api.Rec
		if c.text == "" {
			h.Mtime = c.t.S
		} else {
			l = recs("mtime", c.text)
		}
		tos(t, "the time "+c.text, changed(api.Dir, func(m *api.Meta) { m.Mtime = c.t }), h, l)
	}
	for _, wrong := range []api.Time{
		{N: -1}, {N: 1000000000}, {S: latest + 1}, {S: -latest - 1}, {S: math.MaxInt}, {S: math.MinInt}, {N: math.MinInt}, {N: math.MaxInt},
	} {
		tosNone(t, "a time that is not Norm", changed(api.Dir, func(m *api.Meta) { m.Mtime = wrong }), api.ErrField)
	}
}

func TestToSizes(t *testing.T) {
	for _, c := range []struct {
		n    int
		text string
	}{{0, ""}, {1, ""}, {8589934591, ""}, {8589934592, "8589934592"}, {1 << 40, "1099511627776"}} {
		h := named(api.File, "a")
		var l []api.Rec
		if c.text == "" {
			h.Size = c.n
		} else {
			l = recs("size", c.text)
		}
		tos(t, "a Size", changed(api.File, func(m *api.Meta) { m.Size, m.Real = c.n, c.n }), h, l)
	}
	for _, n := range []int{-1, 1<<40 + 1, math.MinInt, math.MaxInt} {
		tosNone(t, "a Size", changed(api.File, func(m *api.Meta) { m.Size, m.Real = n, n }), api.ErrField)
		tosNone(t, "a Size with holes", changed(api.File, func(m *api.Meta) { m.Size, m.Real, m.Holes = n, n, true }), api.ErrField)
	}
	for _, kind := range []byte("123456") {
		tosNone(t, "a Size of "+string(kind), changed(kind, func(m *api.Meta) { m.Size, m.Real = 1, 1 }), api.ErrField)
	}
	for _, kind := range []byte("0123456") {
		tosNone(t, "another Real", changed(kind, func(m *api.Meta) { m.Real = 1 }), api.ErrField)
		tosNone(t, "no Real", changed(kind, func(m *api.Meta) { m.Size = 1 }), api.ErrField)
		tosNone(t, "parts without holes", changed(kind, func(m *api.Meta) { m.Parts = parts(0, 0) }), api.ErrField)
	}
	tosNone(t, "parts without holes", changed(api.File, func(m *api.Meta) { m.Size, m.Real, m.Parts = 5, 5, parts(0, 5) }), api.ErrField)
}

func TestToHoles(t *testing.T) {
	for _, c := range []struct {
		m            api.Meta
		layout, real string
	}{
		{holes(7, 12, parts(0, 5, 10, 2)), "0,5,10,2", "12"},
		{holes(7, 7, parts(0, 7)), "0,7", "7"},
		{holes(0, 12, nil), "0,0", "12"},
		{holes(0, 0, nil), "0,0", "0"},
		{holes(1, 1<<40, parts(1<<40-1, 1)), "1099511627775,1", "1099511627776"},
	} {
		h := named(api.File, "a")
		h.Size = c.m.Size
		tos(t, c.layout, c.m, h, recs("GNU.sparse.map", c.layout, "GNU.sparse.size", c.real))
	}
	h := named(api.File, "a")
	tos(t, "a Size that has no room", holes(8589934592, 8589934593, parts(1, 8589934592)), h,
		recs("GNU.sparse.map", "1,8589934592", "GNU.sparse.size", "8589934593", "size", "8589934592"))
	for _, m := range []api.Meta{
		holes(7, 12, parts(0, 6)), holes(7, 12, parts(0, 8)), holes(7, 6, parts(0, 7)), holes(7, 12, parts(0, 7, 6, 0)),
		holes(7, 12, parts(0, 7, 7, 0)), holes(0, 12, parts(0, 0)), holes(0, 12, parts(12, 0)), holes(7, 12, parts(10, 2, 0, 5)),
		holes(7, 12, parts(0, 8, 8, -1)), holes(7, 12, parts(-1, 7)), holes(0, -1, nil), holes(0, 1<<40+1, nil), holes(7, 12, nil),
	} {
		tosNone(t, "holes", m, api.ErrRecs)
	}
	for _, kind := range []byte("123456") {
		tosNone(t, "holes of "+string(kind), changed(kind, func(m *api.Meta) { m.Holes = true }), api.ErrRecs)
		tosNone(t, "holes with a Real of "+string(kind), changed(kind, func(m *api.Meta) { m.Holes, m.Real = true, 5 }), api.ErrRecs)
	}
	var l []api.Part
	for i := range 1001 {
		l = append(l, api.Part{At: 2 * i, Len: 1})
	}
	if _, got, e := To(holes(1000, 5000, l[:1000])); len(got) != 2 || e != api.OK {
		t.Errorf("1000 parts: %d records, %d", len(got), e)
	}
	tosNone(t, "1001 parts", holes(1001, 5000, l), api.ErrRecs)
}

func TestToExtra(t *testing.T) {
	with := func(l []api.Rec) api.Meta {
		return changed(api.Dir, func(m *api.Meta) { m.Extra = l })
	}
	for _, l := range [][]api.Rec{nil, {}, recs("k", "v"), recs("!", "\n", "A", " ", "a", "=", "b", "\xff", "~", "v"), recs("Path", "p", "pat", "q", "paths", "r")} {
		tos(t, "extra records", with(l), named(api.Dir, "a"), l)
	}
	for _, key := range []string{"path", "linkpath", "uname", "gname", "uid", "gid", "size", "mtime", "GNU.sparse.map", "GNU.sparse.size"} {
		tosNone(t, key, with(recs(key, "1")), api.ErrRecs)
		tosNone(t, key, with(recs("A", "1", key, "1", "z", "1")), api.ErrRecs)
	}
	for _, l := range [][]api.Rec{
		recs("k", ""), recs("a", "1", "b", ""), recs("", "v"), recs("a b", "v"), recs("a=", "v"), recs("\x7f", "v"), recs("k", "\x00"),
		recs("b", "1", "a", "2"), recs("a", "1", "a", "1"), recs("a", "1", "a", "2"), recs("a", "1", "c", "2", "b", "3"), recs("a", "1", "B", "2"),
	} {
		tosNone(t, "extra records", with(l), api.ErrRecs)
	}
}

// Records that are extra stand among the others, by their keys.
func TestToAll(t *testing.T) {
	m := api.Meta{
		Name: letters(300), Kind: api.File, Mode: 1, Uid: 1 << 40, Gid: 1 << 41, User: letters(40), Group: letters(41),
		Mtime: api.Time{S: 5, N: 5}, Size: 1 << 39, Real: 1 << 40, Holes: true, Parts: parts(0, 1<<39),
		Extra: recs("A", "1", "GNU.sparse.n", "2", "h", "3", "paths", "4", "zz", "5"),
	}
	h := api.Header{Name: letters(100), Mode: 1, Kind: api.File, Way: api.Ustar, User: letters(32), Group: letters(32)}
	tos(t, "all", m, h, recs(
		"A", "1", "GNU.sparse.map", "0,549755813888", "GNU.sparse.n", "2", "GNU.sparse.size", "1099511627776", "gid", "2199023255552",
		"gname", letters(41), "h", "3", "mtime", "5.000000005", "path", letters(300), "paths", "4", "size", "549755813888",
		"uid", "1099511627776", "uname", letters(40), "zz", "5"))
	m = changed(api.Hard, func(m *api.Meta) { m.Link, m.Extra = letters(101), recs("link", "1", "linkpathe", "2") })
	h = named(api.Hard, "a")
	h.Link = letters(100)
	tos(t, "a link", m, h, recs("link", "1", "linkpath", letters(101), "linkpathe", "2"))
}

func TestToOfTooMuch(t *testing.T) {
	tos(t, "1000 records", changed(api.Dir, func(m *api.Meta) { m.Extra = numbered(1000) }), named(api.Dir, "a"), numbered(1000))
	tosNone(t, "1001 records", changed(api.Dir, func(m *api.Meta) { m.Extra = numbered(1001) }), api.ErrLong)
	tosNone(t, "one more", changed(api.Dir, func(m *api.Meta) { m.Extra, m.Uid = numbered(1000), 3000000 }), api.ErrLong)
	tosNone(t, "two more", changed(api.File, func(m *api.Meta) { m.Extra, m.Holes = numbered(999), true }), api.ErrLong)

	// A line of 2^20 bytes: its number, a blank, the key, `=`, and a line feed.
	most := 1<<20 - len("1048576 k=\n")
	l := recs("k", letters(most))
	tos(t, "2^20 bytes", changed(api.Dir, func(m *api.Meta) { m.Extra = l }), named(api.Dir, "a"), l)
	tosNone(t, "a byte more", changed(api.Dir, func(m *api.Meta) { m.Extra = recs("k", letters(most+1)) }), api.ErrLong)
	tosNone(t, "a record more", changed(api.Dir, func(m *api.Meta) { m.Extra, m.Mtime.S = l, -1 }), api.ErrLong)
}

// Of several errors the one that is named first is told.
func TestToErrors(t *testing.T) {
	wrongs := []struct {
		e    api.Errno
		lays func(*api.Meta)
	}{
		{api.ErrKind, func(m *api.Meta) { m.Kind = api.Dense }},
		{api.ErrText, func(m *api.Meta) { m.User = "\x00" }},
		{api.ErrField, func(m *api.Meta) { m.Mode = -1 }},
		{api.ErrRecs, func(m *api.Meta) { m.Extra = append(recs("~", ""), m.Extra...) }},
		{api.ErrLong, func(m *api.Meta) { m.Extra = numbered(1001) }},
	}
	for i, first := range wrongs {
		for _, other := range wrongs[i:] {
			m := known(api.File, "a")
			other.lays(&m)
			first.lays(&m)
			tosNone(t, "two errors", m, first.e)
		}
	}
}

func TestSplit(t *testing.T) {
	for _, c := range []struct {
		name, ahead, behind string
		ok                  bool
	}{
		{"", "", "", true},
		{"a", "", "a", true},
		{"a/b", "", "a/b", true},
		{"/", "", "/", true},
		{letters(100), "", letters(100), true},
		{letters(50) + "/" + letters(49), "", letters(50) + "/" + letters(49), true},
		{letters(101), "", letters(100), false},
		{letters(5000), "", letters(100), false},
		{"a/" + letters(99), "a", letters(99), true},
		{"a/" + letters(100), "a", letters(100), true},
		{"a/" + letters(101), "", "a/" + letters(98), false},
		{"/" + letters(100), "", "/" + letters(99), false},
		{"//" + letters(100), "/", letters(100), true},
		{"//" + letters(99), "/", letters(99), true},
		{letters(100) + "/", "", letters(100), false},
		{letters(99) + "/b", letters(99), "b", true},
		{letters(100) + "/b", letters(100), "b", true},
		{letters(155) + "/b", letters(155), "b", true},
		{letters(156) + "/b", "", letters(100), false},
		{letters(155) + "/" + letters(100), letters(155), letters(100), true},
		{letters(154) + "/" + letters(101), "", letters(100), false},
		{letters(155) + "/" + letters(101), "", letters(100), false},
		{letters(156) + "/" + letters(100), "", letters(100), false},
		{letters(155) + "//", letters(155), "/", true},
		{letters(155) + "/" + letters(99) + "/", letters(155), letters(99) + "/", true},

		// The first slash of several that may be.
		{"a/b/" + letters(97), "a", "b/" + letters(97), true},
		{"a/b/" + letters(98), "a", "b/" + letters(98), true},
		{"a/b/" + letters(99), "a/b", letters(99), true},
		{letters(90) + "/" + letters(50) + "/" + letters(10), letters(90), letters(50) + "/" + letters(10), true},
		{letters(90) + "/" + letters(50) + "/" + letters(60), letters(90) + "/" + letters(50), letters(60), true},
		{letters(90) + "/" + letters(64) + "/" + letters(100), letters(90) + "/" + letters(64), letters(100), true},
		{letters(90) + "/" + letters(65) + "/" + letters(100), "", letters(90) + "/" + letters(9), false},
		{strings.Repeat("/", 101), "/", strings.Repeat("/", 99), true},
		{strings.Repeat("/", 256), strings.Repeat("/", 155), strings.Repeat("/", 100), true},
		{strings.Repeat("/", 257), "", strings.Repeat("/", 100), false},
		{"/" + letters(99) + "/", "", "/" + letters(99), false},
	} {
		if ahead, behind, ok := Split(c.name); ahead != c.ahead || behind != c.behind || ok != c.ok {
			t.Errorf("Split of %d bytes, %q = %q, %q, %v; want %q, %q, %v", len(c.name), c.name, ahead, behind, ok, c.ahead, c.behind, c.ok)
		}
	}
}

// all is what is known of nothing that may be, with something in each field.
func all() api.Meta {
	return api.Meta{
		Name: "n", Link: "l", Kind: api.File, Mode: 1, Uid: 2, Gid: 3, User: "u", Group: "g", Mtime: api.Time{S: 4, N: 5},
		Major: 6, Minor: 7, Size: 8, Real: 9, Holes: true, Parts: parts(1, 2, 3, 4), Extra: recs("k", "v", "l", "w"),
	}
}

func TestSame(t *testing.T) {
	if !Same(all(), all()) || !Same(api.Meta{}, api.Meta{}) {
		t.Error("the same is not")
	}
	if Same(all(), api.Meta{}) || Same(api.Meta{}, all()) {
		t.Error("all is nothing")
	}
	for i, change := range []func(*api.Meta){
		func(m *api.Meta) { m.Name = "N" },
		func(m *api.Meta) { m.Link = "" },
		func(m *api.Meta) { m.Kind = api.Dense },
		func(m *api.Meta) { m.Mode++ },
		func(m *api.Meta) { m.Uid++ },
		func(m *api.Meta) { m.Gid++ },
		func(m *api.Meta) { m.User = "g" },
		func(m *api.Meta) { m.Group = "u" },
		func(m *api.Meta) { m.Mtime.S++ },
		func(m *api.Meta) { m.Mtime.N++ },
		func(m *api.Meta) { m.Major++ },
		func(m *api.Meta) { m.Minor++ },
		func(m *api.Meta) { m.Size++ },
		func(m *api.Meta) { m.Real++ },
		func(m *api.Meta) { m.Holes = false },
		func(m *api.Meta) { m.Parts[1].At++ },
		func(m *api.Meta) { m.Parts[1].Len++ },
		func(m *api.Meta) { m.Parts = m.Parts[:1] },
		func(m *api.Meta) { m.Parts = nil },
		func(m *api.Meta) { m.Parts = append(m.Parts, api.Part{}) },
		func(m *api.Meta) { m.Extra[1].Key = "k" },
		func(m *api.Meta) { m.Extra[0].Value = "w" },
		func(m *api.Meta) { m.Extra = m.Extra[:1] },
		func(m *api.Meta) { m.Extra = nil },
		func(m *api.Meta) { m.Extra = append(m.Extra, api.Rec{}) },
		func(m *api.Meta) { slices.Reverse(m.Extra) },
		func(m *api.Meta) { slices.Reverse(m.Parts) },
	} {
		m := all()
		change(&m)
		if Same(m, all()) || Same(all(), m) {
			t.Errorf("the change %d is not told", i)
		}
		if !Same(m, m) {
			t.Errorf("after the change %d it is not the same as itself", i)
		}
	}
	// None is left out, should there be more one day.
	if n := reflect.TypeFor[api.Meta]().NumField(); n != 16 {
		t.Errorf("there are %d fields", n)
	}
}
