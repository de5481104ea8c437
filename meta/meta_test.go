package meta

import (
	"math"
	"reflect"
	"slices"
	"strconv"
	"strings"
	"testing"

	"mudlark/api"
)

// given is what From is asked of.
type given struct {
	h            api.Header
	recs         []api.Rec
	names, links []string
	more         []api.Part
}

// recs are records of keys, each with its value behind it.
func recs(texts ...string) []api.Rec {
	var l []api.Rec
	for pair := range slices.Chunk(texts, 2) {
		l = append(l, api.Rec{Key: pair[0], Value: pair[1]})
	}
	return l
}

// parts are those of numbers, each At with the Len behind it.
func parts(numbers ...int) []api.Part {
	var l []api.Part
	for pair := range slices.Chunk(numbers, 2) {
		l = append(l, api.Part{At: pair[0], Len: pair[1]})
	}
	return l
}

// letters are so many of a text's.
func letters(n int) string {
	return strings.Repeat("n", n)
}

// named is a header of a kind with a name, and what else it may not lack.
func named(kind byte, name string) api.Header {
	h := api.Header{Name: name, Kind: kind, Way: api.Ustar}
	if kind == api.Hard || kind == api.Soft {
		h.Link = "to"
	}
	return h
}

// known is what From tells of named, if the kind stays.
func known(kind byte, name string) api.Meta {
	m := api.Meta{Name: name, Kind: kind}
	if kind == api.Hard || kind == api.Soft {
		m.Link = "to"
	}
	return m
}

// full is a header that has something in each field.
func full(kind byte) api.Header {
	return api.Header{
		Name: "name", Mode: 0o644, Uid: 1000, Gid: 100, Size: 10, Mtime: 7, Kind: kind, Link: "link", Way: api.Gnu,
		User: "user", Group: "group", Major: 3, Minor: 4, Prefix: "prefix",
		Parts: parts(0, 4, 8, 6), More: true, Real: 20,
	}
}

// fullKnown is what From tells of full, without a link, numbers and a size.
func fullKnown(kind byte) api.Meta {
	return api.Meta{
		Name: "prefix/name", Kind: kind, Mode: 0o644, Uid: 1000, Gid: 100, User: "user", Group: "group", Mtime: api.Time{S: 7},
	}
}

// plain has no lists that are empty: they are the same thing as nil.
func plain(m api.Meta) api.Meta {
	if len(m.Parts) == 0 {
		m.Parts = nil
	}
	if len(m.Extra) == 0 {
		m.Extra = nil
	}
	return m
}

func froms(t *testing.T, name string, c given, want api.Meta) {
	t.Helper()
	m, e := From(c.h, c.recs, c.names, c.links, c.more)
	if !reflect.DeepEqual(plain(m), plain(want)) || e != api.OK {
		t.Errorf("%s: From = %+v, %d; want %+v", name, m, e, want)
	}
}

func refuses(t *testing.T, name string, c given, want api.Errno) {
	t.Helper()
	m, e := From(c.h, c.recs, c.names, c.links, c.more)
	if !reflect.DeepEqual(plain(m), api.Meta{}) || e != want {
		t.Errorf("%s: From = %+v, %d; want %d", name, m, e, want)
	}
}

func TestExample(t *testing.T) {
	h, l, e := To(api.Meta{Name: "a", Kind: api.File, Uid: 3000000})
	if want := named(api.File, "a"); !reflect.DeepEqual(h, want) || !slices.Equal(l, recs("uid", "3000000")) || e != api.OK {
		t.Errorf("To = %+v, %v, %d; want %+v, a record uid", h, l, e, want)
	}
}

// What each kind has of a header that has all.
func TestFromEachKind(t *testing.T) {
	link := func(kind byte) api.Meta {
		m := fullKnown(kind)
		m.Link = "link"
		return m
	}
	device := func(kind byte) api.Meta {
		m := fullKnown(kind)
		m.Major, m.Minor = 3, 4
		return m
	}
	file := fullKnown(api.File)
	file.Size, file.Real = 10, 10
	holed := fullKnown(api.File)
	holed.Size, holed.Real, holed.Holes, holed.Parts = 10, 20, true, parts(0, 4, 8, 6)
	for kind, want := range map[byte]api.Meta{
		'0': file, '7': file, 'S': holed,
		'1': link('1'), '2': link('2'), '3': device('3'), '4': device('4'), '5': fullKnown('5'), '6': fullKnown('6'),
	} {
		froms(t, string(kind), given{h: full(kind)}, want)
	}
}

func TestFromOtherKinds(t *testing.T) {
	for c := range 256 {
		kind := byte(c)
		if strings.IndexByte("01234567S", kind) >= 0 {
			continue
		}
		refuses(t, "kind "+strconv.Itoa(c), given{h: full(kind)}, api.ErrKind)
		refuses(t, "kind alone "+strconv.Itoa(c), given{h: api.Header{Kind: kind}, recs: recs("uid", "x")}, api.ErrKind)
	}
}

// A name that ends with a slash is a directory's.
func TestFromDirectories(t *testing.T) {
	for _, c := range []struct {
		name  string
		given given
		want  api.Meta
	}{
		{"File", given{h: named(api.File, "a/")}, known(api.Dir, "a/")},
		{"Dense", given{h: named(api.Dense, "a/")}, known(api.Dir, "a/")},
		{"Dir", given{h: named(api.Dir, "a/")}, known(api.Dir, "a/")},
		{"Dir without a slash", given{h: named(api.Dir, "a")}, known(api.Dir, "a")},
		{"Hard", given{h: named(api.Hard, "a/")}, known(api.Hard, "a/")},
		{"Soft", given{h: named(api.Soft, "a/")}, known(api.Soft, "a/")},
		{"Char", given{h: named(api.Char, "a/")}, known(api.Char, "a/")},
		{"Fifo", given{h: named(api.Fifo, "a/")}, known(api.Fifo, "a/")},
		{"a slash between", given{h: named(api.File, "a/b")}, known(api.File, "a/b")},
		{"nothing but a slash", given{h: named(api.File, "/")}, known(api.Dir, "/")},
		{"a long name", given{h: named(api.File, "a"), names: []string{"b/"}}, known(api.Dir, "b/")},
		{"a long name without a slash", given{h: named(api.File, "a/"), names: []string{"b"}}, known(api.File, "b")},
		{"a record", given{h: named(api.File, "a"), recs: recs("path", "b/")}, known(api.Dir, "b/")},
		{"a record without a slash", given{h: named(api.File, "a/"), recs: recs("path", "b")}, known(api.File, "b")},
		{"a Prefix, and no Name", given{h: api.Header{Kind: api.File, Prefix: "p"}}, known(api.Dir, "p/")},
	} {
		froms(t, c.name, c.given, c.want)
	}
	for _, kind := range []byte{api.File, api.Dense, api.Sparse} {
		h := full(kind)
		h.Name = "d/"
		want := fullKnown(api.Dir)
		want.Name = "prefix/d/"
		froms(t, "with a size, of "+string(kind), given{h: h, more: parts(30, 1)}, want)
		froms(t, "with records, of "+string(kind), given{h: h, recs: recs("size", "7", "GNU.sparse.map", "0,7", "GNU.sparse.size", "9")}, want)
	}
}

func TestFromNames(t *testing.T) {
	with := func(prefix, name string) api.Header {
		h := named(api.File, name)
		h.Prefix = prefix
		return h
	}
	for _, c := range []struct {
		name  string
		h     api.Header
		recs  []api.Rec
		names []string
		want  string
	}{
		{"Name alone", with("", "a"), nil, nil, "a"},
		{"Prefix", with("p", "a"), nil, nil, "p/a"},
		{"Prefix with a slash", with("p/", "a"), nil, nil, "p//a"},
		{"Name with a slash ahead", with("p", "/a"), nil, nil, "p//a"},
		{"Name not clean", with("", "./a/../b"), nil, nil, "./a/../b"},
		{"a long name", with("p", "a"), nil, []string{"b"}, "b"},
		{"the last long name", with("p", "a"), nil, []string{"b", "c"}, "c"},
		{"a record", with("p", "a"), recs("path", "r"), nil, "r"},
		{"a record, and a long name", with("p", "a"), recs("path", "r"), []string{"b"}, "r"},
		{"the last record", with("p", "a"), recs("path", "q", "path", "r"), nil, "r"},
		{"a record that is none", with("p", "a"), recs("path", ""), nil, "p/a"},
		{"a record that is none any more", with("p", "a"), recs("path", "q", "path", ""), []string{"b"}, "b"},
		{"a record in place of nothing", with("", ""), recs("path", "r"), nil, "r"},
		{"a record in place of a long name of no byte", with("", "a"), recs("path", "r"), []string{""}, "r"},
		{"another record", with("", "a"), recs("linkpath", "r"), []string{}, "a"},
		{"as long as may be", with("", "a"), nil, []string{letters(4096)}, letters(4096)},
	} {
		froms(t, c.name, given{h: c.h, recs: c.recs, names: c.names, links: []string{"l"}}, known(api.File, c.want))
	}
	for _, c := range []struct {
		name  string
		given given
	}{
		{"no byte", given{h: with("", "")}},
		{"a long name of no byte", given{h: with("p", "a"), names: []string{"b", ""}}},
		{"too long", given{h: with("", "a"), names: []string{letters(4097)}}},
		{"a record too long", given{h: with("", "a"), recs: recs("path", letters(4097))}},
		{"a nought", given{h: with("", "a\x00")}},
		{"a nought in a record", given{h: with("", "a"), recs: recs("path", "a\x00")}},
	} {
		refuses(t, c.name, c.given, api.ErrText)
	}
}

func TestFromLinks(t *testing.T) {
	for _, kind := range []byte("01234567S") {
		isLink := kind == api.Hard || kind == api.Soft
		for _, c := range []struct {
			name, link string
			recs       []api.Rec
			links      []string
			want       string
		}{
			{"Link", "l", nil, nil, "l"},
			{"a long one", "l", nil, []string{"k"}, "k"},
			{"the last long one", "l", nil, []string{"j", "k"}, "k"},
			{"a record", "l", recs("linkpath", "r"), nil, "r"},
			{"a record, and a long one", "l", recs("linkpath", "r"), []string{"k"}, "r"},
			{"a record that is none", "l", recs("linkpath", ""), []string{}, "l"},
			{"a slash behind", "l/", nil, nil, "l/"},
			{"as long as may be", "", nil, []string{letters(4096)}, letters(4096)},
			{"no byte", "", nil, nil, ""},
			{"a long one of no byte", "l", nil, []string{""}, ""},
			{"too long", "", nil, []string{letters(4097)}, ""},
			{"a nought", "l\x00", nil, nil, ""},
			{"a record with a nought", "l", recs("linkpath", "\x00"), nil, ""},
		} {
			h := named(kind, "a")
			h.Link = c.link
			what := given{h: h, recs: c.recs, names: []string{"b"}, links: c.links}
			if isLink && c.want == "" {
				refuses(t, c.name+" of "+string(kind), what, api.ErrText)
				continue
			}
			want := known(kind, "b")
			switch {
			case isLink:
				want.Link = c.want
			case kind == api.Dense:
				want.Kind = api.File
			case kind == api.Sparse:
				want.Kind, want.Holes = api.File, true
			}
			froms(t, c.name+" of "+string(kind), what, want)
		}
	}
}

func TestFromOwners(t *testing.T) {
	h := named(api.Fifo, "a")
	h.User, h.Group = "u", "g"
	for _, c := range []struct {
		recs        []api.Rec
		user, group string
	}{
		{nil, "u", "g"},
		{recs("uname", "U"), "U", "g"},
		{recs("gname", "G"), "u", "G"},
		{recs("gname", "G", "uname", "U"), "U", "G"},
		{recs("gname", "", "uname", ""), "u", "g"},
		{recs("uname", letters(4096)), letters(4096), "g"},
		{recs("gname", "\xff /"), "u", "\xff /"},
	} {
		want := known(api.Fifo, "a")
		want.User, want.Group = c.user, c.group
		froms(t, "owners", given{h: h, recs: c.recs, names: []string{"a"}, links: []string{"l"}}, want)
	}
	for _, l := range [][]api.Rec{recs("uname", letters(4097)), recs("gname", letters(4097)), recs("uname", "a\x00"), recs("gname", "\x00")} {
		refuses(t, "owners", given{h: h, recs: l}, api.ErrText)
	}
}

// decimals are texts, and what they tell; -1: they are none.
func decimals(most int) map[string]int {
	m := map[string]int{
		"0": 0, "1": 1, "7": 7, "10": 10, "1234567890": 1234567890, "1000000000000": 1000000000000,
		strconv.Itoa(most): most, strconv.Itoa(most - 1): most - 1, strconv.Itoa(most + 1): -1, strconv.Itoa(math.MaxInt): -1,
	}
	for _, s := range []string{
		"00", "01", "-0", "-1", "+1", "+0", " 1", "1 ", "1\n", "1.0", "1e3", "0x1", "1_000", "x", "1x", "\x001", "1\x00", "-", "٣",
		"9223372036854775808", "9999999999999999999", "10000000000000000000", "18446744073709551617", "00000000000000000001",
		"-9223372036854775808", "100000000000000000000000000000000000001", strings.Repeat("1", 5000), strings.Repeat("0", 5000),
	} {
		m[s] = -1
	}
	return m
}

func TestFromIds(t *testing.T) {
	h := named(api.Dir, "a")
	h.Uid, h.Gid = 5, 6
	for s, n := range decimals(1 << 62) {
		uid, gid := given{h: h, recs: recs("uid", s)}, given{h: h, recs: recs("gid", s)}
		if n < 0 {
			refuses(t, "uid "+s, uid, api.ErrRecs)
			refuses(t, "gid "+s, gid, api.ErrRecs)
			continue
		}
		want := known(api.Dir, "a")
		want.Uid, want.Gid = n, 6
		froms(t, "uid "+s, uid, want)
		want.Uid, want.Gid = 5, n
		froms(t, "gid "+s, gid, want)
	}
	for _, n := range []int{0, 1, 2097151, 2097152, 1 << 62} {
		h.Uid, h.Gid = n, n
		want := known(api.Dir, "a")
		want.Uid, want.Gid = n, n
		froms(t, "of the header", given{h: h, recs: recs("uid", "", "gid", "")}, want)
	}
	for _, n := range []int{-1, 1<<62 + 1, math.MinInt, math.MaxInt} {
		h.Uid, h.Gid = n, 0
		refuses(t, "Uid", given{h: h}, api.ErrField)
		froms(t, "a record in place of Uid", given{h: h, recs: recs("uid", "0")}, known(api.Dir, "a"))
		h.Uid, h.Gid = 0, n
		refuses(t, "Gid", given{h: h}, api.ErrField)
		froms(t, "a record in place of Gid", given{h: h, recs: recs("gid", "0")}, known(api.Dir, "a"))
	}
}

func TestFromTimes(t *testing.T) {
	const latest = 999999999999999
	for _, c := range []struct {
		n    int
		recs []api.Rec
		want api.Time
	}{
		{0, nil, api.Time{}},
		{7, nil, api.Time{S: 7}},
		{-7, nil, api.Time{S: -7}},
		{latest, nil, api.Time{S: latest}},
		{latest + 1, nil, api.Time{S: latest}},
		{-latest, nil, api.Time{S: -latest}},
		{-latest - 1, nil, api.Time{S: -latest}},
		{math.MaxInt, nil, api.Time{S: latest}},
		{math.MinInt, nil, api.Time{S: -latest}},
		{7, recs("mtime", ""), api.Time{S: 7}},
		{7, recs("mtime", "0"), api.Time{}},
		{7, recs("mtime", "9"), api.Time{S: 9}},
		{7, recs("mtime", "009.50"), api.Time{S: 9, N: 500000000}},
		{7, recs("mtime", "-1.5"), api.Time{S: -2, N: 500000000}},
		{7, recs("mtime", "1", "mtime", "0.0000000019"), api.Time{N: 1}},
		{7, recs("mtime", "999999999999999.999999999999999999"), api.Time{S: latest, N: 999999999}},
		{7, recs("mtime", "-999999999999999"), api.Time{S: -latest}},
		// Below what is Norm.
		{7, recs("mtime", "-999999999999999.25"), api.Time{S: -latest, N: 750000000}},
	} {
		h := named(api.Dir, "a")
		h.Mtime = c.n
		want := known(api.Dir, "a")
		want.Mtime = c.want
		froms(t, "a time", given{h: h, recs: c.recs}, want)
	}
	for _, s := range []string{"x", "-", ".", "1.", ".5", "+1", " 1", "1 ", "1e9", "1.5x", "--1", "1000000000000000", "0.0000000000000000000", "\x00"} {
		refuses(t, "the time "+s, given{h: named(api.Dir, "a"), recs: recs("mtime", s)}, api.ErrRecs)
	}
}

func TestFromModesAndDevices(t *testing.T) {
	const most = 2097151
	for _, n := range []int{0, 1, 0o777, most} {
		for _, kind := range []byte("0134567") {
			h := named(kind, "a")
			h.Mode, h.Major, h.Minor = n, n/2, n
			want := known(kind, "a")
			want.Mode = n
			if kind == api.Dense {
				want.Kind = api.File
			}
			if kind == api.Char || kind == api.Device {
				want.Major, want.Minor = n/2, n
			}
			froms(t, "numbers of "+string(kind), given{h: h}, want)
		}
	}
	for _, n := range []int{-1, most + 1, 1 << 62, math.MinInt, math.MaxInt} {
		for _, kind := range []byte("01234567S") {
			h := named(kind, "a")
			h.Mode = n
			refuses(t, "the Mode of "+string(kind), given{h: h}, api.ErrField)
		}
		for _, kind := range []byte("34") {
			h := named(kind, "a")
			h.Major = n
			refuses(t, "the Major of "+string(kind), given{h: h}, api.ErrField)
			h.Major, h.Minor = 0, n
			refuses(t, "the Minor of "+string(kind), given{h: h}, api.ErrField)
		}
		h := named(api.Dir, "a")
		h.Major, h.Minor = n, n
		froms(t, "numbers that it has not", given{h: h}, known(api.Dir, "a"))
	}
}

func TestFromSizes(t *testing.T) {
	const most = 1 << 40
	file := func(n int) api.Meta {
		m := known(api.File, "a")
		m.Size, m.Real = n, n
		return m
	}
	for _, kind := range []byte("07") {
		h := named(kind, "a")
		for _, n := range []int{0, 1, 511, 8589934591, 8589934592, most} {
			h.Size = n
			froms(t, "the Size of "+string(kind), given{h: h, more: parts(0, 1)}, file(n))
		}
		for _, n := range []int{-1, most + 1, math.MinInt, math.MaxInt} {
			h.Size = n
			refuses(t, "the Size of "+string(kind), given{h: h}, api.ErrField)
			froms(t, "a record in place of the Size of "+string(kind), given{h: h, recs: recs("size", "3")}, file(3))
		}
		h.Size = 5
		for s, n := range decimals(most) {
			if n < 0 {
				refuses(t, "size "+s, given{h: h, recs: recs("size", s)}, api.ErrRecs)
			} else {
				froms(t, "size "+s, given{h: h, recs: recs("size", s)}, file(n))
			}
		}
		froms(t, "a record that is none", given{h: h, recs: recs("size", "3", "size", "")}, file(5))
	}
	for _, kind := range []byte("123456") {
		h := named(kind, "a")
		for _, n := range []int{-1, 0, 1, most + 1} {
			h.Size, h.Real = n, n
			froms(t, "the Size of "+string(kind), given{h: h}, known(kind, "a"))
			froms(t, "the record of "+string(kind), given{h: h, recs: recs("size", "1099511627776")}, known(kind, "a"))
			refuses(t, "a wrong record of "+string(kind), given{h: h, recs: recs("size", "x")}, api.ErrRecs)
		}
	}
}

// holes is a file's that stores so many bytes.
func holes(stored, real int, l []api.Part) api.Meta {
	m := known(api.File, "a")
	m.Size, m.Real, m.Holes, m.Parts = stored, real, true, l
	return m
}

func TestFromHolesOfRecords(t *testing.T) {
	for _, kind := range []byte("07S") {
		h := named(kind, "a")
		h.Size, h.Parts, h.More, h.Real = 7, parts(1, 7), true, 8
		others := parts(20, 1)
		for _, c := range []struct {
			layout, real string
			want         api.Meta
		}{
			{"0,5,10,2", "12", holes(7, 12, parts(0, 5, 10, 2))},
			{"0,5,10,2", "1099511627776", holes(7, 1<<40, parts(0, 5, 10, 2))},
			{"0,7", "7", holes(7, 7, parts(0, 7))},
			{"0,5,5,2", "7", holes(7, 7, parts(0, 5, 5, 2))},
			// Those of no bytes count for nothing, even where they would not be in order.
			{"0,0,0,5,5,0,9999999999999,0,10,2,12,0", "12", holes(7, 12, parts(0, 5, 10, 2))},
		} {
			l := recs("GNU.sparse.map", c.layout, "GNU.sparse.size", c.real)
			froms(t, c.layout, given{h: h, recs: l, more: others}, c.want)
		}
		for _, c := range []struct {
			name string
			recs []api.Rec
		}{
			{"a map alone", recs("GNU.sparse.map", "0,7")},
			{"a size alone", recs("GNU.sparse.size", "7")},
			{"a map, and a size that is none", recs("GNU.sparse.map", "0,7", "GNU.sparse.size", "")},
			{"a size, and a map that is none", recs("GNU.sparse.map", "", "GNU.sparse.size", "7")},
			{"a map that is no map", recs("GNU.sparse.map", "0,7,", "GNU.sparse.size", "7")},
			{"a map of half a part", recs("GNU.sparse.map", "0,7,8", "GNU.sparse.size", "9")},
			{"a map of too many", recs("GNU.sparse.map", strings.Repeat("0,0,", 1000)+"0,7", "GNU.sparse.size", "7")},
			{"parts not in order", recs("GNU.sparse.map", "5,2,0,5", "GNU.sparse.size", "7")},
			{"parts over one another", recs("GNU.sparse.map", "0,5,4,2", "GNU.sparse.size", "7")},
			{"parts of fewer bytes", recs("GNU.sparse.map", "0,6", "GNU.sparse.size", "7")},
			{"parts of more bytes", recs("GNU.sparse.map", "0,8", "GNU.sparse.size", "8")},
			{"parts beyond", recs("GNU.sparse.map", "0,7", "GNU.sparse.size", "6")},
		} {
			refuses(t, c.name+" of "+string(kind), given{h: h, recs: c.recs}, api.ErrRecs)
		}
		for s, n := range decimals(1 << 40) {
			l := recs("GNU.sparse.size", s, "GNU.sparse.map", "0,7")
			if n < 7 {
				refuses(t, "the size "+s, given{h: h, recs: l}, api.ErrRecs)
			} else {
				froms(t, "the size "+s, given{h: h, recs: l}, holes(7, n, parts(0, 7)))
			}
		}
		h.Size = 0
		froms(t, "nothing but a hole", given{h: h, recs: recs("GNU.sparse.map", "0,0", "GNU.sparse.size", "9")}, holes(0, 9, nil))
		froms(t, "nothing", given{h: h, recs: recs("GNU.sparse.map", "0,0", "GNU.sparse.size", "0")}, holes(0, 0, nil))
		froms(t, "the record size", given{h: h, recs: recs("GNU.sparse.map", "3,4", "GNU.sparse.size", "9", "size", "4")}, holes(4, 9, parts(3, 4)))
	}
	for _, kind := range []byte("123456") {
		for _, l := range [][]api.Rec{
			recs("GNU.sparse.map", "0,7"), recs("GNU.sparse.size", "x"), recs("GNU.sparse.map", "x", "GNU.sparse.size", "-1"),
			recs("GNU.sparse.map", "0,7", "GNU.sparse.size", "7"),
		} {
			froms(t, "records of "+string(kind), given{h: named(kind, "a"), recs: l}, known(kind, "a"))
		}
	}
}

func TestFromHolesOfHeaders(t *testing.T) {
	with := func(size, real int, l []api.Part) api.Header {
		h := named(api.Sparse, "a")
		h.Way, h.Size, h.Real, h.Parts = api.Gnu, size, real, l
		return h
	}
	many := func(n int) []api.Part {
		var l []api.Part
		for i := range n {
			l = append(l, api.Part{At: 2 * i, Len: 1})
		}
		return l
	}
	for _, c := range []struct {
		name  string
		given given
		want  api.Meta
	}{
		{"parts", given{h: with(7, 12, parts(0, 5, 10, 2))}, holes(7, 12, parts(0, 5, 10, 2))},
		{"more behind", given{h: with(7, 12, parts(0, 5)), more: parts(10, 2)}, holes(7, 12, parts(0, 5, 10, 2))},
		{"more alone", given{h: with(7, 12, nil), more: parts(0, 5, 10, 2)}, holes(7, 12, parts(0, 5, 10, 2))},
		{"of no bytes", given{h: with(7, 12, parts(0, 0, 0, 5, 9, 0)), more: parts(1, 0, 10, 2, 12, 0)}, holes(7, 12, parts(0, 5, 10, 2))},
		{"none", given{h: with(0, 12, nil)}, holes(0, 12, nil)},
		{"none but of no bytes", given{h: with(0, 12, parts(12, 0)), more: parts(99, 0)}, holes(0, 12, nil)},
		{"nothing", given{h: with(0, 0, nil)}, holes(0, 0, nil)},
		{"as large as may be", given{h: with(1<<40, 1<<40, parts(0, 1<<40))}, holes(1<<40, 1<<40, parts(0, 1<<40))},
		{"as many as may be", given{h: with(1000, 2000, many(4)), more: many(1000)[4:]}, holes(1000, 2000, many(1000))},
		{"the record size", given{h: with(3, 12, parts(0, 5)), recs: recs("size", "5")}, holes(5, 12, parts(0, 5))},
	} {
		froms(t, c.name, c.given, c.want)
	}
	for _, c := range []struct {
		name  string
		given given
		want  api.Errno
	}{
		{"fewer bytes", given{h: with(7, 12, parts(0, 6))}, api.ErrRecs},
		{"more bytes", given{h: with(7, 12, parts(0, 5)), more: parts(5, 3)}, api.ErrRecs},
		{"beyond", given{h: with(7, 6, parts(0, 7))}, api.ErrRecs},
		{"not in order", given{h: with(7, 12, parts(10, 2)), more: parts(0, 5)}, api.ErrRecs},
		{"below 0", given{h: with(7, 12, parts(-1, 7))}, api.ErrRecs},
		{"a Len below 0", given{h: with(7, 12, parts(0, 8, 8, -1))}, api.ErrRecs},
		{"a Real below 0", given{h: with(0, -1, nil)}, api.ErrRecs},
		{"a Real above all", given{h: with(0, 1<<40+1, nil)}, api.ErrRecs},
		{"too many", given{h: with(1001, 2002, nil), more: many(1001)}, api.ErrRecs},
		{"a Size below 0", given{h: with(-1, 12, nil)}, api.ErrField},
		{"a Size above all", given{h: with(1<<40+1, 1<<40+1, parts(0, 1<<40+1))}, api.ErrField},
	} {
		refuses(t, c.name, c.given, c.want)
	}
}

func TestFromExtra(t *testing.T) {
	all := recs(
		"comment", "c", "path", "p", "linkpath", "l", "uname", "u", "gname", "g", "uid", "1", "gid", "2", "size", "3",
		"mtime", "4.5", "GNU.sparse.map", "0,3", "GNU.sparse.size", "3", "atime", "x", "SALVAGE.partial", "9", "comment", "d",
		"Path", "P", "path.", "q", "GNU.sparse.major", "1", "none", "", "atime", "x",
	)
	want := api.Meta{
		Name: "p", Kind: api.File, Uid: 1, Gid: 2, User: "u", Group: "g", Mtime: api.Time{S: 4, N: 500000000},
		Size: 3, Real: 3, Holes: true, Parts: parts(0, 3),
		Extra: recs("GNU.sparse.major", "1", "Path", "P", "SALVAGE.partial", "9", "atime", "x", "comment", "d", "path.", "q"),
	}
	froms(t, "all", given{h: named(api.File, "a"), recs: all}, want)
	for _, kind := range []byte("123456") {
		want := known(kind, "a")
		want.Extra = recs("k", "v")
		froms(t, "of "+string(kind), given{h: named(kind, "a"), recs: recs("k", "v")}, want)
	}
	for _, l := range [][]api.Rec{recs("", "v"), recs("a b", "v"), recs("a=b", "v"), recs("k", "v\x00"), recs("\x7f", "v"), recs("é", "v")} {
		refuses(t, "an extra record", given{h: named(api.File, "a"), recs: l}, api.ErrRecs)
		l[0].Value = ""
		froms(t, "one that is none", given{h: named(api.File, "a"), recs: l}, known(api.File, "a"))
	}
}

// numbered are so many records that are extra.
func numbered(n int) []api.Rec {
	var l []api.Rec
	for i := range n {
		l = append(l, api.Rec{Key: "k" + strconv.Itoa(1000000+i), Value: "v"})
	}
	return l
}

func TestFromOfTooMuch(t *testing.T) {
	h := named(api.File, "a")
	want := known(api.File, "a")
	want.Extra = numbered(1000)
	froms(t, "1000 records", given{h: h, recs: numbered(1000)}, want)
	froms(t, "1000 records, and one that the header has room for", given{h: h, recs: append(numbered(1000), recs("path", "a")...)}, want)
	refuses(t, "1001 records", given{h: h, recs: numbered(1001)}, api.ErrLong)
	refuses(t, "1000 records, and one that it has none for", given{h: h, recs: append(numbered(1000), recs("uid", "3000000")...)}, api.ErrLong)
	refuses(t, "2^20 bytes", given{h: h, recs: recs("k", letters(1<<20))}, api.ErrLong)
	refuses(t, "of an S", given{h: named(api.Sparse, "a"), recs: numbered(999)}, api.ErrLong)
}

// Of several errors the one that is named first is told.
func TestFromErrors(t *testing.T) {
	for _, c := range []struct {
		name  string
		given given
		want  api.Errno
	}{
		{"no kind, a record, a name, a number", given{h: api.Header{Kind: 'x', Mode: -1}, recs: recs("uid", "x")}, api.ErrKind},
		{"a record, a name, a number", given{h: api.Header{Kind: '0', Mode: -1}, recs: recs("uid", "x")}, api.ErrRecs},
		{"a map without a size, a name", given{h: api.Header{Kind: '0'}, recs: recs("GNU.sparse.map", "0,0")}, api.ErrRecs},
		{"a name, a number, an extra record", given{h: api.Header{Kind: '0', Mode: -1}, recs: recs("=", "x")}, api.ErrText},
		{"a number, an extra record", given{h: api.Header{Kind: '0', Name: "a", Mode: -1}, recs: recs("=", "x")}, api.ErrField},
		{"a number, holes", given{h: api.Header{Kind: 'S', Name: "a", Mode: -1, Real: -1}}, api.ErrField},
		{"an extra record, too many", given{h: api.Header{Kind: '0', Name: "a"}, recs: append(numbered(1001), recs("=", "x")...)}, api.ErrRecs},
		{"a number, too many", given{h: api.Header{Kind: '0', Name: "a", Mode: -1}, recs: numbered(1001)}, api.ErrField},
	} {
		refuses(t, c.name, c.given, c.want)
	}
}
