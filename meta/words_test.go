package meta

import (
	"archive/tar"
	"bytes"
	"io"
	"maps"
	"math"
	"math/big"
	"reflect"
	"regexp"
	"slices"
	"strconv"
	"strings"
	"testing"
	"time"

	"mudlark/api"
	"mudlark/head"
	"mudlark/num"
	"mudlark/pax"
	"mudlark/sparse"
	"mudlark/stamp"
)

var decimal19 = regexp.MustCompile(`^(0|[1-9][0-9]{0,18})$`)

const knownKeys = " path linkpath uname gname uid gid size mtime GNU.sparse.map GNU.sparse.size "

// decimalByWords, splitByWords, fromByWords, wrongByWords and toByWords are the calls as the chapter has them.
func decimalByWords(s string, most int) (int, bool) {
	if !decimal19.MatchString(s) {
		return 0, false
	}
	n, _ := new(big.Int).SetString(s, 10)
	if n.Cmp(big.NewInt(int64(most))) > 0 {
		return 0, false
	}
	return int(n.Int64()), true
}

func splitByWords(name string) (string, string, bool) {
	if len(name) <= 100 {
		return "", name, true
	}
	for i := 0; i < len(name); i++ {
		ahead, behind := i, len(name)-i-1
		if name[i] == '/' && ahead >= 1 && ahead <= 155 && behind >= 1 && behind <= 100 {
			return name[:i], name[i+1:], true
		}
	}
	return "", name[:100], false
}

func fromByWords(h api.Header, recs []api.Rec, names, links []string, more []api.Part) (api.Meta, api.Errno) {
	if h.Kind == 0 || strings.IndexByte("01234567S", h.Kind) < 0 {
		return api.Meta{}, 31
	}
	r := map[string]string{}
	for _, one := range recs {
		r[one.Key] = one.Value
	}
	maps.DeleteFunc(r, func(_, value string) bool { return value == "" })
	wrong := false
	text := func(key, other string) string {
		if value, ok := r[key]; ok {
			return value
		}
		return other
	}
	number := func(key string, most, other int) int {
		value, ok := r[key]
		if !ok {
			return other
		}
		n, isRight := decimalByWords(value, most)
		wrong = wrong || !isRight
		return n
	}
	m := api.Meta{Name: h.Name, Kind: h.Kind, Mode: h.Mode, User: text("uname", h.User), Group: text("gname", h.Group)}
	if h.Prefix != "" {
		m.Name = h.Prefix + "/" + h.Name
	}
	for _, name := range names {
		m.Name = name
	}
	m.Name = text("path", m.Name)
	if h.Kind == '1' || h.Kind == '2' {
		m.Link = h.Link
		for _, link := range links {
			m.Link = link
		}
		m.Link = text("linkpath", m.Link)
	}
	m.Uid, m.Gid = number("uid", 1<<62, h.Uid), number("gid", 1<<62, h.Gid)
	m.Mtime = stamp.Norm(api.Time{S: h.Mtime})
	if value, ok := r["mtime"]; ok {
		when, isRight := stamp.Parse(value)
		m.Mtime, wrong = stamp.Norm(when), wrong || !isRight
	}
	if h.Kind == '3' || h.Kind == '4' {
		m.Major, m.Minor = h.Major, h.Minor
	}
	if h.Kind == '7' || h.Kind == 'S' {
		m.Kind = '0'
	}
	if m.Kind == '0' && strings.HasSuffix(m.Name, "/") {
		m.Kind = '5'
	}
	if size := number("size", 1<<40, h.Size); m.Kind == '0' {
		m.Size, m.Real = size, size
		l, isMapped := r["GNU.sparse.map"]
		real, isSized := r["GNU.sparse.size"]
		if isMapped || isSized {
			var isMap, isSize bool
			m.Holes = true
			m.Parts, isMap = sparse.Parse(l)
			m.Real, isSize = decimalByWords(real, 1<<40)
			wrong = wrong || !isMapped || !isSized || !isMap || !isSize
		} else if h.Kind == 'S' {
			m.Holes, m.Real = true, h.Real
			m.Parts = append(append(m.Parts, h.Parts...), more...)
		}
		var kept []api.Part
		for _, p := range m.Parts {
			if p.Len != 0 {
				kept = append(kept, p)
			}
		}
		m.Parts = kept
	}
	if wrong {
		return api.Meta{}, 34
	}
	for _, key := range slices.Sorted(maps.Keys(r)) {
		if !isKnownByWords(key) {
			m.Extra = append(m.Extra, api.Rec{Key: key, Value: r[key]})
		}
	}
	if _, _, e := toByWords(m); e != 0 {
		return api.Meta{}, e
	}
	return m, 0
}

func isKnownByWords(key string) bool {
	return slices.Contains(strings.Fields(knownKeys), key)
}

func wrongByWords(m api.Meta) api.Errno {
	if m.Kind == 0 || strings.IndexByte("0123456", m.Kind) < 0 {
		return 31
	}
	isLink := m.Kind == '1' || m.Kind == '2'
	if len(m.Name) < 1 || len(m.Name) > 4096 || isLink && (len(m.Link) < 1 || len(m.Link) > 4096) || !isLink && m.Link != "" ||
		len(m.User) > 4096 || len(m.Group) > 4096 || strings.Contains(m.Name+m.Link+m.User+m.Group, "\x00") ||
		m.Kind == '0' && m.Name[len(m.Name)-1] == '/' {
		return 33
	}
	for _, n := range []int{m.Mode, m.Major, m.Minor} {
		if n < 0 || n > 2097151 {
			return 32
		}
	}
	if m.Kind != '3' && m.Kind != '4' && (m.Major != 0 || m.Minor != 0) ||
		m.Uid < 0 || m.Uid > 1<<62 || m.Gid < 0 || m.Gid > 1<<62 || stamp.Norm(m.Mtime) != m.Mtime ||
		m.Size < 0 || m.Size > 1<<40 || m.Kind != '0' && m.Size != 0 || !m.Holes && (m.Real != m.Size || len(m.Parts) > 0) {
		return 32
	}
	for i, r := range m.Extra {
		if !pax.Right(r) || isKnownByWords(r.Key) || r.Value == "" || i > 0 && m.Extra[i-1].Key >= r.Key {
			return 34
		}
	}
	if m.Holes {
		if m.Kind != '0' || sparse.Check(m.Parts, m.Size, m.Real) != 0 {
			return 34
		}
		for _, p := range m.Parts {
			if p.Len == 0 {
				return 34
			}
		}
	}
	return 0
}

func toByWords(m api.Meta) (api.Header, []api.Rec, api.Errno) {
	if e := wrongByWords(m); e != 0 {
		return api.Header{}, nil, e
	}
	h := api.Header{Way: 1, Kind: m.Kind, Mode: m.Mode, Major: m.Major, Minor: m.Minor}
	l := slices.Clone(m.Extra)
	add := func(key, value string) {
		l = append(l, api.Rec{Key: key, Value: value})
	}
	var ok bool
	if h.Prefix, h.Name, ok = splitByWords(m.Name); !ok {
		add("path", m.Name)
	}
	text := func(s string, wide int, key string) string {
		if len(s) <= wide {
			return s
		}
		add(key, s)
		return s[:wide]
	}
	h.Link, h.User, h.Group = text(m.Link, 100, "linkpath"), text(m.User, 32, "uname"), text(m.Group, 32, "gname")
	number := func(n, wide int, key string) int {
		if _, ok := num.PutOctal(n, wide); ok {
			return n
		}
		add(key, strconv.Itoa(n))
		return 0
	}
	h.Uid, h.Gid, h.Size = number(m.Uid, 8, "uid"), number(m.Gid, 8, "gid"), number(m.Size, 12, "size")
	if m.Mtime.N == 0 && m.Mtime.S >= 0 && m.Mtime.S < 1<<33 {
		h.Mtime = m.Mtime.S
	} else {
		add("mtime", stamp.Print(m.Mtime))
	}
	if m.Holes {
		s := sparse.Print(m.Parts)
		if s == "" {
			s = "0,0"
		}
		add("GNU.sparse.map", s)
		add("GNU.sparse.size", strconv.Itoa(m.Real))
	}
	slices.SortFunc(l, func(a, b api.Rec) int { return strings.Compare(a.Key, b.Key) })
	if _, e := pax.Print(l); e == 3 {
		return api.Header{}, nil, e
	}
	return h, l, 0
}

// draw is a number below n, the next of a row that is the same each time.
type draw uint64

func (d *draw) below(n int) int {
	*d = *d*6364136223846793005 + 1442695040888963407
	return int(uint64(*d)>>33) % n
}

// one is a thing of a list: mostly one of the first few, of which all may be.
func one[T any](d *draw, first int, l ...T) T {
	if d.below(12) > 0 {
		return l[d.below(first)]
	}
	return l[d.below(len(l))]
}

func someName(d *draw) string {
	return one(d, 9, "a", "d/a", "d/", "./a", letters(100), letters(90)+"/"+letters(90), letters(120), letters(155)+"/"+letters(100), letters(156)+"/",
		"", "a\x00", "/", letters(4096), letters(4097))
}

func someText(d *draw) string {
	return one(d, 6, "", "", "u", letters(32), letters(33), letters(101), "\x00", letters(4096), letters(4097))
}

func someNumber(d *draw) int {
	return one(d, 4, 0, 0, 1, 0o777, 2097151, 2097152, 1<<33-1, 1<<33, 1<<40, 1<<40+1, 1<<62, 1<<62+1, -1, math.MinInt, math.MaxInt)
}

func someDecimal(d *draw) string {
	return one(d, 6, "0", "1", "7", "2097152", "", "1099511627776", "1099511627777", "4611686018427387904", "4611686018427387905", "01", "-1", "x", "99999999999999999999")
}

func someRecs(d *draw) []api.Rec {
	var l []api.Rec
	for range d.below(5) * d.below(3) {
		switch d.below(9) {
		case 0:
			l = append(l, recs("path", someName(d))...)
		case 1:
			l = append(l, recs("linkpath", someName(d))...)
		case 2:
			l = append(l, recs([]string{"uname", "gname"}[d.below(2)], someText(d))...)
		case 3, 4:
			l = append(l, recs([]string{"uid", "gid", "size"}[d.below(3)], someDecimal(d))...)
		case 5:
			l = append(l, recs("mtime", one(d, 5, "0", "1.5", "-1.5", "8589934592", "7", "999999999999999", "-999999999999999.5", "1.", "x", "", "1000000000000000"))...)
		case 6:
			l = append(l, recs("GNU.sparse.map", one(d, 5, "0,0", "0,1", "0,7", "1,1", "0,5,6,2", "0,0,1,1", "5,2,0,5", "0", "x", ""), "GNU.sparse.size", one(d, 2, "9", "7", "1", "0", "x", ""))...)
		case 7:
			l = append(l, recs([]string{"GNU.sparse.map", "GNU.sparse.size"}[d.below(2)], one(d, 3, "", "0,7", "7", "x"))...)
		default:
			l = append(l, recs(one(d, 4, "k", "A", "pati", "zz", "", "=", "a b"), one(d, 4, "v", "w", "", "\n", "\x00"))...)
		}
	}
	return l
}

func someParts(d *draw) []api.Part {
	return one(d, 6, nil, parts(0, 7), parts(0, 1), parts(0, 5, 6, 2), parts(0, 0, 1, 1, 9, 0), parts(1, 1), parts(5, 2, 0, 5), parts(0, -1), parts(-1, 1))
}

func someTexts(d *draw) []string {
	var l []string
	for range max(0, d.below(6)-3) {
		l = append(l, someName(d))
	}
	return l
}

func someHeader(d *draw) api.Header {
	h := api.Header{
		Name: someName(d), Kind: one(d, 16, []byte("0123456700SSSS7SxgLK8\x00/")...), Way: d.below(3),
		Mode: someNumber(d), Uid: someNumber(d), Gid: someNumber(d), Size: one(d, 3, 0, 1, 7, 8, someNumber(d)), Mtime: someNumber(d),
		User: someText(d), Group: someText(d), Major: someNumber(d), Minor: someNumber(d),
	}
	if d.below(4) == 0 {
		h.Prefix = someText(d)
	}
	if h.Kind == '1' || h.Kind == '2' || d.below(4) == 0 {
		h.Link = someName(d)
	}
	if h.Kind == 'S' || d.below(4) == 0 {
		h.Parts, h.Real, h.More = someParts(d), one(d, 2, 9, 8, 0, 1, someNumber(d)), d.below(2) == 0
	}
	return h
}

func TestFromByWords(t *testing.T) {
	d := draw(10)
	told := map[byte]int{}
	errors := map[api.Errno]int{}
	for range 60000 {
		c := given{someHeader(&d), someRecs(&d), someTexts(&d), someTexts(&d), nil}
		if d.below(4) == 0 {
			c.more = someParts(&d)
		}
		m, e := From(c.h, c.recs, c.names, c.links, c.more)
		want, wrong := fromByWords(c.h, c.recs, c.names, c.links, c.more)
		if !reflect.DeepEqual(plain(m), plain(want)) || e != wrong {
			t.Fatalf("From of %+v = %+v, %d; want %+v, %d", c, m, e, want, wrong)
		}
		errors[e]++
		if e != api.OK {
			continue
		}
		told[m.Kind]++
		if m.Holes {
			told['S']++
		}
		comesBack(t, m)
	}
	isVaried(t, told, errors)
}

// isVaried holds how often kinds, and errors, were told against what is enough for each.
func isVaried(t *testing.T, told map[byte]int, errors map[api.Errno]int) {
	t.Helper()
	for _, kind := range []byte("0123456S") {
		if told[kind] < 200 {
			t.Errorf("of the kind %c %d were told", kind, told[kind])
		}
	}
	for _, e := range []api.Errno{api.ErrKind, api.ErrText, api.ErrField, api.ErrRecs} {
		if errors[e] < 200 {
			t.Errorf("the error %d was told %d times", e, errors[e])
		}
	}
}

// comesBack lays what is known as a header's block and a payload, and holds what is known of these against it.
func comesBack(t *testing.T, m api.Meta) {
	t.Helper()
	h, l, e := To(m)
	if e != api.OK {
		t.Fatalf("To of %+v = %d", m, e)
	}
	block, e := head.Print(h)
	if e != api.OK {
		t.Fatalf("Print of %+v of %+v = %d", h, m, e)
	}
	payload, e := pax.Print(l)
	if e != api.OK {
		t.Fatalf("Print of %v of %+v = %d", l, m, e)
	}
	h, _ = head.Parse(block)
	l, _ = pax.Parse(payload)
	back, e := From(h, l, nil, nil, nil)
	if e != api.OK || !reflect.DeepEqual(plain(back), plain(m)) || !Same(back, m) || !Same(m, back) {
		t.Fatalf("%+v comes back as %+v, %d", m, back, e)
	}
}

func someMeta(d *draw) api.Meta {
	m := api.Meta{
		Name: someName(d), Kind: one(d, 7, []byte("01234567Sx\x00/")...), Mode: someNumber(d), Uid: someNumber(d), Gid: someNumber(d),
		User: someText(d), Group: someText(d), Mtime: api.Time{S: someNumber(d), N: one(d, 3, 0, 0, 5, 999999999, 1000000000, -1)},
	}
	if m.Kind == '1' || m.Kind == '2' || d.below(20) == 0 {
		m.Link = someName(d)
	}
	if m.Kind == '3' || m.Kind == '4' || d.below(20) == 0 {
		m.Major, m.Minor = someNumber(d), someNumber(d)
	}
	if m.Kind == '0' || d.below(20) == 0 {
		m.Size = one(d, 3, 1, 7, 0, someNumber(d))
		m.Real = m.Size
	}
	if m.Kind == '0' && d.below(2) == 0 || d.below(20) == 0 {
		m.Holes, m.Real, m.Parts = d.below(10) > 0, one(d, 3, 9, 8, 10, 0, someNumber(d)), someParts(d)
	}
	key := "A"
	for range d.below(4) {
		m.Extra = append(m.Extra, recs(key, one(d, 3, "v", "w", "\n", "", "\x00"))...)
		key = one(d, 3, key+"z", "k"+key, "GNU.sparse.mapp"+key, "path", "uid", "A", "a b", "")
	}
	slices.SortFunc(m.Extra, func(a, b api.Rec) int { return strings.Compare(a.Key, b.Key) })
	if d.below(20) == 0 {
		slices.Reverse(m.Extra)
	}
	return m
}

func TestToByWords(t *testing.T) {
	d := draw(11)
	told := map[byte]int{}
	errors := map[api.Errno]int{}
	for range 60000 {
		m := someMeta(&d)
		h, l, e := To(m)
		want, wantRecs, wrong := toByWords(m)
		if !reflect.DeepEqual(h, want) || !slices.Equal(l, wantRecs) || e != wrong {
			t.Fatalf("To of %+v = %+v, %v, %d; want %+v, %v, %d", m, h, l, e, want, wantRecs, wrong)
		}
		errors[e]++
		if e != api.OK {
			continue
		}
		told[m.Kind]++
		if m.Holes {
			told['S']++
		}
		comesBack(t, m)
	}
	isVaried(t, told, errors)
}

// Names with slashes at each two places, about as long as there is room for.
func TestSplitByWords(t *testing.T) {
	for _, n := range []int{0, 1, 2, 99, 100, 101, 102, 155, 156, 157, 200, 254, 255, 256, 257, 258, 300} {
		for first := range n + 1 {
			for second := first; second < n; second++ {
				b := []byte(letters(n))
				b[first], b[second] = '/', '/'
				splitsByWords(t, string(b))
			}
		}
		splitsByWords(t, letters(n))
	}
	d := draw(12)
	for range 20000 {
		b := make([]byte, d.below(320))
		often := 2 + d.below(100)
		for i := range b {
			b[i] = "/n"[min(1, d.below(often))]
		}
		splitsByWords(t, string(b))
	}
}

func splitsByWords(t *testing.T, name string) {
	t.Helper()
	ahead, behind, ok := Split(name)
	if wantAhead, wantBehind, want := splitByWords(name); ahead != wantAhead || behind != wantBehind || ok != want {
		t.Fatalf("Split of %q = %q, %q, %v; want %q, %q, %v", name, ahead, behind, ok, wantAhead, wantBehind, want)
	}
	if ahead != "" {
		behind = ahead + "/" + behind
	}
	if ok && behind != name {
		t.Fatalf("Split of %q comes back as %q", name, behind)
	}
}

// others are members that the library's own tar writer writes.
func others() []tar.Header {
	return []tar.Header{
		{Typeflag: tar.TypeReg, Name: "a", Size: 7, Mode: 0o644, ModTime: time.Unix(1, 0)},
		{Typeflag: tar.TypeReg, Name: letters(120) + "/" + letters(90), Mode: 1, Size: 3, ModTime: time.Unix(-1, 500000000)},
		{Typeflag: tar.TypeReg, Name: strings.Repeat("d/", 400) + "n", Uname: letters(40), Gname: letters(50), Size: 8589934592, ModTime: time.Unix(1<<34, 5)},
		{Typeflag: tar.TypeReg, Name: "e", Uid: 3000000, Gid: 1 << 40, ModTime: time.Unix(0, 0), PAXRecords: map[string]string{"VENDOR.key": "v"}},
		{Typeflag: tar.TypeDir, Name: "d/", Mode: 0o755, ModTime: time.Unix(0, 1)},
		{Typeflag: tar.TypeSymlink, Name: "s", Linkname: letters(200), ModTime: time.Unix(5, 0)},
		{Typeflag: tar.TypeLink, Name: "h", Linkname: "a", ModTime: time.Unix(5, 0)},
		{Typeflag: tar.TypeChar, Name: "c", Devmajor: 4, Devminor: 64, ModTime: time.Unix(8589934591, 0)},
		{Typeflag: tar.TypeBlock, Name: "b", Devmajor: 2097151, ModTime: time.Unix(0, 0)},
		{Typeflag: tar.TypeFifo, Name: "é", Mode: 0o7777, ModTime: time.Unix(0, 0)},
	}
}

// knownOf is what is known of such a one.
func knownOf(h tar.Header) api.Meta {
	m := api.Meta{
		Name: h.Name, Link: h.Linkname, Kind: h.Typeflag, Mode: int(h.Mode), Uid: h.Uid, Gid: h.Gid, User: h.Uname, Group: h.Gname,
		Mtime: api.Time{S: int(h.ModTime.Unix()), N: h.ModTime.Nanosecond()},
		Major: int(h.Devmajor), Minor: int(h.Devminor), Size: int(h.Size), Real: int(h.Size),
	}
	for key, value := range h.PAXRecords {
		m.Extra = append(m.Extra, api.Rec{Key: key, Value: value})
	}
	return m
}

func TestMembersOfOthers(t *testing.T) {
	for _, c := range others() {
		c.Format = tar.FormatPAX
		var out bytes.Buffer
		if err := tar.NewWriter(&out).WriteHeader(&c); err != nil {
			t.Fatal(err)
		}
		b := out.Bytes()
		h, _ := head.Parse(b[:512])
		var l []api.Rec
		if h.Kind == api.Local {
			l, _ = pax.Parse(b[512 : 512+h.Size])
			h, _ = head.Parse(b[len(b)-512:])
		}
		froms(t, c.Name, given{h: h, recs: l}, knownOf(c))
	}
}

func TestOthersReadWhatIsTold(t *testing.T) {
	for _, c := range others() {
		h, l, e := To(knownOf(c))
		if e != api.OK {
			t.Fatalf("%s: To = %d", c.Name, e)
		}
		payload, _ := pax.Print(l)
		ahead, _ := head.Print(api.Header{Kind: api.Local, Way: api.Ustar, Name: "pax", Size: len(payload)})
		main, _ := head.Print(h)
		b := slices.Concat(ahead, payload, make([]byte, (512-len(payload)%512)%512), main)
		if len(l) == 0 {
			b = main
		}
		got, err := tar.NewReader(bytes.NewReader(b)).Next()
		if err != nil && err != io.EOF {
			t.Errorf("%s: %v", c.Name, err)
			continue
		}
		if got.Typeflag != c.Typeflag || got.Name != c.Name || got.Linkname != c.Linkname || got.Size != c.Size || got.Mode != c.Mode ||
			got.Uid != c.Uid || got.Gid != c.Gid || got.Uname != c.Uname || got.Gname != c.Gname || !got.ModTime.Equal(c.ModTime) ||
			got.Devmajor != c.Devmajor || got.Devminor != c.Devminor || got.PAXRecords["VENDOR.key"] != c.PAXRecords["VENDOR.key"] {
			t.Errorf("%s: others read %+v; want %+v", c.Name, got, c)
		}
	}
}

func TestNilIsEmpty(t *testing.T) {
	h := named(api.Sparse, "a")
	h.Real = 5
	want := holes(0, 5, nil)
	froms(t, "nil", given{h: h}, want)
	h.Parts = []api.Part{}
	froms(t, "empty", given{h: h, recs: []api.Rec{}, names: []string{}, links: []string{}, more: []api.Part{}}, want)

	m := known(api.File, "a")
	m.Parts, m.Extra = []api.Part{}, []api.Rec{}
	tos(t, "empty", m, named(api.File, "a"), nil)
	if !Same(m, known(api.File, "a")) || !Same(known(api.File, "a"), m) {
		t.Error("nil and empty are not the same")
	}
	m.Holes = true
	tos(t, "empty, with holes", m, named(api.File, "a"), recs("GNU.sparse.map", "0,0", "GNU.sparse.size", "0"))
}

func TestWhatIsHandedInStays(t *testing.T) {
	// Behind the lengths stand things that would count if they were read.
	c := func() given {
		h := named(api.Sparse, "a")
		h.Size, h.Real, h.Parts = 7, 12, parts(0, 0, 0, 5, 90, 91)[:2]
		return given{
			h, recs("z", "1", "uid", "3", "b", "2", "z", "", "uid", "x")[:4],
			[]string{"b", "c", ""}[:2], []string{"l", ""}[:1], parts(10, 2, 7, 0, 92, 93)[:2],
		}
	}
	got, was := c(), c()
	want := holes(7, 12, parts(0, 5, 10, 2))
	want.Name, want.Uid, want.Extra = "c", 3, recs("b", "2")
	froms(t, "with others behind", got, want)
	if !reflect.DeepEqual(whole(got), whole(was)) {
		t.Errorf("what was handed in became %+v", whole(got))
	}
	l := recs("GNU.sparse.size", "5", "GNU.sparse.map", "0,0", "k", "v")
	keep := slices.Clone(l)
	h := named(api.File, "a")
	want = holes(0, 5, nil)
	want.Extra = recs("k", "v")
	froms(t, "records of holes", given{h: h, recs: l}, want)
	if !slices.Equal(l, keep) {
		t.Errorf("records became %v", l)
	}

	m := holes(5, 9, parts(0, 5, 1, 0)[:1])
	m.Uid, m.Extra = 3000000, recs("A", "1", "z", "2", "", "")[:2]
	tos(t, "with others behind", m, func() api.Header {
		h := named(api.File, "a")
		h.Size = 5
		return h
	}(), recs("A", "1", "GNU.sparse.map", "0,5", "GNU.sparse.size", "9", "uid", "3000000", "z", "2"))
	if !slices.Equal(m.Parts[:2], parts(0, 5, 1, 0)) || !slices.Equal(m.Extra[:3], recs("A", "1", "z", "2", "", "")) {
		t.Errorf("what was handed in became %+v", m)
	}
	if !Same(m, m) || !slices.Equal(m.Parts[:2], parts(0, 5, 1, 0)) {
		t.Error("what was compared became another one")
	}
	other := m
	other.Parts, other.Extra = parts(0, 5, 7, 7)[:1], recs("A", "1", "z", "2", "q", "q")[:2]
	if !Same(m, other) {
		t.Error("what lies behind the length counts")
	}
}

// whole is c with all that lies behind its lists' lengths.
func whole(c given) given {
	c.h.Parts = c.h.Parts[:cap(c.h.Parts)]
	c.recs, c.names, c.links, c.more = c.recs[:cap(c.recs)], c.names[:cap(c.names)], c.links[:cap(c.links)], c.more[:cap(c.more)]
	return c
}

func TestWhatComesOutIsNew(t *testing.T) {
	h := named(api.Sparse, "a")
	h.Size, h.Real, h.Parts = 7, 12, parts(0, 5)
	more, l := parts(10, 2), recs("k", "v", "uid", "3000000")
	first, _ := From(h, l, nil, nil, more)
	second, _ := From(h, l, nil, nil, more)
	_, firstRecs, _ := To(second)
	_, secondRecs, _ := To(second)
	spoil(h.Parts, l)
	spoil(more, nil)
	spoil(first.Parts, first.Extra)
	spoil(nil, firstRecs)
	want := holes(7, 12, parts(0, 5, 10, 2))
	want.Uid, want.Extra = 3000000, recs("k", "v")
	if !reflect.DeepEqual(second, want) {
		t.Errorf("what is known became %+v", second)
	}
	if !slices.Equal(secondRecs, recs("GNU.sparse.map", "0,5,10,2", "GNU.sparse.size", "12", "k", "v", "uid", "3000000")) {
		t.Errorf("records became %v", secondRecs)
	}
}

// spoil writes over lists, and what lies behind them.
func spoil(l []api.Part, r []api.Rec) {
	l, r = l[:cap(l)], r[:cap(r)]
	for i := range l {
		l[i] = api.Part{At: 99, Len: 99}
	}
	for i := range r {
		r[i] = api.Rec{Key: "spoilt", Value: "spoilt"}
	}
}
