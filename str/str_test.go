package str

import (
	"bytes"
	"math"
	"slices"
	"strings"
	"testing"
	"unicode/utf8"
)

// texts calls f with each text of up to most of these bytes.
func texts(alphabet string, most int, f func(s string)) {
	longer(make([]byte, 0, most), alphabet, f)
}

func longer(b []byte, alphabet string, f func(s string)) {
	f(string(b))
	if len(b) == cap(b) {
		return
	}
	for i := range len(alphabet) {
		longer(append(b, alphabet[i]), alphabet, f)
	}
}

func TestCut(t *testing.T) {
	long := strings.Repeat("a", 500)
	for _, c := range []struct{ b, want string }{
		{"a\x00b", "a"},
		{"", ""},
		{"a", "a"},
		{"abc", "abc"},
		{"\x00", ""},
		{"\x00\x00\x00", ""},
		{"\x00abc", ""},
		{"abc\x00", "abc"},
		{"abc\x00\x00\x00", "abc"},
		{"a\x00b\x00c", "a"},
		{"ab\x00\x00c", "ab"},
		{" a \x00", " a "},
		{"a\n\x00", "a\n"},
		{"\x01\x00\x01", "\x01"},
		{"\xff\x80\xc3\x00\xa9", "\xff\x80\xc3"},
		{"\xff\xfe", "\xff\xfe"},
		{"a0b", "a0b"},
		{long, long},
		{long + "\x00" + long, long},
	} {
		if s := Cut([]byte(c.b)); s != c.want {
			t.Errorf("Cut(%q) = %q; want %q", c.b, s, c.want)
		}
	}
}

func TestCutByWords(t *testing.T) {
	texts("\x00\x01 0a\xff", 5, func(b string) {
		want := ""
		for i := 0; i < len(b) && b[i] != 0; i++ {
			want += b[i : i+1]
		}
		if s := Cut([]byte(b)); s != want {
			t.Fatalf("Cut(%q) = %q; want %q", b, s, want)
		}
	})
}

type putting struct {
	s    string
	wide int
	want string
	ok   bool
}

func TestPut(t *testing.T) {
	long := strings.Repeat("a", 100)
	for _, c := range []putting{
		{"abc", 5, "abc\x00\x00", true},
		{"abc", 4, "abc\x00", true},
		{"abc", 3, "abc", true},
		{"", 0, "", true},
		{"", 1, "\x00", true},
		{"", 4, "\x00\x00\x00\x00", true},
		{"a", 1, "a", true},
		{" ", 2, " \x00", true},
		{"/a/../b", 8, "/a/../b\x00", true},
		{"\x01\x7f\n", 4, "\x01\x7f\n\x00", true},
		{"\xff\x80", 3, "\xff\x80\x00", true},
		{"\xff\x80", 2, "\xff\x80", true},
		{"\u00e9", 2, "\u00e9", true},
		{long, 100, long, true},
		{long, 155, long + strings.Repeat("\x00", 55), true},

		{"abc", 2, "", false},
		{"abc", 1, "", false},
		{"abc", 0, "", false},
		{"a", 0, "", false},
		{"\u00e9", 1, "", false},
		{long, 99, "", false},
		{"", -1, "", false},
		{"abc", -1, "", false},
		{"", math.MinInt, "", false},
		{"abc", math.MinInt, "", false},
		{"\x00", 1, "", false},
		{"\x00", 5, "", false},
		{"\x00", 0, "", false},
		{"a\x00", 2, "", false},
		{"a\x00", 5, "", false},
		{"a\x00b", 3, "", false},
		{"a\x00b", 5, "", false},
		{"\x00a", 2, "", false},
		{"\x00a", 5, "", false},
		{"abc\x00\x00", 5, "", false},
	} {
		b, ok := Put(c.s, c.wide)
		if string(b) != c.want || ok != c.ok {
			t.Errorf("Put(%q, %d) = %q, %v; want %q, %v", c.s, c.wide, b, ok, c.want, c.ok)
		}
	}
}

func TestPutByWords(t *testing.T) {
	texts("\x00a \xff", 4, func(s string) {
		for wide := -2; wide < 8; wide++ {
			want, can := "", wide >= len(s)
			for i := range wide {
				if i < len(s) {
					want += s[i : i+1]
					can = can && s[i] != 0
				} else {
					want += "\x00"
				}
			}
			if !can {
				want = ""
			}
			if b, ok := Put(s, wide); string(b) != want || ok != can {
				t.Fatalf("Put(%q, %d) = %q, %v; want %q, %v", s, wide, b, ok, want, can)
			}
		}
	})
}

func TestPutEndsWithoutMemory(t *testing.T) {
	for _, wide := range []int{1 << 31, 1 << 40, 1 << 47, 1 << 62, math.MaxInt} {
		if b, ok := Put("a", wide); len(b) != 0 || ok {
			t.Errorf("Put of %d: %d bytes, %v", wide, len(b), ok)
		}
	}
}

func TestPutOfManyBytes(t *testing.T) {
	const wide = 1 << 24
	if b, ok := Put("a", wide); !ok || string(b) != "a"+strings.Repeat("\x00", wide-1) {
		t.Errorf("Put of %d: %d bytes, %v", wide, len(b), ok)
	}
}

func TestWhatIsPutIsCut(t *testing.T) {
	texts("a/.\x01\xff", 5, func(s string) {
		for wide := len(s); wide < len(s)+3; wide++ {
			b, ok := Put(s, wide)
			if !ok || len(b) != wide || Cut(b) != s {
				t.Fatalf("Put(%q, %d) = %q, %v, cut as %q", s, wide, b, ok, Cut(b))
			}
		}
	})
}

// characters are those rows of bytes that the chapter calls a character: of each byte the least and the greatest.
var characters = [][][2]byte{
	{{0x00, 0x7f}},
	{{0xc2, 0xdf}, {0x80, 0xbf}},
	{{0xe0, 0xe0}, {0xa0, 0xbf}, {0x80, 0xbf}},
	{{0xe1, 0xec}, {0x80, 0xbf}, {0x80, 0xbf}},
	{{0xee, 0xee}, {0x80, 0xbf}, {0x80, 0xbf}},
	{{0xef, 0xef}, {0x80, 0xbf}, {0x80, 0xbf}},
	{{0xed, 0xed}, {0x80, 0x9f}, {0x80, 0xbf}},
	{{0xf0, 0xf0}, {0x90, 0xbf}, {0x80, 0xbf}, {0x80, 0xbf}},
	{{0xf1, 0xf3}, {0x80, 0xbf}, {0x80, 0xbf}, {0x80, 0xbf}},
	{{0xf4, 0xf4}, {0x80, 0x8f}, {0x80, 0xbf}, {0x80, 0xbf}},
}

func begins(s string, character [][2]byte) bool {
	for i, row := range character {
		if i >= len(s) || s[i] < row[0] || s[i] > row[1] {
			return false
		}
	}
	return true
}

func utf8ByWords(s string) bool {
	for s != "" {
		n := 0
		for _, c := range characters {
			if begins(s, c) {
				n = len(c)
			}
		}
		if n == 0 {
			return false
		}
		s = s[n:]
	}
	return true
}

func plainByWords(s string) bool {
	for i := range len(s) {
		if s[i] < 0x20 || s[i] == 0x7f {
			return false
		}
	}
	return utf8ByWords(s)
}

func checkText(t *testing.T, s string) {
	t.Helper()
	if ok, want := Utf8(s), utf8ByWords(s); ok != want {
		t.Fatalf("Utf8(%q) = %v; want %v", s, ok, want)
	}
	if ok, want := Plain(s), plainByWords(s); ok != want {
		t.Fatalf("Plain(%q) = %v; want %v", s, ok, want)
	}
}

func TestUtf8AndPlain(t *testing.T) {
	for _, c := range []struct {
		s           string
		utf8, plain bool
	}{
		{"", true, true},
		{"a", true, true},
		{"a b/c", true, true},
		{" ", true, true},
		{"~", true, true},
		{"\u00e9", true, true},
		{"e\u0301\u20ac\U0001f600", true, true},
		{"\u0080", true, true},
		{"\u009f", true, true},
		{"\u07ff\u0800\ud7ff\ue000\uffff", true, true},
		{"\U00010000\U0010ffff", true, true},
		{"\u2028\ufeff", true, true},
		{"\ufffd", true, true},
		{"\ufffd\ufffda\ufffd", true, true},

		{"\x00", true, false},
		{"\x1f", true, false},
		{"\x7f", true, false},
		{"a\x00", true, false},
		{"a\nb", true, false},
		{"a\tb", true, false},
		{"\u00e9\x1b", true, false},
		{"\x7f\u00e9", true, false},
		{"\ufffd\r", true, false},

		{"\xff", false, false},
		{"\xfe", false, false},
		{"\x80", false, false},
		{"\xbf", false, false},
		{"a\x80", false, false},
		{"\xc0\x80", false, false},
		{"\xc1\xbf", false, false},
		{"\xc2", false, false},
		{"\xc2a", false, false},
		{"\xc2\xc2\x80", false, false},
		{"\xe0\x80\x80", false, false},
		{"\xe0\x9f\xbf", false, false},
		{"\xe1\x80", false, false},
		{"\xed\xa0\x80", false, false},
		{"\xed\xbf\xbf", false, false},
		{"\xef\xbf", false, false},
		{"\xef\xbfa", false, false},
		{"\xf0\x80\x80\x80", false, false},
		{"\xf0\x8f\xbf\xbf", false, false},
		{"\xf1\x80\x80", false, false},
		{"\xf4\x90\x80\x80", false, false},
		{"\xf5\x80\x80\x80", false, false},
		{"\xf8\x88\x80\x80\x80", false, false},
		{"\u00e9\xff", false, false},
		{"\xff\u00e9", false, false},
		{"\ufffd\xff", false, false},
		{"\xff\ufffd", false, false},
		{"\ufffd\xef\xbf", false, false},
		{"\xef\xbf\ufffd", false, false},
		{"\x00\xff", false, false},
	} {
		if ok := Utf8(c.s); ok != c.utf8 {
			t.Errorf("Utf8(%q) = %v; want %v", c.s, ok, c.utf8)
		}
		if ok := Plain(c.s); ok != c.plain {
			t.Errorf("Plain(%q) = %v; want %v", c.s, ok, c.plain)
		}
	}
}

func TestEachByteOfAText(t *testing.T) {
	for i := range 256 {
		one := string([]byte{byte(i)})
		checkText(t, one)
		checkText(t, "a"+one)
		checkText(t, one+"a")
		checkText(t, "\u20ac"+one+"\ufffd")
		for k := range 256 {
			checkText(t, one+string([]byte{byte(k)}))
		}
	}
}

func TestEdgesOfCharacters(t *testing.T) {
	texts("\x00\x20\x7f\x80\x8f\x90\x9f\xa0\xbf\xc0\xc1\xc2\xdf\xe0\xe1\xec\xed\xee\xef\xf0\xf1\xf3\xf4\xf5\xff", 4, func(s string) {
		checkText(t, s)
	})
}

func TestEachCharacter(t *testing.T) {
	for c := rune(0); c <= utf8.MaxRune+1; c++ {
		if !utf8.ValidRune(c) {
			continue
		}
		s := string(c)
		checkText(t, s)
		checkText(t, s[:len(s)-1])
		checkText(t, s+s[:1])
	}
}

type splitting struct {
	s     string
	names []string
	clean string
	ok    bool
}

func TestSplitAndClean(t *testing.T) {
	for _, c := range []splitting{
		{"a//./b/", []string{"a", "b"}, "a/b", true},
		{"a/../b", []string{"a", "..", "b"}, "", false},

		{"", nil, "", true},
		{"a", []string{"a"}, "a", true},
		{"a/b", []string{"a", "b"}, "a/b", true},
		{"a/b/c", []string{"a", "b", "c"}, "a/b/c", true},
		{"c/b/a/b", []string{"c", "b", "a", "b"}, "c/b/a/b", true},
		{"a/", []string{"a"}, "a", true},
		{"a//", []string{"a"}, "a", true},
		{"a//b", []string{"a", "b"}, "a/b", true},
		{".", nil, "", true},
		{"./", nil, "", true},
		{"./.", nil, "", true},
		{".//./", nil, "", true},
		{"./a", []string{"a"}, "a", true},
		{"a/.", []string{"a"}, "a", true},
		{"a/./b", []string{"a", "b"}, "a/b", true},
		{"...", []string{"..."}, "...", true},
		{"a/.../b", []string{"a", "...", "b"}, "a/.../b", true},
		{".a", []string{".a"}, ".a", true},
		{"a.", []string{"a."}, "a.", true},
		{"..a/b", []string{"..a", "b"}, "..a/b", true},
		{"a../b", []string{"a..", "b"}, "a../b", true},
		{"a/..b", []string{"a", "..b"}, "a/..b", true},
		{" ", []string{" "}, " ", true},
		{" . / .. ", []string{" . ", " .. "}, " . / .. ", true},
		{`a\..\b`, []string{`a\..\b`}, `a\..\b`, true},
		{"a\x00b/\n", []string{"a\x00b", "\n"}, "a\x00b/\n", true},
		{"\xff/\xc3/\xa9", []string{"\xff", "\xc3", "\xa9"}, "\xff/\xc3/\xa9", true},
		{"\u00e9/\u2215/\uff0f", []string{"\u00e9", "\u2215", "\uff0f"}, "\u00e9/\u2215/\uff0f", true},
		{strings.Repeat("a/", 3000), slices.Repeat([]string{"a"}, 3000), strings.Repeat("a/", 2999) + "a", true},

		{"..", []string{".."}, "", false},
		{"../", []string{".."}, "", false},
		{"../a", []string{"..", "a"}, "", false},
		{"../../a", []string{"..", "..", "a"}, "", false},
		{"a/..", []string{"a", ".."}, "", false},
		{"a/../", []string{"a", ".."}, "", false},
		{"./..", []string{".."}, "", false},
		{"a/b/../c", []string{"a", "b", "..", "c"}, "", false},
		{strings.Repeat("a/", 3000) + "..", append(slices.Repeat([]string{"a"}, 3000), ".."), "", false},
		{"/", nil, "", false},
		{"//", nil, "", false},
		{"/.", nil, "", false},
		{"/a", []string{"a"}, "", false},
		{"//a", []string{"a"}, "", false},
		{"/a/b/", []string{"a", "b"}, "", false},
		{"/..", []string{".."}, "", false},
		{"/a/../b", []string{"a", "..", "b"}, "", false},
	} {
		if l := Split(c.s); !slices.Equal(l, c.names) {
			t.Errorf("Split(%q) = %q; want %q", c.s, l, c.names)
		}
		if s, ok := Clean(c.s); s != c.clean || ok != c.ok {
			t.Errorf("Clean(%q) = %q, %v; want %q, %v", c.s, s, ok, c.clean, c.ok)
		}
	}
}

func splitByWords(s string) []string {
	var l []string
	name := ""
	for _, c := range []byte(s + "/") {
		if c != '/' {
			name += string([]byte{c})
			continue
		}
		if name != "" && name != "." {
			l = append(l, name)
		}
		name = ""
	}
	return l
}

func cleanByWords(s string) (string, bool) {
	if s != "" && s[0] == '/' {
		return "", false
	}
	path := ""
	for i, name := range splitByWords(s) {
		if name == ".." {
			return "", false
		}
		if i > 0 {
			path += "/"
		}
		path += name
	}
	return path, true
}

func TestSplitAndCleanByWords(t *testing.T) {
	texts("/.a\xc3\x00", 6, func(s string) {
		if l, want := Split(s), splitByWords(s); !slices.Equal(l, want) {
			t.Fatalf("Split(%q) = %q; want %q", s, l, want)
		}
		path, ok := Clean(s)
		want, can := cleanByWords(s)
		if path != want || ok != can {
			t.Fatalf("Clean(%q) = %q, %v; want %q, %v", s, path, ok, want, can)
		}
	})
}

func TestWhatIsCleanStays(t *testing.T) {
	texts("/.ab", 7, func(s string) {
		path, ok := Clean(s)
		if !ok {
			return
		}
		if again, isClean := Clean(path); again != path || !isClean {
			t.Fatalf("Clean(%q) = %q, of that %q, %v", s, path, again, isClean)
		}
		if !slices.Equal(Split(path), Split(s)) {
			t.Fatalf("Clean(%q) = %q has other names", s, path)
		}
	})
}

func TestNilIsEmpty(t *testing.T) {
	if Cut(nil) != "" || Cut([]byte{}) != "" {
		t.Errorf("Cut of nil %q, of no bytes %q", Cut(nil), Cut([]byte{}))
	}
}

func TestWhatIsHandedInStays(t *testing.T) {
	for _, s := range []string{"", "a", "abc", "a\x00b", "\x00", "\xff"} {
		for _, behind := range []string{"xyz", "\x00\x00"} {
			whole := []byte(s + behind)
			if got, alone := Cut(whole[:len(s)]), Cut([]byte(s)); got != alone {
				t.Errorf("Cut(%q) = %q with bytes behind it, %q without", s, got, alone)
			}
			if string(whole) != s+behind {
				t.Errorf("%q became %q", s+behind, whole)
			}
		}
	}
}

func TestWhatComesOutIsNew(t *testing.T) {
	field := []byte("abc\x00")
	text := Cut(field)
	copy(field, "xxxx")
	if text != "abc" {
		t.Errorf("Cut's text became %q", text)
	}

	one, _ := Put("abc", 4)
	other, _ := Put("abc", 4)
	copy(one, "xxxx")
	again, _ := Put("abc", 4)
	if want := []byte("abc\x00"); !bytes.Equal(other, want) || !bytes.Equal(again, want) {
		t.Errorf("Put: %q and %q; want %q", other, again, want)
	}

	names := Split("a/b")
	others := Split("a/b")
	names[0], names[1] = "x", "x"
	if want := []string{"a", "b"}; !slices.Equal(others, want) || !slices.Equal(Split("a/b"), want) {
		t.Errorf("Split: %q and %q; want %q", others, Split("a/b"), want)
	}
}
