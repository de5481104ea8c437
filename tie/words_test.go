package tie

import (
	"archive/tar"
	"bytes"
	"strconv"
	"strings"
	"testing"

	"mudlark/api"
	"mudlark/group"
	"mudlark/head"
	"mudlark/meta"
	"mudlark/pax"
	"mudlark/sample"
)

// isLostByWords, blockByWords, orphanByWords, nextByWords, agreesByWords and readByWords are the calls, and what they ask, as the chapter has them.
func isLostByWords(x api.Image, i int) bool {
	for _, bad := range x.Bad {
		if bad == i {
			return true
		}
	}
	return false
}

func blockByWords(x api.Image, i int) []byte {
	if i < 0 || i*512 >= len(x.Bytes) {
		return nil
	}
	b := x.Bytes[i*512:]
	if len(b) > 512 {
		b = b[:512]
	}
	return b
}

func orphanByWords(x api.Image, i int) bool {
	h, e := head.Parse(blockByWords(x, i))
	if e != 0 || isLostByWords(x, i) || strings.IndexByte("xLK", h.Kind) < 0 {
		return false
	}
	_, e = group.Read(x, i, nil, nil)
	return e != 0
}

func nextByWords(x api.Image, i int) (int, bool) {
	if !orphanByWords(x, i) {
		return 0, false
	}
	h, _ := head.Parse(blockByWords(x, i))
	_, k, e := group.Payload(x, i, h)
	if e != 0 {
		return 0, false
	}
	for lost := 0; blockByWords(x, k) != nil; k, lost = k+1, lost+1 {
		if !isLostByWords(x, k) {
			if lost > 0 {
				return k, true
			}
			break
		}
	}
	return 0, false
}

// frontByWords are the first 100 bytes of a text.
func frontByWords(s string) string {
	front := ""
	for i := 0; i < len(s) && i < 100; i++ {
		front += s[i : i+1]
	}
	return front
}

func agreesByWords(h api.Header, own []api.Rec) bool {
	has := map[string]string{}
	for _, r := range own {
		has[r.Key] = r.Value
	}
	path, link := has["path"], has["linkpath"]
	switch {
	case path == "" && link == "":
		return false
	case path != "" && (h.Prefix != "" || h.Name != frontByWords(path)):
		return false
	case link != "" && h.Link != frontByWords(link):
		return false
	}
	return true
}

// ownByWords are the records that an orphan at a block has.
func ownByWords(x api.Image, i int) []api.Rec {
	h, _ := head.Parse(blockByWords(x, i))
	b, _, _ := group.Payload(x, i, h)
	if h.Kind == 'x' {
		l, e := pax.Parse(b)
		if e != 0 {
			return nil
		}
		return l
	}
	text, _, _ := strings.Cut(string(b), "\x00")
	if text == "" {
		return nil
	}
	return sample.Recs(map[byte]string{'L': "path", 'K': "linkpath"}[h.Kind], text)
}

func readByWords(x api.Image, i int, global []api.Rec) (api.Group, bool) {
	k, ok := nextByWords(x, i)
	if !ok {
		return api.Group{}, false
	}
	own := ownByWords(x, i)
	g, e := group.Read(x, k, global, own)
	if e != 0 {
		return api.Group{}, false
	}
	h, _ := head.Parse(blockByWords(x, g.Main))
	if !agreesByWords(h, own) {
		return api.Group{}, false
	}
	g.At = i
	return g, true
}

func TestAnythingByWords(t *testing.T) {
	d := sample.Draw(16)
	told := map[string]int{}
	for range 20000 {
		x := sample.Shards(&d)
		for i := -1; i <= len(x.Bytes)/512+1; i++ {
			orphan, wantOrphan := Orphan(x, i), orphanByWords(x, i)
			k, isNext := Next(x, i)
			wantNext, wantIsNext := nextByWords(x, i)
			if orphan != wantOrphan || k != wantNext || isNext != wantIsNext {
				t.Fatalf("at %d of %d bytes, bad %v: Orphan %v, Next %d, %v; want %v, %d, %v", i, len(x.Bytes), x.Bad, orphan, k, isNext, wantOrphan, wantNext, wantIsNext)
			}
			global := sample.One(&d, nil, sample.Facts(&d))
			g, ok := Read(x, i, global)
			want, wantOk := readByWords(x, i, global)
			if !sample.SameGroup(g, want) || ok != wantOk {
				t.Fatalf("Read at %d of %d bytes, bad %v, with %v = %+v, %v; want %+v, %v", i, len(x.Bytes), x.Bad, global, g, ok, want, wantOk)
			}
			if orphan {
				h, _ := head.Parse(blockByWords(x, i))
				told[string(h.Kind)+" "+strconv.FormatBool(isNext)+" "+strconv.FormatBool(ok)]++
			}
		}
	}
	// What is drawn has to tell all that may be told.
	for _, kind := range []string{"x", "L", "K"} {
		for _, found := range []string{" false false", " true false", " true true"} {
			if told[kind+found] < 100 {
				t.Errorf("%s%s told %d times alone", kind, found, told[kind+found])
			}
		}
	}
}

func TestAgreesByWords(t *testing.T) {
	d := sample.Draw(7)
	texts := []string{"", "a", "b", "a", sample.Letters(99), sample.Letters(100), sample.Letters(101), sample.Letters(100) + "x", sample.Letters(99) + "xy"}
	agreed := 0
	for range 200000 {
		h := api.Header{Name: sample.One(&d, texts...), Link: sample.One(&d, texts...), Prefix: sample.One(&d, "", "", "", "d")}
		var own []api.Rec
		for range d.Below(4) {
			own = append(own, sample.Recs(sample.One(&d, "path", "linkpath", "uid"), sample.One(&d, texts...))...)
		}
		got := Agrees(h, own)
		if got != agreesByWords(h, own) {
			t.Fatalf("Agrees of %+v, %v = %v", h, own, got)
		}
		if got {
			agreed++
		}
	}
	if agreed < 1000 {
		t.Errorf("%d agreed alone", agreed)
	}
}

// Of a group whose first extension is there, and its main header, what these tell is told.
func TestWhatIsLeftIsTied(t *testing.T) {
	d := sample.Draw(5)
	for n := range 1000 {
		one, next := sample.Layered(&d, n), sample.Layered(&d, n+1)
		ahead := sample.Noughts(d.Below(3))
		x := sample.Image(ahead, one.Bytes, next.Bytes)
		at, main := len(ahead)/512, len(ahead)/512+one.Starts[3]
		for i := at + one.Starts[1]; i < main; i++ {
			x.Bad = append(x.Bad, i)
		}
		m, e := meta.From(one.Header, ownByWords(x, at), nil, nil, nil)
		if e != api.OK {
			t.Fatalf("no member of %+v", one.Header)
		}
		orphans(t, "what is left", x, at)
		follows(t, "what is left", x, at, main)
		reads(t, "what is left", x, at, nil, tied(at, main, 0, m))
		// Nor is it lost if nothing but the one in the middle is.
		x.Bad = x.Bad[:one.Starts[2]-one.Starts[1]]
		orphans(t, "what is left", x, at)
		m, e = meta.From(one.Header, pax.Merge(ownByWords(x, at), ownByWords(x, at+one.Starts[2])), nil, nil, nil)
		if e != api.OK {
			t.Fatalf("no member of %+v", one.Header)
		}
		reads(t, "all but the middle", x, at, nil, tied(at, main, 0, m))
		// Without its main header it is not tied to the next member, whose name is another one.
		followsNone(t, "its main header is lost", sample.Spoilt(x, main), at)
		readsNone(t, "its main header is lost", sample.Spoilt(x, main), at+one.Starts[2], nil)
	}
}

// Whichever blocks are lost: nothing is tied to a header that tells another name, and a member whose headers are all there keeps them.
func TestWhicheverAreLost(t *testing.T) {
	d := sample.Draw(12)
	isTied := 0
	for range 5000 {
		var x api.Image
		owner := map[int]int{}
		for n := range 1 + d.Below(4) {
			b := sample.Layered(&d, n).Bytes
			for i := range len(b) / 512 {
				owner[len(x.Bytes)/512+i] = n
				// What was lost is often a row of blocks.
				if len(x.Bad) > 0 && x.Bad[len(x.Bad)-1] == len(x.Bytes)/512+i-1 && d.Below(2) == 0 || d.Below(8) == 0 {
					x.Bad = append(x.Bad, len(x.Bytes)/512+i)
				}
			}
			x.Bytes = append(x.Bytes, b...)
		}
		x = sample.Cut(x, d.Below(2)*d.Below(1200))
		for i := range owner {
			g, ok := Read(x, i, nil)
			if !ok {
				continue
			}
			isTied++
			if owner[i] != owner[g.Main] {
				t.Fatalf("bad %v: the member %d is tied to a header of %d: %+v", x.Bad, owner[i], owner[g.Main], g)
			}
			if whole, e := group.Read(x, i, nil, nil); e == api.OK {
				t.Fatalf("bad %v: tied is %+v, that is whole: %+v", x.Bad, g, whole)
			}
		}
	}
	if isTied < 300 {
		t.Errorf("%d were tied alone", isTied)
	}
}

// What the library's own tar writer lays of a long link is tied where the second long text is lost.
func TestArchivesOfOthers(t *testing.T) {
	name, link := sample.Letters(250), "to/"+sample.Letters(300)
	var out bytes.Buffer
	w := tar.NewWriter(&out)
	if err := w.WriteHeader(&tar.Header{Format: tar.FormatGNU, Typeflag: tar.TypeSymlink, Name: name, Linkname: link, Mode: 0o777}); err != nil {
		t.Fatal(err)
	}
	w.Close()
	x := sample.Spoilt(sample.Image(out.Bytes()), 2, 3)
	h, e := head.Parse(x.Bytes[:512])
	if e != api.OK {
		t.Fatalf("no extension: %d", e)
	}
	m := api.Meta{Name: name, Link: link, Kind: api.Soft, Mode: 0o777}
	switch h.Kind {
	case api.LongName:
		m.Link = link[:100]
	case api.LongLink:
		m.Name = name[:100]
	}
	orphans(t, "others'", x, 0)
	reads(t, "others'", x, 0, nil, tied(0, 4, 0, m))
}
