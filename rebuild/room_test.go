package rebuild

import (
	"fmt"
	"testing"

	"mudlark/api"
	"mudlark/meta"
	"mudlark/sample"
)

// crowd are so many records, whose keys stand behind that of what was cut off.
func crowd(n int) []api.Rec {
	var l []api.Rec
	for i := range n {
		l = append(l, api.Rec{Key: fmt.Sprintf("k%04d", i), Value: "v"})
	}
	return l
}

// tells holds a file of 9 bytes, 3 of which are left, with records, against the same with those that there should be then.
func tells(t *testing.T, name string, m api.Meta, extra, want []api.Rec) {
	t.Helper()
	m.Size, m.Real, m.Extra = 9, 9, extra
	if m.Holes {
		m.Real = 20
	}
	left := m
	left.Size, left.Extra = 3, want
	if m.Holes {
		left.Parts = sample.Parts(1, 3)
	} else {
		left.Real = 3
	}
	is(t, name, sample.Image([]byte("0123")), api.Found{Data: 1, Len: 3, Partial: true, Meta: m}, member(left, []byte("123")))
}

// withRecord is l behind the record of what was cut off.
func withRecord(l []api.Rec) []api.Rec {
	return append(sample.Recs(partialText, "9"), l...)
}

// With more records than there may be, nothing is told of what was cut off, but it is all the same.
func TestRoomForRecords(t *testing.T) {
	a, long := api.Meta{Name: "a", Kind: api.File}, api.Meta{Name: sample.Letters(300), Kind: api.File, Uid: api.MaxNum, Mtime: api.Time{S: 1, N: 5}}
	tells(t, "room for one", a, crowd(999), withRecord(crowd(999)))
	tells(t, "no room", a, crowd(1000), crowd(1000))
	tells(t, "room in its place", a, append(sample.Recs(partialText, "2000"), crowd(999)...), withRecord(crowd(999)))
	tells(t, "no room anyhow", a, crowd(1001), crowd(1001))
	// Records of what has no room in the header count as well: a name, a number, a time.
	tells(t, "room beside others", long, crowd(996), withRecord(crowd(996)))
	tells(t, "no room beside others", long, crowd(997), crowd(997))
	// And so do the map of one with holes, and how long it is.
	holed := api.Meta{Name: "a", Kind: api.File, Holes: true, Parts: sample.Parts(1, 5, 10, 4)}
	tells(t, "room beside holes", holed, crowd(997), withRecord(crowd(997)))
	tells(t, "no room beside holes", holed, crowd(998), crowd(998))
}

// So with more bytes of them.
func TestRoomForBytes(t *testing.T) {
	const line = len("21 SALVAGE.partial=9\n")
	a := api.Meta{Name: "a", Kind: api.File}
	most := api.MaxExt - len("1048576 k=\n")
	for n, hasRoom := range map[int]bool{
		most - line - 1: true, most - line: true, most - line + 1: false, most - 1: false, most: false,
	} {
		l := sample.Recs("k", sample.Letters(n))
		want := l
		if hasRoom {
			want = withRecord(l)
		}
		tells(t, fmt.Sprintf("%d bytes", n), a, l, want)
		m := a
		m.Extra = l
		if _, _, e := meta.To(m); e != api.OK {
			t.Errorf("%d bytes have no room by themselves", n)
		}
	}
}

// What may not be written, whyever, has the records that it had, in whatever order they were.
func TestWhatMayNotBeStays(t *testing.T) {
	a := api.Meta{Name: "a", Kind: api.File}
	for _, l := range [][]api.Rec{
		nil, {}, sample.Recs("k", "v"), sample.Recs("z", "1", "a", "2"), sample.Recs("a", "1", "a", ""), sample.Recs(partialText, "20"),
	} {
		for name, m := range map[string]api.Meta{
			"ErrText":  {Kind: api.File},
			"a slash":  {Name: "d/", Kind: api.File},
			"a link":   {Name: "a", Link: "b", Kind: api.File},
			"ErrField": {Name: "a", Kind: api.File, Mode: -1},
			"a device": {Name: "a", Kind: api.File, Major: 1},
		} {
			tells(t, name, m, l, l)
		}
		for _, wrong := range [][]api.Rec{
			sample.Recs("path", "b"), sample.Recs("size", "3"), sample.Recs("GNU.sparse.map", "0,3"), sample.Recs("a b", "1"), sample.Recs("", "1"), sample.Recs("w", "\x00"),
		} {
			tells(t, "ErrRecs", a, append(wrong, l...), append(wrong, l...))
		}
	}
}

// What counts is what is left: of parts that may not be those that may; of such as may be none that may not.
func TestWhatIsLeftCounts(t *testing.T) {
	kv := sample.Recs("k", "v")
	a := api.Meta{Name: "a", Kind: api.File, Holes: true, Parts: sample.Parts(1, 4, 60, 5)}
	tells(t, "what can't be is cut off", a, kv, withRecord(kv))
	x := sample.Image([]byte("0123456789"))
	for _, c := range []struct{ parts, left []api.Part }{
		{sample.Parts(1, 2, 2, 7), sample.Parts(1, 2, 2, 1)},
		{sample.Parts(-1, 9), sample.Parts(-1, 3)},
		{sample.Parts(18, 9), sample.Parts(18, 3)},
		{sample.Parts(0, 0, 1, 9), sample.Parts(0, 0, 1, 3)},
		{sample.Parts(0, 1, 5, 1), sample.Parts(0, 1, 5, 1)},
		{nil, nil},
	} {
		m := sample.With(api.Meta{Name: "a", Kind: api.File, Size: 9, Real: 20, Holes: true, Parts: c.parts}, "z", "1", "a", "2")
		want := m
		want.Size, want.Parts = 3, c.left
		is(t, "what can't be is left", x, api.Found{Len: 3, Partial: true, Meta: m}, member(want, []byte("012")))
	}
}
