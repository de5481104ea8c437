package sample

import (
	"slices"
	"strconv"

	"mudlark/api"
	"mudlark/meta"
)

// Draw goes through a row of numbers that look drawn, and are the same each time.
type Draw uint64

// Below is the next one, below n.
func (d *Draw) Below(n int) int {
	*d = *d*6364136223846793005 + 1442695040888963407
	return int(uint64(*d)>>33) % n
}

// One is a thing of a list, drawn.
func One[T any](d *Draw, l ...T) T {
	return l[d.Below(len(l))]
}

// Member is one that may be, drawn; Meta is what is known of one.
func Member(d *Draw) api.Member {
	m := Meta(d)
	return api.Member{Meta: m, Data: Some(m.Size)}
}

func Meta(d *Draw) api.Meta {
	m := api.Meta{
		Kind: One(d, []byte("0000123456")...), Name: One(d, "a", "d/a", Letters(100), Letters(90)+"/"+Letters(90), Letters(300), Letters(api.MaxPath)),
		Mode: One(d, 0, 0o644, 2097151), Uid: One(d, 0, 1000, 2097151, 2097152, api.MaxNum), Gid: One(d, 0, 5, 1<<40),
		User: One(d, "", "u", Letters(33), "é"), Group: One(d, "", "g", Letters(api.MaxPath)),
		Mtime: One(d, api.Time{}, api.Time{S: 7}, api.Time{S: 1 << 40}, api.Time{S: -1}, api.Time{S: 5, N: 5}),
		Extra: One(d, nil, Recs("k", "v"), Recs("A", "1", "zz", Letters(5000))),
	}
	switch m.Kind {
	case api.File:
		m.Size = One(d, 0, 1, 511, 512, 513, 3000)
		m.Real = m.Size
		if d.Below(3) == 0 {
			m.Holes, m.Real, m.Parts = true, m.Size+50, holed(m.Size)
		}
	case api.Hard, api.Soft:
		m.Link = One(d, "l", "../l", Letters(101), Letters(api.MaxPath))
	case api.Char, api.Device:
		m.Major, m.Minor = One(d, 0, 4, 2097151), One(d, 0, 64)
	}
	return m
}

// holed are parts of so many bytes together, with holes ahead, between and behind.
func holed(size int) []api.Part {
	switch size {
	case 0:
		return nil
	case 1:
		return Parts(7, 1)
	}
	return Parts(7, 1, 9, size-1)
}

// Facts are records, mostly of what is known, drawn.
func Facts(d *Draw) []api.Rec {
	var l []api.Rec
	for range d.Below(4) {
		l = append(l, Recs(One(d, "path", "linkpath", "uid", "size", "size", "mtime", "k", "z", "uname"), One(d, "0", "1", "600", "5", "", "7", "1025", "x"))...)
	}
	return l
}

// Piece is blocks that may stand in an archive, or what is left of them, drawn; Wreck is an image of such ones, cut off somewhere, with blocks that are bad.
func Piece(d *Draw) []byte {
	switch d.Below(12) {
	case 0, 1, 2:
		return Extension('x', One(d, Lines(Facts(d)), Lines(Facts(d)), Lines(Recs("k", Letters(600))), "x", Lines(Recs("GNU.sparse.map", "0,5,10,2", "GNU.sparse.size", "12", "size", "7"))))
	case 3:
		return Extension('L', One(d, "n", Letters(120), Letters(700), "d/", "d/n\x00x", ""))
	case 4:
		return Extension('K', One(d, "n", Letters(120), Letters(700), "to\x00", ""))
	case 5:
		return Extension('g', One(d, Lines(Facts(d)), Lines(Recs("k", Letters(600))), "", "x"))
	case 6, 7:
		return Main(One(d, []byte("00001234567")...), One(d, "a", "a", "d/", ""), One(d, 0, 3, 512, 600, 1<<40))
	case 8:
		return Main(One(d, []byte("xLKg")...), "cut", One(d, 1, 512, 600, 5000, api.MaxExt, api.MaxExt+1))
	case 9, 10:
		b := Holed(2, 50, true, Parts(0, 1)...)
		for range d.Below(3) {
			b = append(b, Further(1, One(d, nil, Parts(3, 0), Parts(5, 1))...)...)
		}
		return append(b, Further(0, One(d, nil, Parts(7, 1), Parts(9, 2))...)...)
	}
	return One(d, make([]byte, 512), Some(512), Unsealed(Main('0', "a", 0)), Changed(Main('x', "a", 6), 156, "N"))
}

func Wreck(d *Draw) api.Image {
	var x api.Image
	for range 1 + d.Below(6) {
		x.Bytes = append(x.Bytes, Piece(d)...)
	}
	if d.Below(4) == 0 {
		x = Cut(x, d.Below(1200)%len(x.Bytes))
	}
	for range d.Below(3) * d.Below(2) {
		x.Bad = append(x.Bad, d.Below(len(x.Bytes)/512+3)-1)
	}
	return x
}

// Layers is a member in an archive, what is known of it, and at which of its blocks each of its extensions begins, and the main header.
type Layers struct {
	Bytes  []byte
	Starts []int
	Header api.Header
	Meta   api.Meta
}

// Layered is a link with a long name and records, whose extensions stand in an order that is drawn; of another number it has other names.
func Layered(d *Draw, number int) Layers {
	name := strconv.Itoa(number) + Letters(150)
	m := api.Meta{Name: name, Link: "to/" + name, Kind: One(d, api.Soft, api.Hard), Uid: 5, Extra: Recs("k", "v"+name)}
	h, l, e := meta.To(m)
	if e != api.OK {
		panic("no header of " + name)
	}
	extensions := [][]byte{Extension(api.Local, Lines(l)), Extension(api.LongName, m.Name+"\x00"), Extension(api.LongLink, m.Link+"\x00")}
	whole := Layers{Header: h, Meta: m}
	for len(extensions) > 0 {
		at := d.Below(len(extensions))
		whole.Starts = append(whole.Starts, len(whole.Bytes)/api.Block)
		whole.Bytes = append(whole.Bytes, extensions[at]...)
		extensions = slices.Delete(extensions, at, at+1)
	}
	whole.Starts = append(whole.Starts, len(whole.Bytes)/api.Block)
	whole.Bytes = append(whole.Bytes, Laid(h)...)
	return whole
}

// Shard is what may stand in an archive of which headers were lost, drawn: such an orphan and such a header often agree.
func Shard(d *Draw) []byte {
	names := []string{"a", "a", "a", Letters(100), Letters(101), "b"}
	name := One(d, names...)
	switch d.Below(8) {
	case 0:
		return Extension(api.Local, Lines(append(Facts(d), Recs("path", name)...)))
	case 1:
		return Records(api.Local, "linkpath", name, One(d, "k", "path"), One(d, "", "a"))
	case 2:
		return Extension(api.LongName, name+One(d, "", "\x00", "\x00a"))
	case 3:
		return Extension(api.LongLink, name)
	case 4, 5, 6:
		h := Named(One(d, api.File, api.File, api.Soft), front(name), One(d, 0, 600))
		h.Link = front(One(d, names...))
		if d.Below(6) == 0 {
			h.Way, h.Prefix = api.Ustar, One(d, "", "d")
		}
		return Laid(h)
	}
	return Piece(d)
}

// front is as much of a name as a header has room for.
func front(name string) string {
	return name[:min(len(name), 100)]
}

// Shards is an image of such pieces, some of which were lost, as a whole or a block of them.
func Shards(d *Draw) api.Image {
	var x api.Image
	for range 2 + d.Below(6) {
		b, at := Shard(d), len(x.Bytes)/512
		switch d.Below(5) {
		case 0, 1:
			for i := range len(b) / 512 {
				x.Bad = append(x.Bad, at+i)
			}
		case 2:
			x.Bad = append(x.Bad, at+d.Below(1+len(b)/512))
		}
		x.Bytes = append(x.Bytes, b...)
	}
	if d.Below(4) == 0 {
		x = Cut(x, d.Below(1200)%len(x.Bytes))
	}
	if d.Below(4) == 0 {
		slices.Reverse(x.Bad)
	}
	return x
}

// Anything is an image of either's pieces, with others behind and another byte somewhere, as it is drawn.
func Anything(d *Draw) api.Image {
	x := Wreck(d)
	if d.Below(2) == 0 {
		x = Shards(d)
	}
	if d.Below(3) == 0 {
		x = Image(x.Bytes, Noughts(d.Below(4)), Some(d.Below(600)))
	}
	if at := d.Below(len(x.Bytes)); d.Below(3) == 0 {
		x.Bytes[at] ^= byte(1 + d.Below(255))
	}
	return x
}

// around is what may lie beside a member: noughts, other bytes, pieces of archives, with other bytes here and there.
func around(d *Draw) []byte {
	var b []byte
	switch d.Below(4) {
	case 0:
		b = Noughts(d.Below(4))
	case 1:
		b = make([]byte, api.Block*d.Below(4))
		for i := range b {
			b[i] = byte(d.Below(256))
		}
	default:
		b = Piece(d)
	}
	for range d.Below(3) * d.Below(9) {
		if len(b) > 0 {
			b[d.Below(len(b))] ^= byte(1 + d.Below(255))
		}
	}
	return b
}

// Amid is an image in which a member's own blocks lie as they were, and at which of them, with things around, some of which are bad.
func Amid(d *Draw, own []byte) (api.Image, int) {
	ahead, behind := around(d), around(d)
	x := Image(ahead, own, behind)
	at, next := len(ahead)/api.Block, (len(ahead)+len(own))/api.Block
	for i := range len(x.Bytes) / api.Block {
		if (i < at || i >= next) && d.Below(4) == 0 {
			x.Bad = append(x.Bad, i)
		}
	}
	return x, at
}
