package sample

import (
	"slices"
	"strconv"

	"mudlark/api"
	"mudlark/medium"
	"mudlark/pax"
)

// Fleet is an archive of members of other names each, with records for all between, any of whose blocks may be lost.
type Fleet struct {
	Bytes   []byte
	Members []Placed
	globals map[int]api.Rec // each at the first of its two blocks
}

// Placed is a member in an archive, and the block behind its headers.
type Placed struct {
	Found  api.Found
	Behind int
}

// NewFleet is one that is drawn.
func NewFleet(d *Draw) Fleet {
	f := Fleet{globals: map[int]api.Rec{}}
	for n := range 1 + d.Below(6) {
		at := len(f.Bytes) / api.Block
		switch d.Below(6) {
		case 0:
			r := api.Rec{Key: "for.all" + strconv.Itoa(d.Below(2)), Value: strconv.Itoa(n)}
			f.globals[at] = r
			f.Bytes = append(f.Bytes, Records(api.Global, r.Key, r.Value)...)
		case 1:
			one := Layered(d, n)
			f.place(one.Bytes, api.Member{Meta: one.Meta})
		default:
			m := Member(d)
			m.Meta.Name = numbered(n, m.Meta.Name)
			if m.Meta.Link != "" {
				m.Meta.Link = numbered(n, m.Meta.Link)
			}
			f.place(Written(m), m)
		}
	}
	f.Bytes = Archived(f.Bytes)
	return f
}

// place puts a member behind those that are there, as b has it.
func (f *Fleet) place(b []byte, m api.Member) {
	at := len(f.Bytes) / api.Block
	f.Bytes = append(f.Bytes, b...)
	data := len(f.Bytes) - len(Filled(m.Data))
	f.Members = append(f.Members, Placed{Found(at, data, m.Meta.Size, m.Meta), data / api.Block})
}

// numbered is a name that no member of another number has.
func numbered(n int, name string) string {
	return (strconv.Itoa(n) + name)[:min(len(name)+1, api.MaxPath)]
}

// Damaged is an image of which some is lost, as it is drawn.
func (f Fleet) Damaged(d *Draw) api.Image {
	x := Cut(Image(f.Bytes), d.Below(2)*d.Below(len(f.Bytes)))
	for i := range len(f.Bytes) / api.Block {
		// What was lost is often a row of blocks.
		if slices.Contains(x.Bad, i-1) && d.Below(2) == 0 || d.Below(9) == 0 {
			x.Bad = append(x.Bad, i)
		}
	}
	return x
}

// Left is what should be found of a member in an image of which some is lost; false: one of its headers is.
func (f Fleet) Left(one Placed, x api.Image) (api.Found, bool) {
	found := one.Found
	for i := found.At; i < one.Behind; i++ {
		if medium.Bad(x, i) || len(medium.Block(x, i)) < api.Block {
			return api.Found{}, false
		}
	}
	var l []api.Rec
	for i := range found.At {
		if r, ok := f.globals[i]; ok && !medium.Bad(x, i) && !medium.Bad(x, i+1) {
			l = append(l, r)
		}
	}
	found.Meta.Extra = pax.Merge(l, found.Meta.Extra)
	found.Len = min(found.Meta.Size, len(x.Bytes)-found.Data)
	found.Partial = found.Len < found.Meta.Size
	return found, true
}
