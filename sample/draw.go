package sample

import "mudlark/api"

// Draw goes through a row of numbers that look drawn, and are the same each time.
type Draw uint64

// Below is the next one, below n.
func (d *Draw) Below(n int) int {
	*d = *d*6364136223846793005 + 1442695040888963407
	return int(uint64(*d)>>33) % n
}

// One is a thing of a list, drawn.
func One[T any](d *Draw, l ...T) T {
	return l[d.Below(len(l))]
}

// Member is one that may be, drawn; Meta is what is known of one.
func Member(d *Draw) api.Member {
	m := Meta(d)
	return api.Member{Meta: m, Data: Some(m.Size)}
}

func Meta(d *Draw) api.Meta {
	m := api.Meta{
		Kind: One(d, []byte("0000123456")...), Name: One(d, "a", "d/a", Letters(100), Letters(90)+"/"+Letters(90), Letters(300), Letters(api.MaxPath)),
		Mode: One(d, 0, 0o644, 2097151), Uid: One(d, 0, 1000, 2097151, 2097152, api.MaxNum), Gid: One(d, 0, 5, 1<<40),
		User: One(d, "", "u", Letters(33), "é"), Group: One(d, "", "g", Letters(api.MaxPath)),
		Mtime: One(d, api.Time{}, api.Time{S: 7}, api.Time{S: 1 << 40}, api.Time{S: -1}, api.Time{S: 5, N: 5}),
		Extra: One(d, nil, Recs("k", "v"), Recs("A", "1", "zz", Letters(5000))),
	}
	switch m.Kind {
	case api.File:
		m.Size = One(d, 0, 1, 511, 512, 513, 3000)
		m.Real = m.Size
		if d.Below(3) == 0 {
			m.Holes, m.Real, m.Parts = true, m.Size+50, holed(m.Size)
		}
	case api.Hard, api.Soft:
		m.Link = One(d, "l", "../l", Letters(101), Letters(api.MaxPath))
	case api.Char, api.Device:
		m.Major, m.Minor = One(d, 0, 4, 2097151), One(d, 0, 64)
	}
	return m
}

// holed are parts of so many bytes together, with holes ahead, between and behind.
func holed(size int) []api.Part {
	switch size {
	case 0:
		return nil
	case 1:
		return Parts(7, 1)
	}
	return Parts(7, 1, 9, size-1)
}
