package trawl

import (
	"iter"
	"slices"

	"codend/api"
)

// transformed returns a list with each element changed.
func transformed[T, U any](l []T, change func(T) U) []U {
	out := make([]U, 0, len(l))
	for _, x := range l {
		out = append(out, change(x))
	}
	return out
}

// with returns a copy of a list with one more element.
func with[T any](l []T, x T) []T {
	longer := make([]T, len(l)+1)
	copy(longer, l)
	longer[len(l)] = x
	return longer
}

func (t Trawl) side(e End) Side {
	return t.Panels[e.Panel].Sides[e.Side]
}

// sides visits the sides of a trawl, by panels, then by sides. A side names the corner at its beginning, too.
func (t Trawl) sides() iter.Seq[End] {
	return func(yield func(End) bool) {
		for panel, p := range t.Panels {
			for side := range p.Sides {
				if !yield(End{Panel: panel, Side: side}) {
					return
				}
			}
		}
	}
}

// mate is the side with which another one is sewn.
type mate struct {
	end     End
	twisted bool
}

// mates returns the mate of each side that is sewn.
func (t Trawl) mates() map[End]mate {
	mates := map[End]mate{}
	for _, s := range t.Seams {
		mates[s.A] = mate{end: s.B, twisted: s.Twisted}
		mates[s.B] = mate{end: s.A, twisted: s.Twisted}
	}
	return mates
}

// Free returns the sides that are in no seam.
func Free(t Trawl) ([]End, api.Errno) {
	if e := CheckTrawl(t); e != api.OK {
		return nil, e
	}
	return t.free(), api.OK
}

func (t Trawl) free() []End {
	mates := t.mates()
	var free []End
	for end := range t.sides() {
		if _, sewn := mates[end]; !sewn {
			free = append(free, end)
		}
	}
	return free
}

// Mate returns the side with which a side is sewn, and whether the seam is twisted.
func Mate(t Trawl, e End) (End, bool, api.Errno) {
	if err := first(CheckTrawl(t), t.checkEnd(e)); err != api.OK {
		return End{}, false, err
	}
	m, sewn := t.mates()[e]
	if !sewn {
		return End{}, false, api.ErrNone
	}
	return m.end, m.twisted, api.OK
}

// copied returns a trawl that shares no memory with this one.
func (t Trawl) copied() Trawl {
	panels := transformed(t.Panels, func(p Panel) Panel { return Panel{Name: p.Name, Sides: slices.Clone(p.Sides)} })
	return Trawl{Panels: panels, Seams: slices.Clone(t.Seams)}
}

// Sew returns the trawl with a seam more.
func Sew(t Trawl, s Seam) (Trawl, api.Errno) {
	if e := CheckTrawl(t); e != api.OK {
		return Trawl{}, e
	}
	sewn := t.copied()
	sewn.Seams = with(t.Seams, s)
	if e := CheckTrawl(sewn); e != api.OK {
		return Trawl{}, e
	}
	return sewn, api.OK
}

// Unsew returns the trawl without a seam.
func Unsew(t Trawl, seam int) (Trawl, api.Errno) {
	if e := first(CheckTrawl(t), checkIndex(seam, len(t.Seams))); e != api.OK {
		return Trawl{}, e
	}
	rest := t.copied()
	rest.Seams = slices.Delete(rest.Seams, seam, seam+1)
	return rest, api.OK
}

// Flip returns the trawl with a panel turned over.
func Flip(t Trawl, panel int) (Trawl, api.Errno) {
	if e := first(CheckTrawl(t), checkIndex(panel, len(t.Panels))); e != api.OK {
		return Trawl{}, e
	}
	flipped := t.copied()
	sides := flipped.Panels[panel].Sides
	slices.Reverse(sides)
	for i := range sides {
		sides[i].Rise = -sides[i].Rise
	}
	flipped.Seams = transformed(t.Seams, func(s Seam) Seam { return s.flipped(panel, len(sides)) })
	return flipped, api.OK
}

// flipped returns a seam after a panel with so many sides is flipped. Each of its sides there turns the seam round, so that two of them leave it as it was.
func (s Seam) flipped(panel, count int) Seam {
	for _, e := range [2]*End{&s.A, &s.B} {
		if e.Panel == panel {
			e.Side = count - 1 - e.Side
			s.Twisted = !s.Twisted
		}
	}
	return s
}
