package taper

import (
	"iter"

	"codend/api"
	"codend/netting"
)

// leg is a letter of an edge, with the knots from and to which it leads.
type leg struct {
	letter rune
	from   api.Knot
	to     api.Knot
}

// legs visits the letters of an edge with their knots.
func legs(at api.Knot, w string, times int, out bool) iter.Seq[leg] {
	return func(yield func(leg) bool) {
		each := vectors()
		from := at
		for _, letter := range repeated(w, times) {
			to := further(from, each[letter], out)
			if !yield(leg{letter: letter, from: from, to: to}) {
				return
			}
			from = to
		}
	}
}

// further returns the knot to which a vector leads from a knot.
func further(k api.Knot, v [2]int, out bool) api.Knot {
	if out {
		return api.Knot{X: k.X + v[0], Y: k.Y + v[1]}
	}
	return api.Knot{X: k.X - v[0], Y: k.Y + v[1]}
}

func checkEdge(at api.Knot, w string, times int, out bool) api.Errno {
	if e := first(netting.CheckKnot(at), CheckWord(w), checkRange(times, 1, MaxWalk)); e != api.OK {
		return e
	}
	if len(w)*times > MaxWalk {
		return api.ErrLong
	}
	for l := range legs(at, w, times, out) {
		if netting.CheckKnot(l.to) != api.OK {
			return api.ErrOutside
		}
	}
	return api.OK
}

// Walk returns the knots of an edge.
func Walk(at api.Knot, w string, times int, out bool) ([]api.Knot, api.Errno) {
	if e := checkEdge(at, w, times, out); e != api.OK {
		return nil, e
	}
	knots := []api.Knot{at}
	for l := range legs(at, w, times, out) {
		knots = append(knots, l.to)
	}
	return knots, api.OK
}

// Bars returns the bars along an edge.
func Bars(at api.Knot, w string, times int, out bool) ([]api.Bar, api.Errno) {
	if e := checkEdge(at, w, times, out); e != api.OK {
		return nil, e
	}
	var bars []api.Bar
	for l := range legs(at, w, times, out) {
		if l.letter == bar {
			bars = append(bars, api.Bar{X: l.from.X, Y: l.from.Y, Side: l.to.X - l.from.X})
		}
	}
	return bars, api.OK
}

// Meshes returns the centres of the meshes that an edge goes through.
func Meshes(at api.Knot, w string, times int, out bool) ([][2]int, api.Errno) {
	if e := checkEdge(at, w, times, out); e != api.OK {
		return nil, e
	}
	var centres [][2]int
	for l := range legs(at, w, times, out) {
		if l.letter != bar {
			centres = append(centres, [2]int{(l.from.X + l.to.X) / 2, (l.from.Y + l.to.Y) / 2})
		}
	}
	return centres, api.OK
}
