package trawl

import (
	"iter"
	"slices"
)

// A link leads from a place to another one, which is higher by its rise: a side from point to point, or a seam from panel to panel.
type link struct {
	ends [2]int
	rise int
}

// turned returns a link from its end to its beginning.
func (l link) turned() link {
	return link{ends: [2]int{l.ends[1], l.ends[0]}, rise: -l.rise}
}

// A hop goes along the link with an index, or back along it.
type hop struct {
	link int
	back bool
}

func (h hop) turned() hop {
	return hop{link: h.link, back: !h.back}
}

// A reach is how a place is reached from the least one of its piece: how much it is higher, and the way.
type reach struct {
	known bool
	rise  int
	way   []hop
}

// A web is places that are reached by links.
type web struct {
	links   []link
	reached []reach
}

// newWeb reaches so many places by links.
func newWeb(count int, links []link) web {
	w := web{links: links, reached: make([]reach, count)}
	for place := range count {
		if !w.reached[place].known {
			w.spread(place)
		}
	}
	return w
}

// spread reaches all places to which links lead from one, the nearest ones first.
func (w web) spread(from int) {
	w.reached[from].known = true
	for open := []int{from}; len(open) > 0; open = open[1:] {
		for h, l := range w.hops() {
			at, to := w.reached[open[0]], l.ends[1]
			if l.ends[0] == open[0] && !w.reached[to].known {
				w.reached[to] = reach{known: true, rise: at.rise + l.rise, way: with(at.way, h)}
				open = append(open, to)
			}
		}
	}
}

// hops visits the links, each along it and back.
func (w web) hops() iter.Seq2[hop, link] {
	return func(yield func(hop, link) bool) {
		for i, l := range w.links {
			h := hop{link: i}
			if !yield(h, l) || !yield(h.turned(), l.turned()) {
				return
			}
		}
	}
}

// contradiction returns a way from a place to itself with a rise that contradicts, or nothing if there is none: it would have a link that contradicts the ways to its ends.
func (w web) contradiction(contradicts func(rise int) bool) []hop {
	for i, l := range w.links {
		from, to := w.reached[l.ends[0]], w.reached[l.ends[1]]
		if contradicts(from.rise + l.rise - to.rise) {
			return slices.Concat(from.way, []hop{{link: i}}, backwards(to.way))
		}
	}
	return nil
}

func backwards(way []hop) []hop {
	back := transformed(way, hop.turned)
	slices.Reverse(back)
	return back
}
