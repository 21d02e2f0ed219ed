package trawl

import (
	"slices"

	"codend/api"
)

// united returns the number of the group of each element, if both elements of each pair are in the same one. Groups are numbered in the order of their first elements.
func united[T comparable](elements []T, pairs [][2]T) map[T]int {
	group := map[T]int{}
	for i, x := range elements {
		group[x] = i
	}
	for _, pair := range pairs {
		unite(group, group[pair[0]], group[pair[1]])
	}
	return group
}

// unite gives one number to two groups. It is the lesser one, and the groups behind the greater one move up, so that the numbers stay in order and without gaps.
func unite[T comparable](group map[T]int, a, b int) {
	if a == b {
		return
	}
	for x, number := range group {
		switch {
		case number == max(a, b):
			group[x] = min(a, b)
		case number > max(a, b):
			group[x] = number - 1
		}
	}
}

// countOf returns how many groups there are.
func countOf[T comparable](group map[T]int) int {
	count := 0
	for _, number := range group {
		count = max(count, number+1)
	}
	return count
}

// cornersOf returns the corners at the beginning and at the end of a side.
func (t Trawl) cornersOf(e End) [2]End {
	return [2]End{e, t.next(Step{End: e}).End}
}

// points returns the number of the point of each corner.
func (t Trawl) points() map[End]int {
	var pairs [][2]End
	for _, s := range t.Seams {
		a, b := t.cornersOf(s.A), t.cornersOf(s.B)
		if !s.Twisted {
			b[0], b[1] = b[1], b[0]
		}
		pairs = append(pairs, [2]End{a[0], b[0]}, [2]End{a[1], b[1]})
	}
	return united(slices.Collect(t.sides()), pairs)
}

// perCorner returns for each panel the numbers of its corners.
func (t Trawl) perCorner(number func(corner End) int) [][]int {
	var all [][]int
	for panel, p := range t.Panels {
		var numbers []int
		for corner := range len(p.Sides) {
			numbers = append(numbers, number(End{Panel: panel, Side: corner}))
		}
		all = append(all, numbers)
	}
	return all
}

// Corners returns the number of the point of each corner.
func Corners(t Trawl) ([][]int, api.Errno) {
	if e := CheckTrawl(t); e != api.OK {
		return nil, e
	}
	points := t.points()
	return t.perCorner(func(corner End) int { return points[corner] }), api.OK
}

// pieces returns the number of the piece of each panel.
func (t Trawl) pieces() []int {
	var panels []int
	for i := range t.Panels {
		panels = append(panels, i)
	}
	number := united(panels, transformed(t.Seams, Seam.panels))
	return transformed(panels, func(panel int) int { return number[panel] })
}

func (s Seam) panels() [2]int {
	return [2]int{s.A.Panel, s.B.Panel}
}

// Pieces returns the number of the piece of each panel.
func Pieces(t Trawl) ([]int, api.Errno) {
	if e := CheckTrawl(t); e != api.OK {
		return nil, e
	}
	return t.pieces(), api.OK
}

// Count returns what a trawl consists of.
func Count(t Trawl) (Counts, api.Errno) {
	if e := CheckTrawl(t); e != api.OK {
		return Counts{}, e
	}
	return t.counts(), api.OK
}

func (t Trawl) counts() Counts {
	c := Counts{
		Points:   countOf(t.points()),
		Edges:    len(t.Seams) + len(t.free()),
		Panels:   len(t.Panels),
		Pieces:   slices.Max(t.pieces()) + 1,
		Openings: len(t.openings()),
	}
	c.Euler = c.Points - c.Edges + c.Panels
	return c
}

// split returns each piece as a trawl of its own.
func (t Trawl) split() []Trawl {
	pieces := t.pieces()
	all := make([]Trawl, slices.Max(pieces)+1)
	index := make([]int, len(t.Panels))
	for panel, p := range t.Panels {
		piece := &all[pieces[panel]]
		index[panel] = len(piece.Panels)
		piece.Panels = append(piece.Panels, p)
	}
	for _, s := range t.Seams {
		piece := &all[pieces[s.A.Panel]]
		s.A.Panel, s.B.Panel = index[s.A.Panel], index[s.B.Panel]
		piece.Seams = append(piece.Seams, s)
	}
	return all
}

// Kinds returns the kind of surface of each piece.
func Kinds(t Trawl) ([]Kind, api.Errno) {
	if e := CheckTrawl(t); e != api.OK {
		return nil, e
	}
	return transformed(t.split(), Trawl.kind), api.OK
}

// kind returns the kind of a trawl of one piece.
func (t Trawl) kind() Kind {
	c := t.counts()
	k := Kind{Twosided: len(t.twist()) == 0, Handles: 2 - c.Euler - c.Openings, Openings: c.Openings}
	if k.Twosided {
		k.Handles /= 2
	}
	return k
}
