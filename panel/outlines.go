package panel

import (
	"codend/api"
)

const (
	point = 'N'
	bar   = 'B'
	mesh  = 'T'
)

// side is one of the two sides of a panel.
type side struct {
	edges []Edge
	right bool
}

// step is a letter of a side, and whether its edge leads outwards.
type step struct {
	letter rune
	out    bool
}

// sides returns the left and the right side of a panel.
func sides(p Panel) [2]side {
	return [2]side{{edges: p.Left}, {edges: p.Right, right: true}}
}

// steps visits the letters of a side from below.
func (s side) steps(yield func(step) bool) {
	for _, e := range s.edges {
		for range e.Times {
			for _, letter := range e.Word {
				if !yield(step{letter: letter, out: e.Out}) {
					return
				}
			}
		}
	}
}

// next returns the place to which a step leads from another one.
func (s side) next(from api.Knot, by step) api.Knot {
	way := -1
	if by.out == s.right {
		way = 1
	}
	switch by.letter {
	case point:
		return api.Knot{X: from.X, Y: from.Y + 2}
	case bar:
		return api.Knot{X: from.X + way, Y: from.Y + 1}
	}
	return api.Knot{X: from.X + 2*way, Y: from.Y}
}

// outline returns the places of the outline that begins at a place.
func (s side) outline(at api.Knot) []api.Knot {
	places := []api.Knot{at}
	for by := range s.steps {
		at = s.next(at, by)
		places = append(places, at)
	}
	return places
}

// outlines returns the places of the left and of the right outline.
func outlines(p Panel) [2][]api.Knot {
	both := sides(p)
	return [2][]api.Knot{both[0].outline(api.Knot{}), both[1].outline(api.Knot{X: 2 * p.Width})}
}

func last(places []api.Knot) api.Knot {
	return places[len(places)-1]
}

func heightOf(places []api.Knot) int {
	return last(places).Y
}

// trace returns the places of an outline together with the middles of its steps N, so that it has a place in each row.
func trace(places []api.Knot) []api.Knot {
	var all []api.Knot
	for i, k := range places {
		if i > 0 && k.Y == places[i-1].Y+2 {
			all = append(all, api.Knot{X: k.X, Y: k.Y - 1})
		}
		all = append(all, k)
	}
	return all
}

// extents returns the least and the greatest X in each row of knots that begin in row 0, never lead down, and leave out no row.
func extents(knots []api.Knot) [][2]int {
	var rows [][2]int
	for _, k := range knots {
		if k.Y == len(rows) {
			rows = append(rows, [2]int{k.X, k.X})
		}
		row := rows[k.Y]
		rows[k.Y] = [2]int{min(row[0], k.X), max(row[1], k.X)}
	}
	return rows
}

// span returns the least and the greatest X of both outlines.
func span(lines [2][]api.Knot) (int, int) {
	least, greatest := 0, 0
	for _, places := range lines {
		for _, k := range places {
			least, greatest = min(least, k.X), max(greatest, k.X)
		}
	}
	return least, greatest
}

// Height returns the number of strips of a panel.
func Height(p Panel) (int, api.Errno) {
	if e := CheckPanel(p); e != api.OK {
		return 0, e
	}
	return heightOf(outlines(p)[0]), api.OK
}

// Outline returns the places of the left or the right outline.
func Outline(p Panel, right bool) ([]api.Knot, api.Errno) {
	if e := CheckPanel(p); e != api.OK {
		return nil, e
	}
	lines := outlines(p)
	if right {
		return lines[1], api.OK
	}
	return lines[0], api.OK
}

// Corners returns the lower and the upper corners of a panel.
func Corners(p Panel) ([4]api.Knot, api.Errno) {
	if e := CheckPanel(p); e != api.OK {
		return [4]api.Knot{}, e
	}
	return cornersOf(p), api.OK
}

func cornersOf(p Panel) [4]api.Knot {
	lines := outlines(p)
	return [4]api.Knot{lines[0][0], lines[1][0], last(lines[0]), last(lines[1])}
}

// upperWidth returns half the distance of the upper corners.
func upperWidth(p Panel) int {
	corners := cornersOf(p)
	return (corners[3].X - corners[2].X) / 2
}

// Strips returns the strips of a panel from below.
func Strips(p Panel) ([]Strip, api.Errno) {
	if e := CheckPanel(p); e != api.OK {
		return nil, e
	}
	return stripsOf(p), api.OK
}

func stripsOf(p Panel) []Strip {
	lines := outlines(p)
	left, right := climbs(lines[0]), climbs(lines[1])
	strip := func(y int) Strip {
		return Strip{Low: [2]int{left[y][0], right[y][0]}, Up: [2]int{left[y][1], right[y][1]}}
	}
	var strips []Strip
	for y := range heightOf(lines[0]) {
		strips = append(strips, strip(y))
	}
	return strips
}

// climbs returns the lower and the upper X of an outline in each strip.
func climbs(places []api.Knot) [][2]int {
	var pairs [][2]int
	all := trace(places)
	for i, k := range all[1:] {
		if before := all[i]; before.Y < k.Y {
			pairs = append(pairs, [2]int{before.X, k.X})
		}
	}
	return pairs
}

// Area returns the doubled area of a panel.
func Area(p Panel) (int, api.Errno) {
	if e := CheckPanel(p); e != api.OK {
		return 0, e
	}
	area := 0
	for _, s := range stripsOf(p) {
		area += s.Low[1] - s.Low[0] + s.Up[1] - s.Up[0]
	}
	return area, api.OK
}

// Letters returns how many letters N, B and T both sides have.
func Letters(p Panel) ([3]int, api.Errno) {
	if e := CheckPanel(p); e != api.OK {
		return [3]int{}, e
	}
	count := map[rune]int{}
	for _, s := range sides(p) {
		for by := range s.steps {
			count[by.letter]++
		}
	}
	return [3]int{count[point], count[bar], count[mesh]}, api.OK
}
