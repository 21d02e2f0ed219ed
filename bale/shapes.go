package bale

import (
	"slices"

	"codend/api"
	"codend/panel"
)

// The indices of the outlines in the places of a strip.
const (
	leftSide  = 0
	rightSide = 1
)

// shape is what lies at the place 0: the strips of a panel, and the least and the greatest X of its outlines.
type shape struct {
	strips   []panel.Strip
	least    int
	greatest int
}

// shapeOf returns the shape of a panel that has been checked.
func shapeOf(p panel.Panel) shape {
	strips, _ := panel.Strips(p)
	left, _ := panel.Outline(p, false)
	right, _ := panel.Outline(p, true)
	places := transformed(slices.Concat(left, right), func(k api.Knot) int { return k.X })
	return shape{strips: strips, least: slices.Min(places), greatest: slices.Max(places)}
}

// transformed returns a list with each element changed.
func transformed[T, U any](l []T, change func(T) U) []U {
	out := make([]U, 0, len(l))
	for _, x := range l {
		out = append(out, change(x))
	}
	return out
}

// piece is a panel that can lie either way.
type piece panel.Panel

func (p piece) upright() panel.Panel {
	return panel.Panel(p)
}

// turned needs a piece that has been checked, so that there is no error.
func (p piece) turned() panel.Panel {
	turned, _ := panel.Turn(panel.Panel(p))
	return turned
}

// lying returns a piece as it lies.
func lying(p panel.Panel, turned bool) panel.Panel {
	way := piece.upright
	if turned {
		way = piece.turned
	}
	return way(piece(p))
}

// lot is the shapes of pieces, not turned and turned.
type lot [][2]shape

func lotOf(l []panel.Panel) lot {
	return transformed(l, func(p panel.Panel) [2]shape {
		return [2]shape{shapeOf(lying(p, false)), shapeOf(lying(p, true))}
	})
}

// shape returns the shape of the piece of a place as it lies.
func (l lot) shape(p Place) shape {
	if p.Turned {
		return l[p.Piece][1]
	}
	return l[p.Piece][0]
}

// length returns the length of a plan. It is a number of meshes, so that it is not below 0 wherever the pieces lie.
func (l lot) length(plan []Place) int {
	greatest := 0
	for _, p := range plan {
		greatest = max(greatest, p.At+l.shape(p).greatest)
	}
	return halfUp(greatest)
}

// halfUp returns half of a number that is not below 0, rounded upwards.
func halfUp(n int) int {
	return (n + 1) / 2
}

// evenUp returns the least even number that is not below another one.
func evenUp(n int) int {
	return n + n&1
}

// ends returns the lower and the upper place of an outline in a strip, with a number added.
func ends(s panel.Strip, side, at int) [2]int {
	return [2]int{s.Low[side] + at, s.Up[side] + at}
}

// apart reports whether a shape at a number is apart on the right of another one at 0.
func apart(other, s shape, at int) bool {
	for y := range min(len(other.strips), len(s.strips)) {
		edge, next := ends(other.strips[y], rightSide, 0), ends(s.strips[y], leftSide, at)
		// Where both follow the same bar, both nets have it.
		if edge[0] > next[0] || edge[1] > next[1] || edge == next && next[0] != next[1] {
			return false
		}
	}
	return true
}

// gap returns the least even number at which a shape is apart on the right of another one at 0.
func gap(other, s shape) int {
	at := evenUp(overlap(other, s))
	if apart(other, s, at) {
		return at
	}
	// Only a common bar can be left, and one mesh further there is none.
	return at + 2
}

// overlap returns the greatest number by which the right outline of a shape is beyond the left outline of another one.
func overlap(other, s shape) int {
	var beyond []int
	for y := range min(len(other.strips), len(s.strips)) {
		edge, next := ends(other.strips[y], rightSide, 0), ends(s.strips[y], leftSide, 0)
		beyond = append(beyond, edge[0]-next[0], edge[1]-next[1])
	}
	return slices.Max(beyond)
}
