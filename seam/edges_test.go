package seam_test

import (
	"testing"

	"codend/api"
	"codend/seam"
)

func TestLimits(t *testing.T) {
	want(t, "limits", []int{seam.MaxMeshes, seam.MaxPieces, seam.MaxJoins, seam.MaxSewn}, []int{256, 16, 1024, 8192})
}

// someEdges returns edges of many forms.
func someEdges() [][]api.Knot {
	return [][]api.Knot{
		edge(knot(0, 0), knot(1, 1), knot(0, 2), knot(0, 4)),
		edge(knot(-3, 7)),
		edge(knot(0, 0), knot(2, 0), knot(1, 1), knot(1, -1), knot(0, -2), knot(-2, -2), knot(-3, -1), knot(-3, 1), knot(-4, 0)), // it meets itself, but at no knot
		edge(knot(100000, 100000), knot(99999, 99999), knot(100000, 99998), knot(99998, 99998)),
		edge(knot(-100000, -100000), knot(-100000, -99998)),
		zigzag(3, -5, 255),
		zigzag(-4, -100000, 256),
	}
}

func TestCheckEdge(t *testing.T) {
	for _, l := range someEdges() {
		want(t, "CheckEdge", seam.CheckEdge(l), api.OK)
	}
	for _, bad := range badEdges() {
		want(t, "CheckEdge", seam.CheckEdge(bad.l), bad.e)
	}
}

// TestSteps tests all places near a knot.
func TestSteps(t *testing.T) {
	for dx := -5; dx <= 5; dx++ {
		for dy := -5; dy <= 5; dy++ {
			e := api.ErrOpen
			switch {
			case (dx+dy)%2 != 0:
				e = api.ErrLattice
			case dx == 0 && dy == 0:
				e = api.ErrTwice
			case dx*dx == 1 && dy*dy == 1, dx*dx == 4 && dy == 0, dx == 0 && dy*dy == 4:
				e = api.OK
			}
			for _, k := range []api.Knot{knot(0, 0), knot(-7, 3), knot(99000, -99000)} {
				to := knot(k.X+dx, k.Y+dy)
				want(t, "CheckEdge of a step", seam.CheckEdge(edge(k, to)), e)
				if e == api.OK {
					want(t, "CheckEdge of a step there and back", seam.CheckEdge(edge(k, to, k)), api.ErrTwice)
				}
			}
		}
	}
}

func TestMoved(t *testing.T) {
	for _, row := range []struct {
		l      []api.Knot
		dx, dy int
		moved  []api.Knot
		e      api.Errno
	}{
		{edge(knot(0, 0), knot(1, 1)), 1, 1, edge(knot(1, 1), knot(2, 2)), api.OK},
		{edge(knot(0, 0), knot(1, 1)), 0, 0, edge(knot(0, 0), knot(1, 1)), api.OK},
		{edge(knot(0, 0), knot(1, 1)), -4, 2, edge(knot(-4, 2), knot(-3, 3)), api.OK},
		{edge(knot(0, 0), knot(1, 1)), -3, 7, edge(knot(-3, 7), knot(-2, 8)), api.OK},
		{edge(knot(-100000, 0)), 200000, 0, edge(knot(100000, 0)), api.OK},
		{edge(knot(0, 100000)), 0, -200000, edge(knot(0, -100000)), api.OK},
		{edge(knot(-100000, 0)), 200001, 0, nil, api.ErrRange},
		{edge(knot(0, 100000)), 0, -200001, nil, api.ErrRange},
		{edge(knot(0, 0), knot(1, 1)), 1, 0, nil, api.ErrLattice},
		{edge(knot(0, 0), knot(1, 1)), 0, -1, nil, api.ErrLattice},
		{edge(knot(99998, 0), knot(99999, 1)), 1, 1, edge(knot(99999, 1), knot(100000, 2)), api.OK},
		{edge(knot(99998, 0), knot(99999, 1)), 2, 0, nil, api.ErrRange},   // the second knot alone
		{edge(knot(99999, 1), knot(99998, 0)), 2, 0, nil, api.ErrRange},   // the first one alone
		{edge(knot(99998, 0), knot(99999, 1)), 2, 1, nil, api.ErrLattice}, // the first knot decides
		{edge(knot(99999, 1), knot(99998, 0)), 2, 1, nil, api.ErrRange},
		{edge(knot(1, -99999), knot(0, -100000)), 1, -1, nil, api.ErrRange},
	} {
		moved, e := seam.Moved(row.l, row.dx, row.dy)
		want(t, "Moved", moved, row.moved)
		want(t, "Moved: error", e, row.e)
	}
}

func TestMovedByDefinition(t *testing.T) {
	for _, l := range someEdges() {
		for _, dx := range extremes() {
			for _, dy := range extremes() {
				got, gotError := seam.Moved(l, dx, dy)
				moved, e := movedBy(l, dx, dy)
				want(t, "Moved", got, moved)
				want(t, "Moved: error", gotError, e)
			}
		}
	}
}

// movedBy moves an edge knot by knot.
func movedBy(l []api.Knot, dx, dy int) ([]api.Knot, api.Errno) {
	for _, d := range []int{dx, dy} {
		if d < -200000 || d > 200000 {
			return nil, api.ErrRange
		}
	}
	var moved []api.Knot
	for _, k := range l {
		x, y := k.X+dx, k.Y+dy
		if x < -100000 || x > 100000 || y < -100000 || y > 100000 {
			return nil, api.ErrRange
		}
		if (x+y)%2 != 0 {
			return nil, api.ErrLattice
		}
		moved = append(moved, knot(x, y))
	}
	return moved, api.OK
}

func TestMovedOfBadEdges(t *testing.T) {
	for _, bad := range badEdges() {
		for _, d := range []int{0, 1, 200001, -1 << 63} {
			moved, e := seam.Moved(bad.l, d, d)
			want(t, "Moved", moved, []api.Knot(nil))
			want(t, "Moved: error", e, bad.e)
		}
	}
}
