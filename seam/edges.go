package seam

import (
	"slices"

	"codend/api"
	"codend/netting"
)

// steps are the ways from a knot of an edge to the next one.
var steps = [8]api.Knot{
	{X: 1, Y: 1}, {X: 1, Y: -1}, {X: -1, Y: 1}, {X: -1, Y: -1},
	{X: 2, Y: 0}, {X: -2, Y: 0}, {X: 0, Y: 2}, {X: 0, Y: -2},
}

// knot is a knot that can be compared by its method.
type knot api.Knot

func (k knot) is(other api.Knot) bool {
	return api.Knot(k) == other
}

// CheckEdge returns the first error of an edge, or OK.
func CheckEdge(l []api.Knot) api.Errno {
	switch {
	case len(l) == 0:
		return api.ErrEmpty
	case len(l) > MaxMeshes:
		return api.ErrMany
	}
	for i, k := range l {
		if e := first(netting.CheckKnot(k), checkNew(l[:i], k), checkStep(l[:i], k)); e != api.OK {
			return e
		}
	}
	return api.OK
}

// checkNew returns ErrTwice if a knot is one of those before it.
func checkNew(before []api.Knot, k api.Knot) api.Errno {
	if slices.ContainsFunc(before, knot(k).is) {
		return api.ErrTwice
	}
	return api.OK
}

// checkStep returns ErrOpen if no step leads to a knot from the last one of those before it.
func checkStep(before []api.Knot, k api.Knot) api.Errno {
	if len(before) == 0 || isStep(before[len(before)-1], k) {
		return api.OK
	}
	return api.ErrOpen
}

func isStep(from, to api.Knot) bool {
	by := api.Knot{X: to.X - from.X, Y: to.Y - from.Y}
	for _, step := range steps {
		if by == step {
			return true
		}
	}
	return false
}

// Moved returns an edge that is shifted.
func Moved(l []api.Knot, dx, dy int) ([]api.Knot, api.Errno) {
	const far = 2 * api.MaxPlace
	if e := first(CheckEdge(l), checkRange(dx, -far, far), checkRange(dy, -far, far)); e != api.OK {
		return nil, e
	}
	moved := transformed(l, func(k api.Knot) api.Knot { return api.Knot{X: k.X + dx, Y: k.Y + dy} })
	if e := first(transformed(moved, netting.CheckKnot)...); e != api.OK {
		return nil, e
	}
	return moved, api.OK
}
