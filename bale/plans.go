package bale

import (
	"codend/api"
	"codend/netting"
	"codend/panel"
)

// Gap returns the least number at which one piece is apart on the right of another one.
func Gap(a, b panel.Panel) (int, api.Errno) {
	if e := first(checkPiece(nil, a), checkPiece(nil, b)); e != api.OK {
		return 0, e
	}
	return gap(shapeOf(a), shapeOf(b)), api.OK
}

// gapsOf returns a function for the gaps of pieces as they lie. It measures each gap once: a search asks for it many times.
func gapsOf(pieces lot) func(other, p Place) int {
	known := map[[2]Place]int{}
	return func(other, p Place) int {
		pair := [2]Place{way(other), way(p)}
		n, found := known[pair]
		if !found {
			n = gap(pieces.shape(other), pieces.shape(p))
			known[pair] = n
		}
		return n
	}
}

// way returns the place 0 for a piece as it lies.
func way(p Place) Place {
	return Place{Piece: p.Piece, Turned: p.Turned}
}

// layerOf returns a function that lays a piece behind a plan, at the least even number that is possible.
func layerOf(pieces lot) func(plan []Place, next Place) []Place {
	gaps := gapsOf(pieces)
	return func(plan []Place, next Place) []Place {
		next.At = evenUp(-pieces.shape(next).least)
		for _, p := range plan {
			next.At = max(next.At, p.At+gaps(p, next))
		}
		return with(plan, next)
	}
}

// with returns a copy of a plan with one more place.
func with(plan []Place, p Place) []Place {
	longer := make([]Place, len(plan)+1)
	copy(longer, plan)
	longer[len(plan)] = p
	return longer
}

// laid returns the plan for an order.
func laid(order []Place, lay func(plan []Place, next Place) []Place) []Place {
	var plan []Place
	for _, next := range order {
		plan = lay(plan, next)
	}
	return plan
}

// Lay returns the plan for an order of pieces.
func Lay(l []panel.Panel, order []Place) ([]Place, api.Errno) {
	if e := checkLaid(l, order); e != api.OK {
		return nil, e
	}
	return laid(order, layerOf(lotOf(l))), api.OK
}

// Length returns the length of a plan.
func Length(l []panel.Panel, plan []Place) (int, api.Errno) {
	if e := checkLaid(l, plan); e != api.OK {
		return 0, e
	}
	return lotOf(l).length(plan), api.OK
}

// Nets returns the nets of the places of a plan.
func Nets(l []panel.Panel, plan []Place) ([][]api.Bar, api.Errno) {
	if e := checkLaid(l, plan); e != api.OK {
		return nil, e
	}
	var nets [][]api.Bar
	for _, p := range plan {
		net, e := netAt(l[p.Piece], p)
		if e != api.OK {
			return nil, e
		}
		nets = append(nets, net)
	}
	return nets, api.OK
}

// netAt returns the net of a piece that has been checked at its place, or an error if it leaves the lattice.
func netAt(piece panel.Panel, p Place) ([]api.Bar, api.Errno) {
	net, _ := panel.Net(lying(piece, p.Turned))
	return netting.Shift(net, api.Knot{X: p.At})
}
