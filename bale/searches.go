package bale

import (
	"slices"

	"codend/api"
	"codend/panel"
)

// orders visits the orders of all of some pieces, each turned or not, in ascending order.
func orders(count int) func(yield func([]Place) bool) {
	return func(yield func([]Place) bool) {
		goOn(nil, ways(count), yield)
	}
}

// ways returns the ways of some pieces, in ascending order.
func ways(count int) []Place {
	var all []Place
	for piece := range count {
		all = append(all, Place{Piece: piece}, Place{Piece: piece, Turned: true})
	}
	return all
}

// goOn visits the orders that begin in one way, and reports whether more of them are wanted.
func goOn(begun, all []Place, yield func([]Place) bool) bool {
	if 2*len(begun) == len(all) {
		return yield(begun)
	}
	for _, next := range all {
		if !isTaken(begun, next) && !goOn(with(begun, next), all, yield) {
			return false
		}
	}
	return true
}

// isTaken reports whether an order has a piece already, in this way or in the other one.
func isTaken(order []Place, p Place) bool {
	return slices.ContainsFunc(order, func(other Place) bool { return other == p || other == turnedOver(p) })
}

// turnedOver returns the other way of a piece.
func turnedOver(p Place) Place {
	return Place{Piece: p.Piece, Turned: !p.Turned}
}

// Best returns the shortest plan of all pieces, and its length.
func Best(b Bale, l []panel.Panel) ([]Place, int, api.Errno) {
	if e := first(CheckBale(b), CheckPieces(l)); e != api.OK {
		return nil, 0, e
	}
	if len(l) > MaxOrder {
		return nil, 0, api.ErrLimit
	}
	pieces := lotOf(l)
	lay := layerOf(pieces)
	var best []Place
	length := b.Length + 1
	for order := range orders(len(l)) {
		plan := laid(order, lay)
		if n := pieces.length(plan); n < length && checkFit(b, pieces, plan) == api.OK {
			best, length = plan, n
		}
	}
	if length > b.Length {
		return nil, 0, api.ErrInfeasible
	}
	return best, length, api.OK
}

// Bound returns lower bounds of the length of a plan of all pieces.
func Bound(b Bale, l []panel.Panel) (Bounds, api.Errno) {
	if e := first(CheckBale(b), CheckPieces(l)); e != api.OK {
		return Bounds{}, e
	}
	bars, width := 0, 0
	for _, p := range l {
		bars += barsIn(p)
		s := shapeOf(p)
		width = max(width, s.greatest-s.least)
	}
	mesh := barsOf(b.Rows, 1)
	return Bounds{Bars: (bars + mesh - 1) / mesh, Widths: halfUp(width)}, api.OK
}

// Pack returns the plans of several bales for all pieces.
func Pack(stock []Bale, l []panel.Panel) ([][]Place, api.Errno) {
	if e := first(CheckStock(stock), CheckPieces(l)); e != api.OK {
		return nil, e
	}
	pieces := lotOf(l)
	lay := layerOf(pieces)
	plans := make([][]Place, len(stock))
search:
	for piece := range l {
		for i, b := range stock {
			upright, turned := lay(plans[i], Place{Piece: piece}), lay(plans[i], Place{Piece: piece, Turned: true})
			if plan := shorter(pieces, upright, turned); checkFit(b, pieces, plan) == api.OK {
				plans[i] = plan
				continue search
			}
		}
		return nil, api.ErrInfeasible
	}
	return plans, api.OK
}

// shorter returns the plan with the lesser length, the first one if both are equal.
func shorter(pieces lot, a, b []Place) []Place {
	if pieces.length(b) < pieces.length(a) {
		return b
	}
	return a
}
