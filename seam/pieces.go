package seam

import (
	"slices"

	"codend/api"
	"codend/netting"
)

// Seam returns the joins of two edges of pieces.
func Seam(one int, a []api.Knot, two int, b []api.Knot) ([]Join, api.Errno) {
	if e := first(checkPiece(one), CheckEdge(a), checkPiece(two), CheckEdge(b)); e != api.OK {
		return nil, e
	}
	var seam []Join
	for pair := range evenPairs(len(a), len(b)) {
		seam = append(seam, Join{A: Place{Piece: one, Knot: a[pair[0]]}, B: Place{Piece: two, Knot: b[pair[1]]}})
	}
	if e := first(transformed(seam, checkApart)...); e != api.OK {
		return nil, e
	}
	return seam, api.OK
}

// checkPiece returns ErrRange if a number cannot be the index of a piece.
func checkPiece(piece int) api.Errno {
	return checkRange(piece, 0, MaxPieces-1)
}

// checkApart returns ErrTwice if both places of a join are the same one.
func checkApart(j Join) api.Errno {
	if j.A == j.B {
		return api.ErrTwice
	}
	return api.OK
}

// CheckPieces returns the first error of pieces, or OK.
func CheckPieces(nets [][]api.Bar) api.Errno {
	if len(nets) > MaxPieces {
		return api.ErrMany
	}
	return first(transformed(nets, netting.CheckNet)...)
}

// CheckSeams returns the first error of joins of pieces, or OK.
func CheckSeams(nets [][]api.Bar, l []Join) api.Errno {
	if e := CheckPieces(nets); e != api.OK {
		return e
	}
	if len(l) > MaxJoins {
		return api.ErrMany
	}
	known := setOf(placesOf(nets))
	check := func(p Place) api.Errno {
		switch {
		case isNoPiece(nets, p.Piece):
			return api.ErrUnknown
		case !known[p]:
			return api.ErrNone
		}
		return api.OK
	}
	for _, j := range l {
		if e := first(check(j.A), check(j.B), checkApart(j)); e != api.OK {
			return e
		}
	}
	return api.OK
}

func isNoPiece(nets [][]api.Bar, piece int) bool {
	return piece < 0 || piece >= len(nets)
}

// placesOf returns all knots of pieces, in the order of places.
func placesOf(nets [][]api.Bar) []Place {
	var places []Place
	for piece, net := range nets {
		places = append(places, transformed(knotsOf(net), func(k api.Knot) Place { return Place{Piece: piece, Knot: k} })...)
	}
	return places
}

// knotsOf returns the knots of a net that has been checked, so that there is no error.
func knotsOf(net []api.Bar) []api.Knot {
	knots, _ := netting.Knots(net)
	return knots
}

// Loose returns the knots that no join names.
func Loose(nets [][]api.Bar, l []Join) ([]Place, api.Errno) {
	if e := CheckSeams(nets, l); e != api.OK {
		return nil, e
	}
	named := map[Place]bool{}
	for _, j := range l {
		named[j.A], named[j.B] = true, true
	}
	return slices.DeleteFunc(placesOf(nets), func(p Place) bool { return named[p] }), api.OK
}

// Common returns the joins of all knots that two pieces have in common.
func Common(nets [][]api.Bar, one, two int) ([]Join, api.Errno) {
	if e := CheckPieces(nets); e != api.OK {
		return nil, e
	}
	switch {
	case isNoPiece(nets, one) || isNoPiece(nets, two):
		return nil, api.ErrUnknown
	case one == two:
		return nil, api.ErrTwice
	}
	others := setOf(knotsOf(nets[two]))
	var joins []Join
	for _, k := range knotsOf(nets[one]) {
		if others[k] {
			joins = append(joins, Join{A: Place{Piece: one, Knot: k}, B: Place{Piece: two, Knot: k}})
		}
	}
	return joins, api.OK
}
