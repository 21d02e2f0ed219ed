package bale

import (
	"slices"

	"codend/api"
	"codend/netting"
	"codend/panel"
)

// first returns the first of some errors that is one, or OK.
func first(errs ...api.Errno) api.Errno {
	for _, e := range errs {
		if e != api.OK {
			return e
		}
	}
	return api.OK
}

func checkRange(n, least, greatest int) api.Errno {
	if n < least || n > greatest {
		return api.ErrRange
	}
	return api.OK
}

// checkList returns the first error of a list, each element of which is checked together with those before it.
func checkList[T any](l []T, most int, check func(before []T, x T) api.Errno) api.Errno {
	if len(l) > most {
		return api.ErrMany
	}
	for i, x := range l {
		if e := check(l[:i], x); e != api.OK {
			return e
		}
	}
	return api.OK
}

// checkNew returns ErrTwice if one of some elements is the same thing as the next one.
func checkNew[T any](before []T, isSame func(T) bool) api.Errno {
	if slices.ContainsFunc(before, isSame) {
		return api.ErrTwice
	}
	return api.OK
}

// CheckBale returns the first error of a bale, or OK.
func CheckBale(b Bale) api.Errno {
	return first(checkName(b.Name), checkRange(b.Rows, 1, MaxRows), checkRange(b.Length, 1, MaxLength))
}

func checkName(name string) api.Errno {
	if !netting.IsName(name) {
		return api.ErrName
	}
	return api.OK
}

// CheckStock returns the first error of bales, or OK.
func CheckStock(l []Bale) api.Errno {
	return checkList(l, MaxBales, func(before []Bale, b Bale) api.Errno {
		return first(CheckBale(b), checkNew(before, func(other Bale) bool { return other.Name == b.Name }))
	})
}

// CheckPieces returns the first error of pieces, or OK.
func CheckPieces(l []panel.Panel) api.Errno {
	return checkList(l, api.MaxPanels, checkPiece)
}

func checkPiece(before []panel.Panel, p panel.Panel) api.Errno {
	if e := panel.CheckPanel(p); e != api.OK {
		return e
	}
	_, noTurn := panel.Turn(p)
	_, noNet := panel.Net(p)
	return first(checkNew(before, func(other panel.Panel) bool { return other.Name == p.Name }), noTurn, noNet)
}

// checkPlaces returns the first error of places of so many pieces, or OK.
func checkPlaces(count int, plan []Place) api.Errno {
	return checkList(plan, api.MaxPanels, func(before []Place, p Place) api.Errno { return checkPlace(count, before, p) })
}

func checkPlace(count int, before []Place, p Place) api.Errno {
	switch {
	case p.Piece < 0 || p.Piece >= count:
		return api.ErrUnknown
	case isLaid(before, p.Piece):
		return api.ErrTwice
	case p.At < -MaxShift || p.At > MaxShift:
		return api.ErrRange
	case p.At%2 != 0:
		return api.ErrLattice
	}
	return api.OK
}

func isLaid(plan []Place, piece int) bool {
	return slices.ContainsFunc(plan, func(p Place) bool { return p.Piece == piece })
}

// checkLaid returns the first error of pieces and of places of them, or OK.
func checkLaid(l []panel.Panel, plan []Place) api.Errno {
	return first(CheckPieces(l), checkPlaces(len(l), plan))
}

// CheckPlan returns OK for a plan that fits a bale.
func CheckPlan(b Bale, l []panel.Panel, plan []Place) api.Errno {
	if e := first(CheckBale(b), checkLaid(l, plan)); e != api.OK {
		return e
	}
	return checkFit(b, lotOf(l), plan)
}

// checkFit returns the first error of a plan in a bale, or OK.
func checkFit(b Bale, pieces lot, plan []Place) api.Errno {
	return checkList(plan, api.MaxPanels, func(before []Place, p Place) api.Errno {
		return first(checkInside(b, pieces.shape(p), p.At), checkApart(pieces, before, p))
	})
}

func checkInside(b Bale, s shape, at int) api.Errno {
	if len(s.strips) > b.Rows || s.least+at < 0 || s.greatest+at > 2*b.Length {
		return api.ErrOutside
	}
	return api.OK
}

func checkApart(pieces lot, before []Place, p Place) api.Errno {
	crosses := func(other Place) bool { return !apart(pieces.shape(other), pieces.shape(p), p.At-other.At) }
	if slices.ContainsFunc(before, crosses) {
		return api.ErrCross
	}
	return api.OK
}

// CheckPack returns OK for plans of several bales that have all pieces.
func CheckPack(stock []Bale, l []panel.Panel, plans [][]Place) api.Errno {
	if e := first(CheckStock(stock), CheckPieces(l)); e != api.OK {
		return e
	}
	if len(plans) != len(stock) {
		return api.ErrShape
	}
	pieces := lotOf(l)
	var laid []Place
	for i, plan := range plans {
		if e := first(checkPlaces(len(l), plan), checkUnused(laid, plan)); e != api.OK {
			return e
		}
		if e := checkFit(stock[i], pieces, plan); e != api.OK {
			return e
		}
		laid = append(laid, plan...)
	}
	if len(laid) < len(l) {
		return api.ErrNone
	}
	return api.OK
}

// checkUnused returns ErrTwice if a plan has a piece that is laid elsewhere.
func checkUnused(laid, plan []Place) api.Errno {
	return checkNew(plan, func(p Place) bool { return isLaid(laid, p.Piece) })
}
