package netting

import (
	"cmp"
	"slices"

	"codend/api"
)

// first returns the first of some errors that is one, or OK.
func first(errs ...api.Errno) api.Errno {
	for _, e := range errs {
		if e != api.OK {
			return e
		}
	}
	return api.OK
}

func checkRange(n, least, greatest int) api.Errno {
	if n < least || n > greatest {
		return api.ErrRange
	}
	return api.OK
}

func checkPlace(n int) api.Errno {
	return checkRange(n, -api.MaxPlace, api.MaxPlace)
}

// CheckKnot returns the first error of a knot, or OK.
func CheckKnot(k api.Knot) api.Errno {
	if e := first(checkPlace(k.X), checkPlace(k.Y)); e != api.OK {
		return e
	}
	if (k.X+k.Y)%2 != 0 {
		return api.ErrLattice
	}
	return api.OK
}

// CheckBar returns the first error of a bar, or OK.
func CheckBar(b api.Bar) api.Errno {
	if e := first(CheckKnot(lower(b)), checkSide(b.Side)); e != api.OK {
		return e
	}
	return first(checkPlace(upper(b).X), checkPlace(upper(b).Y))
}

func checkSide(side int) api.Errno {
	if side != -1 && side != 1 {
		return api.ErrKind
	}
	return api.OK
}

// CheckNet returns the first error of a net, or OK.
func CheckNet(l []api.Bar) api.Errno {
	if len(l) > api.MaxBars {
		return api.ErrMany
	}
	for i, b := range l {
		if e := first(CheckBar(b), checkOrder(l[:i], b)); e != api.OK {
			return e
		}
	}
	return api.OK
}

// checkOrder returns ErrOrder if a bar does not come after the last one of those before it.
func checkOrder(before []api.Bar, b api.Bar) api.Errno {
	if len(before) > 0 && compareBars(before[len(before)-1], b) >= 0 {
		return api.ErrOrder
	}
	return api.OK
}

func compareBars(a, b api.Bar) int {
	return cmp.Or(cmp.Compare(a.Y, b.Y), cmp.Compare(a.X, b.X), cmp.Compare(a.Side, b.Side))
}

func compareKnots(a, b api.Knot) int {
	return cmp.Or(cmp.Compare(a.Y, b.Y), cmp.Compare(a.X, b.X))
}

func lower(b api.Bar) api.Knot {
	return api.Knot{X: b.X, Y: b.Y}
}

func upper(b api.Bar) api.Knot {
	return api.Knot{X: b.X + b.Side, Y: b.Y + 1}
}

// Ends returns the lower and the upper end of a bar.
func Ends(b api.Bar) ([2]api.Knot, api.Errno) {
	if e := CheckBar(b); e != api.OK {
		return [2]api.Knot{}, e
	}
	return endsOf(b), api.OK
}

func endsOf(b api.Bar) [2]api.Knot {
	return [2]api.Knot{lower(b), upper(b)}
}

// Around returns the bars that end at a knot.
func Around(k api.Knot) ([]api.Bar, api.Errno) {
	if e := CheckKnot(k); e != api.OK {
		return nil, e
	}
	var bars []api.Bar
	for _, b := range barsAround(k) {
		if CheckBar(b) == api.OK {
			bars = append(bars, b)
		}
	}
	return bars, api.OK
}

// barsAround returns the four bars that end at a knot, valid or not, in the order of bars.
func barsAround(k api.Knot) [4]api.Bar {
	return [4]api.Bar{
		{X: k.X - 1, Y: k.Y - 1, Side: 1},
		{X: k.X + 1, Y: k.Y - 1, Side: -1},
		{X: k.X, Y: k.Y, Side: -1},
		{X: k.X, Y: k.Y, Side: 1},
	}
}

// Has reports whether a net has a bar.
func Has(l []api.Bar, b api.Bar) (bool, api.Errno) {
	if e := first(CheckNet(l), CheckBar(b)); e != api.OK {
		return false, e
	}
	return hasBar(l, b), api.OK
}

func hasBar(net []api.Bar, b api.Bar) bool {
	_, found := slices.BinarySearchFunc(net, b, compareBars)
	return found
}
