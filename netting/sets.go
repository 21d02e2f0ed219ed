package netting

import (
	"codend/api"
)

// Union returns the bars of one net or the other one.
func Union(a, b []api.Bar) ([]api.Bar, api.Errno) {
	l, e := merged(a, b, func(inA, inB bool) bool { return inA || inB })
	if len(l) > api.MaxBars {
		return nil, api.ErrMany
	}
	return l, e
}

// Minus returns the bars of a net that another one does not have.
func Minus(a, b []api.Bar) ([]api.Bar, api.Errno) {
	return merged(a, b, func(inA, inB bool) bool { return inA && !inB })
}

// Meet returns the bars that two nets have in common.
func Meet(a, b []api.Bar) ([]api.Bar, api.Errno) {
	return merged(a, b, func(inA, inB bool) bool { return inA && inB })
}

func merged(a, b []api.Bar, keep func(inA, inB bool) bool) ([]api.Bar, api.Errno) {
	if e := first(CheckNet(a), CheckNet(b)); e != api.OK {
		return nil, e
	}
	return merge(a, b, compareBars, keep), api.OK
}

// merge goes through two ascending lists together, and keeps an element according to the lists that have it.
func merge[T any](a, b []T, compare func(x, y T) int, keep func(inA, inB bool) bool) []T {
	var out []T
	for len(a) > 0 || len(b) > 0 {
		order := compareHeads(a, b, compare)
		var x T
		if order <= 0 {
			x, a = a[0], a[1:]
		}
		if order >= 0 {
			x, b = b[0], b[1:]
		}
		if keep(order <= 0, order >= 0) {
			out = append(out, x)
		}
	}
	return out
}

// compareHeads says which of two lists has the lesser first element; a list that is used up has none.
func compareHeads[T any](a, b []T, compare func(x, y T) int) int {
	switch {
	case len(a) == 0:
		return 1
	case len(b) == 0:
		return -1
	}
	return compare(a[0], b[0])
}
