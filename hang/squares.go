package hang

import (
	"cmp"
	"slices"

	"codend/api"
)

// powersOfTen has the denominators of as many decimals.
var powersOfTen = [...]int{1, 10, 100}

func (s Square) compare(other Square) int {
	return cmp.Compare(s.Num*other.Den, other.Num*s.Den)
}

func (s Square) isBelow(other Square) bool {
	return s.compare(other) < 0
}

// Compare compares two squares.
func Compare(a, b Square) (int, api.Errno) {
	if err := first(CheckSquare(a), CheckSquare(b)); err != api.OK {
		return 0, err
	}
	return a.compare(b), api.OK
}

// Root returns the root of a square, rounded down to decimals.
func Root(s Square, decimals int) (api.Ratio, api.Errno) {
	if err := first(CheckSquare(s), checkRange(decimals, 0, MaxDecimals)); err != api.OK {
		return api.Ratio{}, err
	}
	power := powersOfTen[decimals]
	// The quotient may be rounded down first: no square of an integer lies between both.
	return ratioOf(rootOf(s.Num*power*power/s.Den), power), api.OK
}

// rootOf returns the root of an integer, rounded down: from above, Newton's steps fall until they reach it.
func rootOf(n int) int {
	root := n
search:
	for root > 0 {
		switch next := (root + n/root) / 2; {
		case next >= root:
			break search
		default:
			root = next
		}
	}
	return root
}

// Fullest returns the hanging ratio with the fullest meshes: the first one whose square is below no other.
func Fullest(parts int) (api.Ratio, api.Errno) {
	if err := checkRange(parts, 1, MaxParts); err != api.OK {
		return api.Ratio{}, err
	}
	ratios := ratiosUpTo(parts)
	squares := transformed(ratios, fullness)
	fullest := slices.IndexFunc(squares, func(s Square) bool { return !slices.ContainsFunc(squares, s.isBelow) })
	return ratios[fullest], api.OK
}

// ratiosUpTo returns the hanging ratios with a denominator of at most parts, in ascending order.
func ratiosUpTo(parts int) []api.Ratio {
	var ratios []api.Ratio
	for den := 1; den <= parts; den++ {
		for num := 1; num <= den; num++ {
			if e := (api.Ratio{Num: num, Den: den}); e == ratioOf(num, den) {
				ratios = append(ratios, e)
			}
		}
	}
	slices.SortFunc(ratios, compareRatios)
	return ratios
}

func compareRatios(a, b api.Ratio) int {
	return cmp.Compare(a.Num*b.Den, b.Num*a.Den)
}
