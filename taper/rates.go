package taper

import (
	"cmp"
	"slices"

	"codend/api"
)

func divisor(a, b int) int {
	for b != 0 {
		a, b = b, a%b
	}
	return a
}

// lowest returns a quotient in lowest terms.
func lowest(num, den int) api.Ratio {
	d := divisor(num, den)
	return api.Ratio{Num: num / d, Den: den / d}
}

func checkRatio(r api.Ratio) api.Errno {
	if e := first(checkRange(r.Num, 0, api.MaxNumber), checkRange(r.Den, 1, api.MaxNumber)); e != api.OK {
		return e
	}
	if divisor(r.Num, r.Den) > 1 {
		return api.ErrForm
	}
	return api.OK
}

func checkTarget(r api.Ratio, letters int) api.Errno {
	return first(checkRatio(r), checkRange(letters, 1, api.MaxLetter))
}

// Share returns the share of bars among the letters of the words with a rate.
func Share(r api.Ratio) (api.Ratio, api.Errno) {
	if e := checkRatio(r); e != api.OK {
		return api.Ratio{}, e
	}
	share := shareOf(r)
	if max(share.Num, share.Den) > api.MaxNumber {
		return api.Ratio{}, api.ErrLarge
	}
	return share, api.OK
}

// shareOf is the same for a ratio and its inverse, since a word and the word with T in the place of N have inverse rates.
func shareOf(r api.Ratio) api.Ratio {
	return lowest(2*min(r.Num, r.Den), r.Num+r.Den)
}

// Exact returns the shortest spread word with a rate.
func Exact(r api.Ratio) (string, api.Errno) {
	if e := checkRatio(r); e != api.OK {
		return "", e
	}
	share := shareOf(r)
	if e := checkLength(share.Den); e != api.OK {
		return "", e
	}
	return spreadWord(r, Part{Bars: share.Num, Letters: share.Den}), api.OK
}

// spreadWord returns the spread word of a part for a ratio.
func spreadWord(r api.Ratio, p Part) string {
	other := string(point)
	if r.Num > r.Den {
		other = string(mesh)
	}
	return spread(string(bar), p.Bars, other, p.Letters-p.Bars)
}

// Neighbours returns the nearest shares below and above the share of a rate.
func Neighbours(r api.Ratio, letters int) ([2]Part, api.Errno) {
	if e := checkTarget(r, letters); e != api.OK {
		return [2]Part{}, e
	}
	return neighboursOf(shareOf(r), letters), api.OK
}

// neighboursOf narrows two fractions around a share: the one that has the sums of their numbers has the least denominator of all between them.
func neighboursOf(share api.Ratio, letters int) [2]Part {
	below, above := Part{Bars: 0, Letters: 1}, Part{Bars: 1, Letters: 1}
search:
	for {
		between := Part{Bars: below.Bars + above.Bars, Letters: below.Letters + above.Letters}
		switch {
		case compareShares(below, share) == 0:
			above = below
			break search
		case compareShares(above, share) == 0:
			below = above
			break search
		case between.Letters > letters:
			break search
		case compareShares(between, share) <= 0:
			below = between
		default:
			above = between
		}
	}
	return [2]Part{below, above}
}

func compareShares(p Part, share api.Ratio) int {
	return cmp.Compare(p.Bars*share.Den, share.Num*p.Letters)
}

// CheckNeighbours returns OK if two shares prove that none of so many letters is nearer.
func CheckNeighbours(r api.Ratio, letters int, l [2]Part) api.Errno {
	if e := checkTarget(r, letters); e != api.OK {
		return e
	}
	if !prove(l[0], l[1], shareOf(r), letters) {
		return api.ErrProof
	}
	return api.OK
}

// prove reports whether two parts prove that there is none of so many letters between them and a share.
func prove(below, above Part, share api.Ratio, letters int) bool {
	switch {
	case !isLowest(below, letters) || !isLowest(above, letters):
		return false
	case compareShares(below, share) > 0 || compareShares(above, share) < 0:
		return false
	case below == above:
		return true
	}
	return above.Bars*below.Letters-below.Bars*above.Letters == 1 && below.Letters+above.Letters > letters
}

// isLowest reports whether a part of at most so many letters is a fraction from 0 to 1 in lowest terms.
func isLowest(p Part, letters int) bool {
	return p.Letters >= 1 && p.Letters <= letters && p.Bars >= 0 && p.Bars <= p.Letters && divisor(p.Bars, p.Letters) == 1
}

// Nearest returns the word with at most so many letters whose rate is nearest.
func Nearest(r api.Ratio, letters int) (string, api.Errno) {
	if e := checkTarget(r, letters); e != api.OK {
		return "", e
	}
	return slices.MinFunc(candidates(r, letters), func(v, w string) int {
		return cmp.Or(compareGaps(r, v, w), cmp.Compare(len(v), len(w)), compareRates(v, w))
	}), api.OK
}

// candidates returns the words of the two neighbours: a rate rises or falls with the share, so that no other word is nearer.
func candidates(r api.Ratio, letters int) []string {
	var words []string
	for _, p := range neighboursOf(shareOf(r), letters) {
		if w := spreadWord(r, p); hasRate(w) {
			words = append(words, w)
		}
	}
	return words
}

// compareGaps compares how much the rates of two words differ from a ratio.
func compareGaps(r api.Ratio, a, b string) int {
	v, w := vectorOf(a), vectorOf(b)
	return cmp.Compare(gap(r, v)*w[1], gap(r, w)*v[1])
}

// gap returns by how much the rate of a vector differs from a ratio, times the denominators of both.
func gap(r api.Ratio, v [2]int) int {
	d := v[0]*r.Den - r.Num*v[1]
	return max(d, -d)
}
