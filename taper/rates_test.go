package taper_test

import (
	"math"
	"math/big"
	"strings"
	"testing"

	"codend/api"
	"codend/taper"
)

func TestShare(t *testing.T) {
	for _, row := range []struct{ r, share api.Ratio }{
		{ratio(1, 2), ratio(2, 3)}, {ratio(2, 1), ratio(2, 3)}, {ratio(0, 1), ratio(0, 1)}, {ratio(1, 1), ratio(1, 1)}, {ratio(2, 5), ratio(4, 7)}, {ratio(5, 2), ratio(4, 7)}, {ratio(1, 3), ratio(1, 2)}, {ratio(3, 1), ratio(1, 2)}, {ratio(3, 5), ratio(3, 4)},
		{ratio(1, 999999999), ratio(1, 500000000)}, {ratio(999999999, 1), ratio(1, 500000000)}, {ratio(1, 999999998), ratio(2, 999999999)}, {ratio(999999998, 1), ratio(2, 999999999)},
		{ratio(999999997, 999999999), ratio(999999997, 999999998)}, {ratio(999999999, 999999997), ratio(999999997, 999999998)}, {ratio(2, 999999997), ratio(4, 999999999)}, {ratio(499999999, 500000000), ratio(999999998, 999999999)},
	} {
		share, e := taper.Share(row.r)
		want(t, "Share", share, row.share)
		want(t, "Share: error", e, api.OK)
	}
	for _, r := range someRatios() {
		num, den := 2*min(r.Num, r.Den), r.Num+r.Den
		d := divisor(num, den)
		share, e := taper.Share(r)
		if den/d > 999999999 {
			want(t, "Share", share, api.Ratio{})
			want(t, "Share: error", e, api.ErrLarge)
			continue
		}
		want(t, "Share", share, ratio(num/d, den/d))
		want(t, "Share: error", e, api.OK)
	}
}

func TestShareErrors(t *testing.T) {
	large := []badRatio{
		{ratio(2, 999999999), api.ErrLarge}, {ratio(999999999, 2), api.ErrLarge}, {ratio(999999998, 999999999), api.ErrLarge}, {ratio(999999999, 999999998), api.ErrLarge}, {ratio(500000000, 500000001), api.ErrLarge}, {ratio(500000001, 500000000), api.ErrLarge},
	}
	for _, bad := range append(badRatios(), large...) {
		share, e := taper.Share(bad.r)
		want(t, "Share", share, api.Ratio{})
		want(t, "Share: error", e, bad.e)
	}
}

func TestExact(t *testing.T) {
	for _, row := range []struct {
		r api.Ratio
		w string
	}{
		{ratio(1, 2), "NBB"}, {ratio(2, 1), "TBB"}, {ratio(0, 1), "N"}, {ratio(1, 1), "B"}, {ratio(2, 5), "NBNBNBB"}, {ratio(5, 2), "TBTBTBB"}, {ratio(1, 3), "NB"}, {ratio(3, 1), "TB"}, {ratio(3, 5), "NBBB"}, {ratio(1, 5), "NNB"}, {ratio(5, 1), "TTB"},
		{ratio(1, 127), strings.Repeat("N", 63) + "B"}, {ratio(127, 1), strings.Repeat("T", 63) + "B"}, {ratio(63, 65), "N" + strings.Repeat("B", 63)}, {ratio(65, 63), "T" + strings.Repeat("B", 63)}, {ratio(31, 32), "N" + strings.Repeat("B", 62)},
	} {
		w, e := taper.Exact(row.r)
		want(t, "Exact", w, row.w)
		want(t, "Exact: error", e, api.OK)
	}
	long := []badRatio{
		{ratio(1, 129), api.ErrLong}, {ratio(129, 1), api.ErrLong}, {ratio(32, 33), api.ErrLong}, {ratio(33, 32), api.ErrLong}, {ratio(1, 64), api.ErrLong}, {ratio(1, 999999999), api.ErrLong}, {ratio(2, 999999999), api.ErrLong}, {ratio(999999999, 2), api.ErrLong}, {ratio(999999998, 999999999), api.ErrLong}, {ratio(999999999, 999999998), api.ErrLong},
	}
	for _, bad := range append(badRatios(), long...) {
		w, e := taper.Exact(bad.r)
		want(t, "Exact", w, "")
		want(t, "Exact: error", e, bad.e)
	}
}

// otherLetter is the letter beside B in the words for a ratio.
func otherLetter(r api.Ratio) string {
	if r.Num <= r.Den {
		return "N"
	}
	return "T"
}

// TestExactByDefinition looks for the least part whose spread word has the rate.
func TestExactByDefinition(t *testing.T) {
	for _, r := range someRatios() {
		wanted, wantedError := "", api.ErrLong
	search:
		for letters := 1; letters <= 64; letters++ {
			for bars := range letters + 1 {
				w := spreadOf("B", bars, otherLetter(r), letters-bars)
				if rate, e := taper.Rate(w); e == api.OK && rate == r {
					wanted, wantedError = w, api.OK
					break search
				}
			}
		}
		w, e := taper.Exact(r)
		want(t, "Exact", w, wanted)
		want(t, "Exact: error", e, wantedError)
	}
}

// againstShare returns -1, 0 or 1 if a part is less than, equal to, or greater than the share of a ratio.
func againstShare(p taper.Part, r api.Ratio) int {
	d := p.Bars*(r.Num+r.Den) - 2*min(r.Num, r.Den)*p.Letters
	switch {
	case d < 0:
		return -1
	case d > 0:
		return 1
	}
	return 0
}

// allParts returns all fractions from 0 to 1 with at most so many letters, in lowest terms.
func allParts(letters int) []taper.Part {
	var parts []taper.Part
	for n := 1; n <= letters; n++ {
		for bars := range n + 1 {
			if divisor(bars, n) == 1 {
				parts = append(parts, part(bars, n))
			}
		}
	}
	return parts
}

// neighboursAmong finds the neighbours among all fractions.
func neighboursAmong(parts []taper.Part, r api.Ratio) [2]taper.Part {
	below, above := part(0, 1), part(1, 1)
	for _, p := range parts {
		if againstShare(p, r) <= 0 && p.Bars*below.Letters > below.Bars*p.Letters {
			below = p
		}
		if againstShare(p, r) >= 0 && p.Bars*above.Letters < above.Bars*p.Letters {
			above = p
		}
	}
	return [2]taper.Part{below, above}
}

func TestNeighbours(t *testing.T) {
	for _, row := range []struct {
		r            api.Ratio
		letters      int
		below, above taper.Part
	}{
		{ratio(2, 5), 4, part(1, 2), part(2, 3)}, {ratio(5, 2), 4, part(1, 2), part(2, 3)}, {ratio(2, 5), 5, part(1, 2), part(3, 5)}, {ratio(2, 5), 6, part(1, 2), part(3, 5)}, {ratio(2, 5), 7, part(4, 7), part(4, 7)}, {ratio(2, 5), 64, part(4, 7), part(4, 7)}, {ratio(2, 5), 1, part(0, 1), part(1, 1)}, {ratio(2, 5), 2, part(1, 2), part(1, 1)},
		{ratio(0, 1), 1, part(0, 1), part(0, 1)}, {ratio(0, 1), 64, part(0, 1), part(0, 1)}, {ratio(1, 1), 1, part(1, 1), part(1, 1)}, {ratio(1, 1), 64, part(1, 1), part(1, 1)},
		{ratio(1, 999999999), 64, part(0, 1), part(1, 64)}, {ratio(999999999, 1), 64, part(0, 1), part(1, 64)}, {ratio(999999998, 999999999), 64, part(63, 64), part(1, 1)}, {ratio(999999999, 999999998), 10, part(9, 10), part(1, 1)}, {ratio(1, 127), 64, part(1, 64), part(1, 64)}, {ratio(1, 127), 63, part(0, 1), part(1, 63)}, {ratio(1, 129), 64, part(0, 1), part(1, 64)},
	} {
		l, e := taper.Neighbours(row.r, row.letters)
		want(t, "Neighbours", l, [2]taper.Part{row.below, row.above})
		want(t, "Neighbours: error", e, api.OK)
	}
	for letters := 1; letters <= 64; letters++ {
		parts := allParts(letters)
		for _, r := range someRatios() {
			l, e := taper.Neighbours(r, letters)
			want(t, "Neighbours", l, neighboursAmong(parts, r))
			want(t, "Neighbours: error", e, api.OK)
		}
	}
}

// badLetters are numbers of letters that are out of their range.
func badLetters() []int {
	return []int{0, -1, 65, 1000000000, math.MinInt, math.MaxInt}
}

func TestTargetErrors(t *testing.T) {
	call := func(r api.Ratio, letters int, wanted api.Errno) {
		t.Helper()
		l, e := taper.Neighbours(r, letters)
		want(t, "Neighbours", l, [2]taper.Part{})
		want(t, "Neighbours: error", e, wanted)
		w, e := taper.Nearest(r, letters)
		want(t, "Nearest", w, "")
		want(t, "Nearest: error", e, wanted)
		e = taper.CheckNeighbours(r, letters, [2]taper.Part{})
		want(t, "CheckNeighbours: error", e, wanted)
		e = taper.CheckNeighbours(r, letters, [2]taper.Part{part(0, 1), part(1, 1)})
		want(t, "CheckNeighbours: error", e, wanted)
	}
	for _, letters := range badLetters() {
		call(ratio(2, 5), letters, api.ErrRange)
		call(ratio(2, 4), letters, api.ErrForm)
		call(ratio(2, 0), letters, api.ErrRange)
	}
	for _, bad := range badRatios() {
		call(bad.r, 1, bad.e)
		call(bad.r, 64, bad.e)
	}
}

func TestCheckNeighbours(t *testing.T) {
	half := ratio(1, 3)
	for _, row := range []struct {
		r            api.Ratio
		letters      int
		below, above taper.Part
		e            api.Errno
	}{
		{ratio(2, 5), 4, part(1, 2), part(2, 3), api.OK},
		{ratio(2, 5), 3, part(1, 2), part(2, 3), api.OK},
		{ratio(2, 5), 5, part(1, 2), part(2, 3), api.ErrProof},
		{ratio(2, 5), 2, part(1, 2), part(2, 3), api.ErrProof},
		{ratio(2, 5), 7, part(4, 7), part(4, 7), api.OK},
		{ratio(2, 5), 64, part(4, 7), part(4, 7), api.OK},
		{ratio(2, 5), 6, part(4, 7), part(4, 7), api.ErrProof},
		{ratio(2, 5), 64, part(8, 14), part(8, 14), api.ErrProof},
		{ratio(2, 5), 64, part(4, 7), part(8, 14), api.ErrProof},
		{ratio(2, 5), 4, part(2, 3), part(1, 2), api.ErrProof},
		{ratio(2, 5), 4, part(1, 2), part(1, 2), api.ErrProof},
		{ratio(2, 5), 4, part(2, 3), part(2, 3), api.ErrProof},
		{ratio(2, 5), 4, part(0, 1), part(1, 1), api.ErrProof},
		{ratio(2, 5), 1, part(0, 1), part(1, 1), api.OK},
		{ratio(2, 5), 4, part(1, 3), part(1, 2), api.ErrProof},
		{ratio(2, 5), 4, part(2, 3), part(3, 4), api.ErrProof},
		{ratio(2, 5), 4, part(1, 2), part(3, 4), api.ErrProof},
		{half, 2, part(1, 2), part(1, 1), api.OK},
		{half, 2, part(0, 1), part(1, 2), api.OK},
		{half, 2, part(1, 2), part(1, 2), api.OK},
		{half, 64, part(1, 2), part(32, 63), api.OK},
		{half, 3, part(1, 2), part(1, 1), api.ErrProof},
		{half, 4, part(2, 4), part(2, 4), api.ErrProof},
		{half, 4, part(1, 2), part(3, 4), api.ErrProof},
		{ratio(0, 1), 1, part(0, 1), part(0, 1), api.OK},
		{ratio(0, 1), 5, part(0, 1), part(1, 5), api.OK},
		{ratio(0, 1), 5, part(0, 1), part(1, 4), api.ErrProof},
		{ratio(0, 1), 5, part(0, 5), part(0, 5), api.ErrProof},
		{ratio(0, 1), 5, part(0, 5), part(1, 5), api.ErrProof},
		{ratio(0, 1), 64, part(-1, 64), part(0, 1), api.ErrProof},
		{ratio(1, 1), 1, part(1, 1), part(1, 1), api.OK},
		{ratio(1, 1), 3, part(3, 3), part(3, 3), api.ErrProof},
		{ratio(1, 1), 64, part(1, 1), part(64, 63), api.ErrProof},
		{ratio(1, 1), 64, part(63, 64), part(1, 1), api.OK},
		{ratio(1, 1), 64, part(1, 1), part(1, 0), api.ErrProof},
		{ratio(0, 1), 64, part(0, 1), part(0, 0), api.ErrProof},
		{ratio(2, 5), 4, part(-1, -2), part(-2, -3), api.ErrProof},
		{ratio(2, 5), 4, part(-1, -2), part(2, 3), api.ErrProof},
		{ratio(2, 5), 4, part(1, 2), part(-2, -3), api.ErrProof},
		{ratio(2, 5), 4, part(0, 0), part(0, 0), api.ErrProof},
		{ratio(2, 5), 4, part(0, 0), part(1, 1), api.ErrProof},
		{ratio(2, 5), 4, part(math.MinInt, math.MinInt), part(math.MaxInt, math.MaxInt), api.ErrProof},
		{ratio(2, 5), 4, part(1, math.MinInt), part(1, math.MaxInt), api.ErrProof},
		{ratio(2, 5), 4, part(math.MaxInt, 2), part(math.MinInt, 3), api.ErrProof},
	} {
		want(t, "CheckNeighbours", taper.CheckNeighbours(row.r, row.letters, [2]taper.Part{row.below, row.above}), row.e)
	}
}

// proves repeats the definition of a proof.
func proves(r api.Ratio, letters int, below, above taper.Part) bool {
	for _, p := range []taper.Part{below, above} {
		if p.Letters < 1 || p.Letters > letters || p.Bars < 0 || p.Bars > p.Letters || divisor(p.Bars, p.Letters) != 1 {
			return false
		}
	}
	if againstShare(below, r) > 0 || againstShare(above, r) < 0 {
		return false
	}
	return below == above || above.Bars*below.Letters-below.Bars*above.Letters == 1 && below.Letters+above.Letters > letters
}

func TestCheckNeighboursByDefinition(t *testing.T) {
	var parts []taper.Part
	for bars := -1; bars <= 8; bars++ {
		for letters := -1; letters <= 8; letters++ {
			parts = append(parts, part(bars, letters))
		}
	}
	for _, r := range []api.Ratio{ratio(0, 1), ratio(1, 1), ratio(2, 5), ratio(5, 2), ratio(1, 3), ratio(3, 1), ratio(1, 6), ratio(618033989, 999999999), ratio(999999999, 1)} {
		for letters := 1; letters <= 7; letters++ {
			for _, below := range parts {
				for _, above := range parts {
					wanted := api.ErrProof
					if proves(r, letters, below, above) {
						wanted = api.OK
					}
					if e := taper.CheckNeighbours(r, letters, [2]taper.Part{below, above}); e != wanted {
						t.Errorf("CheckNeighbours %v %d %v %v: got %d, want %d", r, letters, below, above, e, wanted)
					}
				}
			}
		}
	}
}

// nearestOf compares the words of all parts with exact fractions.
func nearestOf(r api.Ratio, letters int) string {
	target := big.NewRat(int64(r.Num), int64(r.Den))
	best, bestRate, bestGap := taper.Part{}, new(big.Rat), new(big.Rat)
	for n := 1; n <= letters; n++ {
		for bars := range n + 1 {
			few, many := int64(bars), int64(2*n-bars)
			if otherLetter(r) == "T" {
				few, many = many, few
			}
			if many == 0 {
				continue
			}
			rate := big.NewRat(few, many)
			gap := new(big.Rat).Sub(rate, target)
			order := gap.Abs(gap).Cmp(bestGap)
			// Later parts have as many letters or more.
			if best.Letters == 0 || order < 0 || order == 0 && n == best.Letters && rate.Cmp(bestRate) < 0 {
				best, bestRate, bestGap = part(bars, n), rate, gap
			}
		}
	}
	return spreadOf("B", best.Bars, otherLetter(r), best.Letters-best.Bars)
}

func TestNearest(t *testing.T) {
	for _, row := range []struct {
		r       api.Ratio
		letters int
		w       string
	}{
		{ratio(2, 5), 4, "NB"}, {ratio(2, 5), 5, "NBNBB"}, {ratio(2, 5), 7, "NBNBNBB"}, {ratio(2, 5), 64, "NBNBNBB"}, {ratio(5, 2), 4, "TB"}, {ratio(5, 2), 2, "TB"}, {ratio(5, 2), 7, "TBTBTBB"},
		{ratio(0, 1), 1, "N"}, {ratio(0, 1), 64, "N"}, {ratio(1, 1), 1, "B"}, {ratio(1, 1), 64, "B"},
		{ratio(999999998, 999999999), 64, "B"}, {ratio(999999999, 999999998), 64, "B"}, {ratio(1, 999999999), 64, "N"}, {ratio(999999999, 1), 64, strings.Repeat("T", 63) + "B"},
		{ratio(499999999, 999999999), 1, "N"}, {ratio(500000000, 999999999), 1, "B"}, {ratio(499999999, 999999997), 1, "B"},
	} {
		w, e := taper.Nearest(row.r, row.letters)
		want(t, "Nearest", w, row.w)
		want(t, "Nearest: error", e, api.OK)
	}
}

// TestNearestOfTwo has ratios in the middle between two rates, with words of one length and of several lengths.
func TestNearestOfTwo(t *testing.T) {
	for _, row := range []struct {
		r       api.Ratio
		letters int
		w       string
	}{
		{ratio(1, 2), 1, "N"},
		{ratio(2, 3), 2, "B"}, {ratio(1, 6), 2, "N"}, {ratio(2, 1), 2, "B"}, {ratio(4, 1), 3, "TB"},
		{ratio(1, 254), 64, "N"}, {ratio(1, 253), 64, strings.Repeat("N", 63) + "B"}, {ratio(126, 1), 64, strings.Repeat("T", 62) + "B"}, {ratio(253, 2), 64, strings.Repeat("T", 63) + "B"},
	} {
		w, e := taper.Nearest(row.r, row.letters)
		want(t, "Nearest", w, row.w)
		want(t, "Nearest: error", e, api.OK)
	}
}

// TestNearestHasARate asks for more than one letter can give: T alone is no answer.
func TestNearestHasARate(t *testing.T) {
	for _, row := range []struct {
		r       api.Ratio
		letters int
		w       string
	}{
		{ratio(2, 1), 1, "B"}, {ratio(100, 1), 1, "B"}, {ratio(999999999, 1), 1, "B"}, {ratio(999999999, 1), 2, "TB"}, {ratio(100, 1), 3, "TTB"},
	} {
		w, e := taper.Nearest(row.r, row.letters)
		want(t, "Nearest", w, row.w)
		want(t, "Nearest: error", e, api.OK)
	}
}

func TestNearestByDefinition(t *testing.T) {
	for _, r := range someRatios() {
		for _, letters := range []int{1, 2, 3, 4, 5, 6, 7, 8, 9, 10, 13, 24, 40, 63, 64} {
			w, e := taper.Nearest(r, letters)
			want(t, "Nearest", w, nearestOf(r, letters))
			want(t, "Nearest: error", e, api.OK)
		}
	}
}
