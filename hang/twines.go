package hang

import (
	"cmp"
	"slices"

	"codend/api"
)

// Nearest returns the index of the twine whose weight is nearest to a number.
func Nearest(l []Twine, tex int) (int, api.Errno) {
	if err := first(CheckTwines(l), checkTex(tex)); err != api.OK {
		return 0, err
	}
	if len(l) == 0 {
		return 0, api.ErrEmpty
	}
	nearest := slices.MinFunc(l, func(a, b Twine) int {
		return cmp.Or(cmp.Compare(a.distance(tex), b.distance(tex)), cmp.Compare(a.Tex, b.Tex))
	})
	return slices.Index(l, nearest), api.OK
}

// distance returns how far the weight of a twine is from a number.
func (t Twine) distance(tex int) int {
	return max(t.Tex-tex, tex-t.Tex)
}

// Length returns the length of the twine of netting.
func Length(bars, knots, bar, allowance int) (int, api.Errno) {
	if err := first(checkCount(bars), checkCount(knots), checkBar(bar), checkAllowance(allowance)); err != api.OK {
		return 0, err
	}
	return lengthOf(bars, knots, bar, allowance), api.OK
}

func lengthOf(bars, knots, bar, allowance int) int {
	return bars*bar + knots*allowance
}

// Weight returns the weight of a length of twine in milligrams.
func Weight(length, tex int) (int, api.Errno) {
	if err := first(checkRange(length, 0, api.MaxNumber), checkTex(tex)); err != api.OK {
		return 0, err
	}
	weight := weightOf(length, tex)
	if weight > api.MaxNumber {
		return 0, api.ErrLarge
	}
	return weight, api.OK
}

// weightOf returns the weight of a length in millimetres: the tex is for a metre.
func weightOf(length, tex int) int {
	return length * tex / 1000
}

// Bill returns the sums of netting for each twine of a table.
func Bill(table []Twine, l []Line, allowance int) ([]Sum, api.Errno) {
	if err := first(CheckTwines(table), checkLines(table, l), checkAllowance(allowance)); err != api.OK {
		return nil, err
	}
	lengths := lengthsOf(l, allowance)
	sums := transformed(table, func(t Twine) Sum { return t.sum(lengths[t.Name]) })
	if slices.ContainsFunc(sums, Sum.isLarge) {
		return nil, api.ErrLarge
	}
	return sums, api.OK
}

// lengthsOf returns the length of all lines of each twine, by its name.
func lengthsOf(l []Line, allowance int) map[string]int {
	lengths := map[string]int{}
	for _, line := range l {
		lengths[line.Twine] += lengthOf(line.Bars, line.Knots, line.Bar, allowance)
	}
	return lengths
}

// sum returns the sums of a twine with a length.
func (t Twine) sum(length int) Sum {
	return Sum{Length: length, Weight: weightOf(length, t.Tex), Area: length * t.Thickness}
}

func (s Sum) isLarge() bool {
	return max(s.Length, s.Weight, s.Area) > api.MaxNumber
}
