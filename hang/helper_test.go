package hang_test

import (
	"math"
	"math/big"
	"reflect"
	"slices"
	"strconv"
	"strings"
	"testing"

	"codend/api"
	"codend/hang"
)

// want reports a result that is not the expected one; empty lists are equal.
func want(t *testing.T, what string, got, wanted any) {
	t.Helper()
	g, w := reflect.ValueOf(got), reflect.ValueOf(wanted)
	if g.Kind() == reflect.Slice && g.Type() == w.Type() && g.Len() == 0 && w.Len() == 0 {
		return
	}
	if !reflect.DeepEqual(got, wanted) {
		t.Errorf("%s: got %v, want %v", what, got, wanted)
	}
}

// wantOnly reports an error that is not the expected one, and anything beside an error.
func wantOnly(t *testing.T, what string, got any, e, wanted api.Errno) {
	t.Helper()
	want(t, what+": error", e, wanted)
	if v := reflect.ValueOf(got); e != api.OK && !v.IsZero() && (v.Kind() != reflect.Slice || v.Len() > 0) {
		t.Errorf("%s: %v beside the error %d", what, got, e)
	}
}

func ratio(num, den int) api.Ratio {
	return api.Ratio{Num: num, Den: den}
}

func square(num, den int) hang.Square {
	return hang.Square{Num: num, Den: den}
}

func section(meshes, num, den int) hang.Section {
	return hang.Section{Meshes: meshes, Ratio: ratio(num, den)}
}

func rope(l ...hang.Section) []hang.Section {
	return l
}

func twine(name string, tex, thickness int) hang.Twine {
	return hang.Twine{Name: name, Tex: tex, Thickness: thickness}
}

func table(l ...hang.Twine) []hang.Twine {
	return l
}

func line(bars, knots, bar int, name string) hang.Line {
	return hang.Line{Bars: bars, Knots: knots, Bar: bar, Twine: name}
}

func bill(l ...hang.Line) []hang.Line {
	return l
}

// manyTwines returns twines with different names.
func manyTwines(count int) []hang.Twine {
	var l []hang.Twine
	for i := range count {
		l = append(l, twine("t"+strconv.Itoa(i), 100+i, 10))
	}
	return l
}

// exact returns a quotient that keeps itself in lowest terms.
func exact(num, den int) *big.Rat {
	return big.NewRat(int64(num), int64(den))
}

func product(l ...*big.Rat) *big.Rat {
	p := exact(1, 1)
	for _, x := range l {
		p = p.Mul(p, x)
	}
	return p
}

func sum(l ...*big.Rat) *big.Rat {
	s := exact(0, 1)
	for _, x := range l {
		s = s.Add(s, x)
	}
	return s
}

// rest returns what is missing to 1.
func rest(x *big.Rat) *big.Rat {
	return exact(1, 1).Sub(exact(1, 1), x)
}

func ofRatio(e api.Ratio) *big.Rat {
	return exact(e.Num, e.Den)
}

func ofSquare(s hang.Square) *big.Rat {
	return exact(s.Num, s.Den)
}

func ratioOf(x *big.Rat) api.Ratio {
	return ratio(int(x.Num().Int64()), int(x.Denom().Int64()))
}

func squareOf(x *big.Rat) hang.Square {
	return square(int(x.Num().Int64()), int(x.Denom().Int64()))
}

// isLarge reports whether a number of a quotient is above MaxNumber.
func isLarge(x *big.Rat) bool {
	most := big.NewInt(999999999)
	return x.Num().Cmp(most) > 0 || x.Denom().Cmp(most) > 0
}

// isReduced tries all numbers that might divide both.
func isReduced(num, den int) bool {
	for by := 2; by <= den; by++ {
		if num%by == 0 && den%by == 0 {
			return false
		}
	}
	return true
}

// allRatios returns all hanging ratios with a denominator of at most parts.
func allRatios(parts int) []api.Ratio {
	var l []api.Ratio
	for den := 1; den <= parts; den++ {
		for num := 1; num <= den; num++ {
			if isReduced(num, den) {
				l = append(l, ratio(num, den))
			}
		}
	}
	return l
}

// inRange returns the error of a number.
func inRange(n, least, greatest int) api.Errno {
	if n < least || n > greatest {
		return api.ErrRange
	}
	return api.OK
}

func firstOf(l ...api.Errno) api.Errno {
	for _, e := range l {
		if e != api.OK {
			return e
		}
	}
	return api.OK
}

// extremes are numbers at and beyond all limits.
func extremes() []int {
	return []int{math.MinInt, math.MinInt + 1, -1 << 32, -1000, -2, -1, 0, 1, 2, 3, 30, 31, 32, 100, 101, 300, 301, 60000, 60001,
		100000, 100001, 810000, 810001, 999999999, 1000000000, 1 << 32, 4000000000000, 4000000000001, 1 << 62, math.MaxInt - 1, math.MaxInt}
}

// ends are few numbers, at and beyond the ends of a range and of all integers.
func ends(least, greatest int) []int {
	return []int{math.MinInt, least - 1, least, greatest, greatest + 1, math.MaxInt}
}

// judged is an argument with its error, or OK.
type judged[T any] struct {
	x T
	e api.Errno
}

func judgedRatios() []judged[api.Ratio] {
	l := []judged[api.Ratio]{
		{ratio(1, 1), api.OK}, {ratio(1, 2), api.OK}, {ratio(1, 30), api.OK}, {ratio(29, 30), api.OK},
		{ratio(0, 0), api.ErrRange}, {ratio(0, 1), api.ErrRange}, {ratio(1, 0), api.ErrRange}, {ratio(1, 31), api.ErrRange}, {ratio(31, 1), api.ErrRange}, {ratio(31, 31), api.ErrRange},
		{ratio(-1, 2), api.ErrRange}, {ratio(1, -2), api.ErrRange}, {ratio(-1, -2), api.ErrRange}, {ratio(31, 30), api.ErrRange}, {ratio(10, 31), api.ErrRange},
		{ratio(2, 1), api.ErrOrder}, {ratio(30, 29), api.ErrOrder}, {ratio(4, 2), api.ErrOrder}, {ratio(30, 15), api.ErrOrder}, {ratio(30, 1), api.ErrOrder},
		{ratio(2, 4), api.ErrForm}, {ratio(2, 2), api.ErrForm}, {ratio(30, 30), api.ErrForm}, {ratio(15, 30), api.ErrForm}, {ratio(27, 30), api.ErrForm}, {ratio(14, 21), api.ErrForm},
	}
	for _, n := range extremes() {
		if n < 1 || n > 30 {
			l = append(l, judged[api.Ratio]{ratio(n, 2), api.ErrRange}, judged[api.Ratio]{ratio(1, n), api.ErrRange}, judged[api.Ratio]{ratio(n, n), api.ErrRange})
		}
	}
	return l
}

func judgedSquares() []judged[hang.Square] {
	l := []judged[hang.Square]{
		{square(0, 1), api.OK}, {square(1, 1), api.OK}, {square(3, 4), api.OK}, {square(4, 3), api.OK}, {square(4000000000000, 1), api.OK}, {square(1, 810000), api.OK}, {square(3999999999997, 810000), api.OK}, {square(3999999999998, 809999), api.OK},
		{square(0, 0), api.ErrRange}, {square(1, 0), api.ErrRange}, {square(-1, 1), api.ErrRange}, {square(1, -1), api.ErrRange}, {square(-1, -1), api.ErrRange},
		{square(4000000000001, 1), api.ErrRange}, {square(1, 810001), api.ErrRange}, {square(4000000000002, 2), api.ErrRange}, {square(2, 810002), api.ErrRange}, {square(0, 810001), api.ErrRange},
		{square(0, 2), api.ErrForm}, {square(0, 810000), api.ErrForm}, {square(2, 2), api.ErrForm}, {square(6, 4), api.ErrForm}, {square(4, 6), api.ErrForm}, {square(810000, 810000), api.ErrForm}, {square(4000000000000, 810000), api.ErrForm}, {square(3999999999999, 810000), api.ErrForm},
	}
	for _, n := range extremes() {
		if n < 0 || n > 4000000000000 {
			l = append(l, judged[hang.Square]{square(n, 1), api.ErrRange}, judged[hang.Square]{square(n, n), api.ErrRange})
		}
		if n < 1 || n > 810000 {
			l = append(l, judged[hang.Square]{square(1, n), api.ErrRange})
		}
	}
	return l
}

// judgedRopes returns sections; where one has several errors, or several have one, the first one counts.
func judgedRopes() []judged[[]hang.Section] {
	good := section(10, 1, 2)
	l := []judged[[]hang.Section]{
		{rope(good), api.OK}, {slices.Repeat(rope(good), 32), api.OK}, {rope(good, section(1, 1, 1), section(300, 29, 30)), api.OK},
		{nil, api.ErrEmpty}, {[]hang.Section{}, api.ErrEmpty},
		{slices.Repeat(rope(good), 33), api.ErrMany}, {make([]hang.Section, 33), api.ErrMany},
		{make([]hang.Section, 32), api.ErrRange},
		{rope(section(0, 2, 4)), api.ErrRange}, {rope(section(301, 3, 2)), api.ErrRange}, {rope(good, section(0, 1, 2)), api.ErrRange},
		{rope(good, section(10, 3, 2), section(0, 1, 2)), api.ErrOrder}, {rope(section(10, 2, 4), section(10, 3, 2)), api.ErrForm},
	}
	for _, e := range judgedRatios() {
		l = append(l, judged[[]hang.Section]{rope(good, hang.Section{Meshes: 300, Ratio: e.x}), e.e})
	}
	for _, n := range extremes() {
		l = append(l, judged[[]hang.Section]{rope(good, section(n, 1, 2)), inRange(n, 1, 300)})
	}
	return l
}

// judgedTables returns tables of twines; where one has several errors, or several have one, the first one counts.
func judgedTables() []judged[[]hang.Twine] {
	a := twine("a", 500, 20)
	l := []judged[[]hang.Twine]{
		{nil, api.OK}, {[]hang.Twine{}, api.OK}, {table(a), api.OK}, {table(a, twine("A", 500, 20)), api.OK}, {table(twine("a", 1, 1), twine("b", 100000, 100)), api.OK},
		{table(twine(strings.Repeat("x", 24), 1, 1), twine("Z_9", 1, 1)), api.OK}, {manyTwines(32), api.OK},
		{manyTwines(33), api.ErrMany}, {make([]hang.Twine, 33), api.ErrMany}, {slices.Repeat(table(a), 33), api.ErrMany},
		{make([]hang.Twine, 32), api.ErrName},
		{table(a, a), api.ErrTwice}, {table(a, twine("b", 1, 1), twine("a", 0, 0)), api.ErrTwice}, {table(a, twine("a", 9, 9), twine("", 0, 0)), api.ErrTwice},
		{table(a, twine("b", 0, 1), twine("a", 1, 1)), api.ErrRange}, {table(twine("a", 0, 1), twine("", 1, 1)), api.ErrRange}, {table(twine("a", 1, 0), twine("a", 1, 1)), api.ErrRange},
	}
	for _, name := range []string{"", "9", "_a", "a b", "a-b", "\u00e9", "a\n", strings.Repeat("a", 25)} {
		l = append(l, judged[[]hang.Twine]{table(a, twine(name, 500, 20)), api.ErrName}, judged[[]hang.Twine]{table(twine(name, 0, 0), a, a), api.ErrName})
	}
	for _, n := range extremes() {
		l = append(l, judged[[]hang.Twine]{table(a, twine("b", n, 20)), inRange(n, 1, 100000)}, judged[[]hang.Twine]{table(a, twine("b", 500, n)), inRange(n, 1, 100)})
	}
	return l
}

// judgedBills returns lines for the twines a and b; where one has several errors, or several have one, the first one counts.
func judgedBills() []judged[[]hang.Line] {
	good := line(12, 9, 50, "a")
	l := []judged[[]hang.Line]{
		{nil, api.OK}, {[]hang.Line{}, api.OK}, {bill(good), api.OK}, {bill(good, line(0, 0, 1, "b"), good), api.OK}, {slices.Repeat(bill(line(1, 1, 1, "b")), 64), api.OK}, {bill(line(100000, 100000, 1, "a")), api.OK},
		{slices.Repeat(bill(good), 65), api.ErrMany}, {make([]hang.Line, 65), api.ErrMany},
		{make([]hang.Line, 64), api.ErrRange},
		{bill(line(1, 1, 1, "c")), api.ErrUnknown}, {bill(line(1, 1, 1, "")), api.ErrUnknown}, {bill(line(1, 1, 1, "A")), api.ErrUnknown}, {bill(good, line(1, 1, 1, "a ")), api.ErrUnknown},
		{bill(good, line(1, 1, 0, "c")), api.ErrRange}, {bill(line(1, 1, 1, "c"), line(1, 1, 0, "a")), api.ErrUnknown}, {bill(line(1, 1, 0, "a"), line(1, 1, 1, "c")), api.ErrRange},
	}
	for _, n := range extremes() {
		l = append(l, judged[[]hang.Line]{bill(good, line(n, 1, 1, "a")), inRange(n, 0, 100000)}, judged[[]hang.Line]{bill(good, line(1, n, 1, "b")), inRange(n, 0, 100000)}, judged[[]hang.Line]{bill(good, line(1, 1, n, "a")), inRange(n, 1, 100)})
	}
	return l
}

// dice are numbers without an order, the same ones in each run.
type dice struct{ x uint32 }

func (d *dice) below(n int) int {
	d.x = d.x*1664525 + 1013904223
	return int(d.x>>8) % n
}

// rope returns up to so many sections with denominators of at most parts.
func (d *dice) rope(most, parts int) []hang.Section {
	ratios := allRatios(parts)
	var l []hang.Section
	for range 1 + d.below(most) {
		l = append(l, hang.Section{Meshes: 1 + d.below(40), Ratio: ratios[d.below(len(ratios))]})
	}
	return l
}

// table returns up to so many twines with small numbers.
func (d *dice) table(most int) []hang.Twine {
	l := manyTwines(d.below(most + 1))
	for i := range l {
		l[i].Tex, l[i].Thickness = 1+d.below(20), 1+d.below(5)
	}
	return l
}

// bill returns lines of some twines of a table.
func (d *dice) bill(twines []hang.Twine) []hang.Line {
	var l []hang.Line
	for range d.below(20) {
		if len(twines) > 0 {
			l = append(l, line(d.below(1000), d.below(1000), 1+d.below(100), twines[d.below(len(twines))].Name))
		}
	}
	return l
}
