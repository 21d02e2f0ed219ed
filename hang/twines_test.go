package hang_test

import (
	"slices"
	"testing"

	"codend/api"
	"codend/hang"
)

func TestCheckTwines(t *testing.T) {
	for _, l := range judgedTables() {
		want(t, "CheckTwines", hang.CheckTwines(l.x), l.e)
	}
}

func TestNearest(t *testing.T) {
	two := table(twine("a", 100, 20), twine("b", 200, 30))
	for _, row := range []struct {
		l   []hang.Twine
		tex int
		n   int
	}{
		{two, 150, 0},
		{two, 151, 1},
		{two, 149, 0},
		{two, 1, 0},
		{two, 100000, 1},
		{table(two[1], two[0]), 150, 1},
		{table(two[1], two[0]), 151, 0},
		{table(twine("z", 100, 1), twine("a", 100, 1)), 100, 0},
		{table(twine("a", 300, 1), twine("b", 100, 1), twine("c", 100, 1)), 200, 1},
		{table(twine("a", 300, 1), twine("b", 300, 1), twine("c", 99, 1)), 200, 0},
		{table(twine("a", 1, 1)), 100000, 0},
	} {
		n, e := hang.Nearest(row.l, row.tex)
		want(t, "Nearest", n, row.n)
		want(t, "Nearest: error", e, api.OK)
	}
	for _, l := range judgedTables() {
		for _, tex := range extremes() {
			wanted := firstOf(l.e, inRange(tex, 1, 100000))
			if wanted == api.OK && len(l.x) == 0 {
				wanted = api.ErrEmpty
			}
			n, e := hang.Nearest(l.x, tex)
			wantOnly(t, "Nearest", n, e, wanted)
		}
	}
}

// TestNearestByDefinition goes away from the number until there is a twine, to the lesser ones first.
func TestNearestByDefinition(t *testing.T) {
	d := &dice{23}
	for range 2000 {
		l, tex, wanted := d.table(32), 1+d.below(22), -1
		if len(l) == 0 {
			continue
		}
		for away := 0; wanted < 0; away++ {
			isThere := func(goal int) func(hang.Twine) bool {
				return func(x hang.Twine) bool { return x.Tex == goal }
			}
			wanted = slices.IndexFunc(l, isThere(tex-away))
			if wanted < 0 {
				wanted = slices.IndexFunc(l, isThere(tex+away))
			}
		}
		n, e := hang.Nearest(l, tex)
		want(t, "Nearest", n, wanted)
		want(t, "Nearest: error", e, api.OK)
	}
}

func TestLength(t *testing.T) {
	for _, row := range []struct{ bars, knots, bar, allowance, n int }{
		{12, 9, 50, 4, 636},
		{0, 0, 1, 0, 0},
		{0, 0, 100, 100, 0},
		{7, 0, 3, 5, 21},
		{0, 7, 3, 5, 35},
		{7, 7, 3, 0, 21},
		{100000, 100000, 100, 100, 20000000},
	} {
		n, e := hang.Length(row.bars, row.knots, row.bar, row.allowance)
		want(t, "Length", n, row.n)
		want(t, "Length: error", e, api.OK)
	}
	for _, bars := range ends(0, 100000) {
		for _, knots := range ends(0, 100000) {
			for _, bar := range ends(1, 100) {
				for _, allowance := range ends(0, 100) {
					wanted := firstOf(inRange(bars, 0, 100000), inRange(knots, 0, 100000), inRange(bar, 1, 100), inRange(allowance, 0, 100))
					n, e := hang.Length(bars, knots, bar, allowance)
					wantOnly(t, "Length", n, e, wanted)
				}
			}
		}
	}
}

func TestWeight(t *testing.T) {
	for _, row := range []struct {
		length, tex, n int
		e              api.Errno
	}{
		{636, 500, 318, api.OK},
		{1, 999, 0, api.OK},
		{1, 1000, 1, api.OK},
		{1, 1999, 1, api.OK},
		{0, 100000, 0, api.OK},
		{999, 1, 0, api.OK},
		{1999, 1, 1, api.OK},
		{999999999, 1, 999999, api.OK},
		{999999999, 1000, 999999999, api.OK},
		{999999999, 1001, 0, api.ErrLarge},
		{9999999, 100000, 999999900, api.OK},
		{10000000, 100000, 0, api.ErrLarge},
		{500000000, 2000, 0, api.ErrLarge},
		{499999999, 2000, 999999998, api.OK},
		{999999999, 100000, 0, api.ErrLarge},
	} {
		n, e := hang.Weight(row.length, row.tex)
		want(t, "Weight", n, row.n)
		want(t, "Weight: error", e, row.e)
	}
	for _, length := range extremes() {
		for _, tex := range extremes() {
			if wanted := firstOf(inRange(length, 0, 999999999), inRange(tex, 1, 100000)); wanted != api.OK {
				n, e := hang.Weight(length, tex)
				wantOnly(t, "Weight", n, e, wanted)
			}
		}
	}
}

func TestBill(t *testing.T) {
	twines := table(twine("a", 500, 20), twine("b", 1, 1), twine("c", 1000, 3))
	for _, row := range []struct {
		l         []hang.Line
		allowance int
		sums      []hang.Sum
	}{
		{nil, 4, []hang.Sum{{}, {}, {}}},
		{bill(line(12, 9, 50, "a"), line(1, 0, 14, "a")), 4, []hang.Sum{{Length: 650, Weight: 325, Area: 13000}, {}, {}}},
		{bill(line(12, 9, 50, "a"), line(1, 0, 14, "a")), 0, []hang.Sum{{Length: 614, Weight: 307, Area: 12280}, {}, {}}},
		{bill(line(1, 2, 3, "c"), line(5, 7, 11, "b"), line(0, 1, 100, "c")), 10, []hang.Sum{{}, {Length: 125, Area: 125}, {Length: 33, Weight: 33, Area: 99}}},
		{bill(line(999, 0, 1, "b"), line(1, 0, 1, "b")), 0, []hang.Sum{{}, {Length: 1000, Weight: 1, Area: 1000}, {}}}, // the weight is that of both together
	} {
		sums, e := hang.Bill(twines, row.l, row.allowance)
		want(t, "Bill", sums, row.sums)
		want(t, "Bill: error", e, api.OK)
	}
	sums, e := hang.Bill(nil, nil, 0)
	want(t, "Bill of nothing", sums, []hang.Sum(nil))
	want(t, "Bill of nothing: error", e, api.OK)
	sums, e = hang.Bill(nil, bill(line(1, 1, 1, "a")), 0)
	wantOnly(t, "Bill without twines", sums, e, api.ErrUnknown)
}

func TestBillErrors(t *testing.T) {
	two := table(twine("a", 500, 20), twine("b", 1, 1))
	for _, allowance := range extremes() {
		for _, l := range judgedBills() {
			sums, e := hang.Bill(two, l.x, allowance)
			wantOnly(t, "Bill", sums, e, firstOf(l.e, inRange(allowance, 0, 100)))
		}
		for _, twines := range judgedTables() {
			for _, l := range [][]hang.Line{nil, bill(line(0, 0, 0, "q")), make([]hang.Line, 65)} {
				if wanted := firstOf(twines.e, inRange(allowance, 0, 100)); twines.e != api.OK || l == nil {
					sums, e := hang.Bill(twines.x, l, allowance)
					wantOnly(t, "Bill", sums, e, wanted)
				}
			}
		}
	}
}

// TestBillLimits has lengths, weights and areas that are as large as possible, and too large.
func TestBillLimits(t *testing.T) {
	full := slices.Repeat(bill(line(100000, 100000, 100, "a")), 49) // 980000000 with an allowance of 100
	full = append(full, line(100000, 99999, 100, "a"), line(1, 0, 99, "a"))
	more := append(slices.Clone(full), line(1, 0, 1, "a"))
	area := bill(line(100000, 0, 99, "a"), line(99999, 0, 1, "a"))
	for _, row := range []struct {
		what string
		x    hang.Twine
		l    []hang.Line
		sum  hang.Sum
		e    api.Errno
	}{
		{"all as large as possible", twine("a", 1000, 1), full, hang.Sum{Length: 999999999, Weight: 999999999, Area: 999999999}, api.OK},
		{"the weight", twine("a", 1001, 1), full, hang.Sum{}, api.ErrLarge},
		{"the area", twine("a", 1000, 2), full, hang.Sum{}, api.ErrLarge},
		{"the length", twine("a", 1, 1), more, hang.Sum{}, api.ErrLarge},
		{"a large area", twine("a", 1, 100), area, hang.Sum{Length: 9999999, Weight: 9999, Area: 999999900}, api.OK},
		{"a large weight", twine("a", 100000, 1), area, hang.Sum{Length: 9999999, Weight: 999999900, Area: 9999999}, api.OK},
		{"an area that is too large", twine("a", 1, 100), append(slices.Clone(area), line(1, 0, 1, "a")), hang.Sum{}, api.ErrLarge},
		{"a weight that is too large", twine("a", 100000, 1), append(slices.Clone(area), line(1, 0, 1, "a")), hang.Sum{}, api.ErrLarge},
		{"all of 64 lines", twine("a", 100000, 100), slices.Repeat(bill(line(100000, 100000, 100, "a")), 64), hang.Sum{}, api.ErrLarge},
	} {
		sums, e := hang.Bill(table(twine("z", 1, 1), row.x), row.l, 100)
		want(t, "Bill: error: "+row.what, e, row.e)
		if row.e == api.OK {
			want(t, "Bill: "+row.what, sums, []hang.Sum{{}, row.sum})
		} else {
			want(t, "Bill: "+row.what, sums, []hang.Sum(nil))
		}
	}
}

func TestBillByDefinition(t *testing.T) {
	d := &dice{29}
	for range 500 {
		twines := d.table(6)
		l, allowance := d.bill(twines), d.below(101)
		var wanted []hang.Sum
		for _, x := range twines {
			length := 0
			for _, one := range l {
				if one.Twine == x.Name {
					length += one.Bars*one.Bar + one.Knots*allowance
				}
			}
			wanted = append(wanted, hang.Sum{Length: length, Weight: length * x.Tex / 1000, Area: length * x.Thickness})
		}
		sums, e := hang.Bill(twines, l, allowance)
		want(t, "Bill", sums, wanted)
		want(t, "Bill: error", e, api.OK)
	}
}
