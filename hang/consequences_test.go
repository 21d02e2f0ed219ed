package hang_test

import (
	"fmt"
	"slices"
	"testing"

	"codend/api"
	"codend/hang"
)

// TestSquaresAddUp holds the squares of width and height against that of the stretched meshes.
func TestSquaresAddUp(t *testing.T) {
	for _, r := range allRatios(30) {
		for _, bar := range []int{1, 7, 50, 100} {
			for _, meshes := range []int{1, 10, 77, 300} {
				w, _ := hang.Width(r, bar, meshes)
				h, _ := hang.Height(r, bar, meshes)
				want(t, "CheckSquare of a height", hang.CheckSquare(h), api.OK)
				all := exact(2*bar*meshes, 1)
				want(t, "the squares of width and height", ratioOf(sum(product(ofRatio(w), ofRatio(w)), ofSquare(h))), ratioOf(product(all, all)))
				if w.Den == 1 {
					back, e := hang.Hanging(w.Num, bar, meshes)
					want(t, "the ratio of what is hung", back, r)
					want(t, "the ratio of what is hung: error", e, api.OK)
				}
			}
		}
		s, _ := hang.Secondary(r)
		want(t, "the squares of both ratios", ratioOf(sum(product(ofRatio(r), ofRatio(r)), ofSquare(s))), ratio(1, 1))
		f, _ := hang.Fullness(r)
		want(t, "CheckSquare of a fullness", hang.CheckSquare(f), api.OK)
	}
}

func TestAGreaterRatioIsWiderAndLessHigh(t *testing.T) {
	ratios := allRatios(30)
	slices.SortFunc(ratios, func(a, b api.Ratio) int { return ofRatio(a).Cmp(ofRatio(b)) })
	for i, r := range ratios[1:] {
		before := ratios[i]
		narrow, _ := hang.Width(before, 35, 11)
		wide, _ := hang.Width(r, 35, 11)
		want(t, "the widths", ofRatio(narrow).Cmp(ofRatio(wide)), -1)
		high, _ := hang.Height(before, 35, 11)
		low, _ := hang.Height(r, 35, 11)
		c, e := hang.Compare(high, low)
		want(t, "Compare of the heights", c, 1)
		want(t, "Compare of the heights: error", e, api.OK)
	}
}

// TestRootsAreBelowAndNextToTheSquare has squares of all sizes, those of decimals, and those next to them.
func TestRootsAreBelowAndNextToTheSquare(t *testing.T) {
	var l []hang.Square
	for num := range 300 {
		for den := 1; den <= 60; den++ {
			l = append(l, squareOf(exact(num, den)))
		}
	}
	d := &dice{31}
	for range 3000 {
		n := d.below(2000001)
		l = append(l, square(n*n, 1), squareOf(exact(n*n, 100)), squareOf(exact(n*n, 10000)), squareOf(exact(n*n, 1+d.below(810000))))
		if n > 0 {
			l = append(l, square(n*n-1, 1), squareOf(exact(n*n-1, 10000)), squareOf(exact(n*n-1, 1+d.below(810000))))
		}
	}
	for _, s := range l {
		for decimals, power := range []int{1, 10, 100} {
			r, e := hang.Root(s, decimals)
			want(t, "Root: error", e, api.OK)
			if r.Num < 0 || r.Den < 1 || power%r.Den != 0 || !isReduced(r.Num, r.Den) {
				t.Fatalf("the root %v of %v has not %d decimals in lowest terms", r, s, decimals)
			}
			next := sum(ofRatio(r), exact(1, power))
			if product(ofRatio(r), ofRatio(r)).Cmp(ofSquare(s)) > 0 || product(next, next).Cmp(ofSquare(s)) <= 0 {
				t.Fatalf("the root %v of %v with %d decimals", r, s, decimals)
			}
		}
	}
}

// TestPartsOfARopeAddUp cuts ropes between two sections, and within one.
func TestPartsOfARopeAddUp(t *testing.T) {
	d := &dice{37}
	for range 500 {
		l, bar := d.rope(8, 12), 1+d.below(100)
		whole, e := hang.Rope(l, bar)
		want(t, "Rope: error", e, api.OK)
		marks, _ := hang.Marks(l, bar)
		want(t, "the last mark", marks[len(marks)-1], whole)
		i := d.below(len(l))
		cut := d.below(l[i].Meshes + 1)
		head, tail := slices.Clone(l[:i+1]), slices.Clone(l[i:])
		head[i].Meshes, tail[0].Meshes = cut, l[i].Meshes-cut
		parts := exact(0, 1)
		for _, part := range [][]hang.Section{head, tail} {
			part = slices.DeleteFunc(part, func(s hang.Section) bool { return s.Meshes == 0 })
			if len(part) > 0 {
				r, _ := hang.Rope(part, bar)
				parts = sum(parts, ofRatio(r))
			}
		}
		want(t, "the parts of a rope", ratioOf(parts), whole)
		one, _ := hang.Rope(l[:1], bar)
		width, _ := hang.Width(l[0].Ratio, bar, l[0].Meshes)
		want(t, "a rope of one section", one, width)
	}
}

// TestTiesAreSpreadEvenly compares the sums of all parts with equally many ties.
func TestTiesAreSpreadEvenly(t *testing.T) {
	for meshes := 1; meshes <= 300; meshes += 1 + meshes/4 {
		for ties := 1; ties <= meshes; ties += 1 + ties/8 {
			l, _ := hang.Ties(meshes, ties)
			want(t, "how many ties", len(l), ties)
			sums := []int{0}
			for _, n := range l {
				sums = append(sums, sums[len(sums)-1]+n)
			}
			want(t, "the sum of the ties", sums[ties], meshes)
			for size := 1; size <= ties; size++ {
				least, most := meshes, 0
				for i := range ties - size + 1 {
					least, most = min(least, sums[i+size]-sums[i]), max(most, sums[i+size]-sums[i])
				}
				if most-least > 1 {
					t.Fatalf("%d ties of %d meshes have from %d to %d meshes", size, meshes, least, most)
				}
			}
		}
	}
}

// TestLinesMayBePutTogether puts lines with one bar and one twine together, and turns their order round.
func TestLinesMayBePutTogether(t *testing.T) {
	d := &dice{41}
	for range 300 {
		twines := d.table(4)
		l, allowance := d.bill(twines), d.below(101)
		for i := range l {
			l[i].Bar = 1 + d.below(3)
		}
		wanted, _ := hang.Bill(twines, l, allowance)
		var together []hang.Line
		for _, one := range slices.Backward(l) {
			i := slices.IndexFunc(together, func(other hang.Line) bool { return other.Bar == one.Bar && other.Twine == one.Twine })
			if i < 0 {
				together = append(together, one)
				continue
			}
			together[i].Bars += one.Bars
			together[i].Knots += one.Knots
		}
		sums, e := hang.Bill(twines, together, allowance)
		want(t, "Bill of lines that are put together", sums, wanted)
		want(t, "Bill: error", e, api.OK)
		slices.Reverse(l)
		sums, e = hang.Bill(twines, l, allowance)
		want(t, "Bill in another order", sums, wanted)
		want(t, "Bill: error", e, api.OK)
		for i, x := range twines {
			w, _ := hang.Weight(wanted[i].Length, x.Tex)
			want(t, "the weight of a length", wanted[i].Weight, w)
		}
		for _, one := range l {
			alone, _ := hang.Bill(table(twine(one.Twine, 1, 1)), bill(one), allowance)
			n, _ := hang.Length(one.Bars, one.Knots, one.Bar, allowance)
			want(t, "the length of a line", alone[0].Length, n)
		}
	}
}

// TestNothingPanics calls everything with extreme numbers.
func TestNothingPanics(t *testing.T) {
	l := extremes()
	for _, a := range l {
		hang.Fullest(a)
		for _, b := range l {
			r, s := ratio(a, b), square(a, b)
			hang.CheckRatio(r)
			hang.CheckSquare(s)
			hang.Secondary(r)
			hang.Fullness(r)
			hang.Ties(a, b)
			hang.Weight(a, b)
			hang.CheckTwines(table(twine("a", a, b)))
			hang.Nearest(table(twine("a", 1, 1)), a)
			for _, c := range l {
				hang.Hanging(a, b, c)
				hang.Width(r, c, c)
				hang.Height(r, c, c)
				hang.Root(s, c)
				hang.Compare(s, square(c, c))
				hang.Rope(rope(section(c, a, b)), 1)
				hang.Marks(rope(section(1, a, b)), c)
				hang.Length(a, b, c, c)
				hang.Bill(table(twine("a", 1, 1)), bill(line(a, b, c, "a")), c)
			}
		}
	}
}

// roomy returns a copy of a list with one more element behind it in the same memory.
func roomy[T any](l []T, more T) []T {
	return append(slices.Clone(l), more)[:len(l)]
}

// TestArgumentsAreNotChanged holds the arguments, and what lies behind their lists, against what they were.
func TestArgumentsAreNotChanged(t *testing.T) {
	l := roomy(rope(section(10, 1, 2), section(6, 2, 3)), section(7, 7, 7))
	twines := roomy(table(twine("b", 200, 3), twine("a", 100, 2)), twine("x", 1, 1))
	lines := roomy(bill(line(12, 9, 50, "b"), line(1, 0, 14, "a")), line(9, 9, 9, "x"))
	all := func() string { return fmt.Sprint(l[:3], twines[:3], lines[:3]) }
	before := all()
	hang.Rope(l, 50)
	marks, _ := hang.Marks(l, 50)
	hang.CheckTwines(twines)
	hang.Nearest(twines, 150)
	sums, _ := hang.Bill(twines, lines, 4)
	ties, _ := hang.Ties(10, 4)
	want(t, "the arguments", all(), before)
	again := fmt.Sprint(marks, sums, ties)
	clear(marks[:cap(marks)])
	clear(sums[:cap(sums)])
	clear(ties[:cap(ties)])
	want(t, "the arguments", all(), before)
	marks, _ = hang.Marks(l, 50)
	sums, _ = hang.Bill(twines, lines, 4)
	ties, _ = hang.Ties(10, 4)
	want(t, "the results again", fmt.Sprint(marks, sums, ties), again)
	for decimals, power := range []int{1, 10, 100} {
		for range 2 {
			r, _ := hang.Root(square(1, 10000), decimals)
			want(t, "Root again", r, ratioOf(exact(power/100, 100)))
		}
	}
}
