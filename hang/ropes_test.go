package hang_test

import (
	"math/big"
	"slices"
	"testing"

	"codend/api"
	"codend/hang"
)

// fine returns sections of as many meshes with the ratio 1 to each denominator.
func fine(meshes int, parts ...int) []hang.Section {
	var l []hang.Section
	for _, den := range parts {
		l = append(l, section(meshes, 1, den))
	}
	return l
}

// marksOf adds mesh by mesh.
func marksOf(l []hang.Section, bar int) []*big.Rat {
	marks := []*big.Rat{exact(0, 1)}
	for _, s := range l {
		for range s.Meshes {
			marks = append(marks, sum(marks[len(marks)-1], product(exact(2*bar, 1), ofRatio(s.Ratio))))
		}
	}
	return marks
}

// wantRope holds the rope and the marks of sections against the definition, and returns their errors.
func wantRope(t *testing.T, l []hang.Section, bar int) [2]api.Errno {
	t.Helper()
	marks, errs := marksOf(l, bar), [2]api.Errno{}
	var ratios []api.Ratio
	for _, x := range marks {
		ratios = append(ratios, ratioOf(x))
	}
	all := ratios[len(ratios)-1]
	if isLarge(marks[len(marks)-1]) {
		all, errs[0] = api.Ratio{}, api.ErrLarge
	}
	if slices.ContainsFunc(marks, isLarge) {
		ratios, errs[1] = nil, api.ErrLarge
	}
	r, e := hang.Rope(l, bar)
	want(t, "Rope", r, all)
	want(t, "Rope: error", e, errs[0])
	m, e := hang.Marks(l, bar)
	want(t, "Marks", m, ratios)
	want(t, "Marks: error", e, errs[1])
	return errs
}

func TestRope(t *testing.T) {
	for _, row := range []struct {
		l   []hang.Section
		bar int
		r   api.Ratio
	}{
		{rope(section(10, 1, 2), section(6, 2, 3)), 50, ratio(900, 1)},
		{rope(section(2, 1, 2), section(1, 2, 3)), 5, ratio(50, 3)},
		{rope(section(1, 1, 30)), 1, ratio(1, 15)},
		{rope(section(300, 1, 1)), 100, ratio(60000, 1)},
		{slices.Repeat(rope(section(300, 1, 1)), 32), 100, ratio(1920000, 1)},
		{slices.Repeat(rope(section(300, 29, 30)), 32), 100, ratio(1856000, 1)},
		{fine(1, 2, 3, 6), 7, ratio(14, 1)},
		{fine(1, 29, 27, 23, 19, 17, 13, 11), 1, ratio(655947038, 831817701)}, // nothing cancels
	} {
		r, e := hang.Rope(row.l, row.bar)
		want(t, "Rope", r, row.r)
		want(t, "Rope: error", e, api.OK)
		wantRope(t, row.l, row.bar)
	}
	for _, l := range judgedRopes() {
		for _, bar := range ends(1, 100) {
			wanted := firstOf(l.e, inRange(bar, 1, 100))
			r, e := hang.Rope(l.x, bar)
			wantOnly(t, "Rope", r, e, wanted)
			m, e := hang.Marks(l.x, bar)
			wantOnly(t, "Marks", m, e, wanted)
		}
	}
}

func TestMarks(t *testing.T) {
	m, e := hang.Marks(rope(section(2, 1, 2), section(1, 2, 3)), 5)
	want(t, "Marks", m, []api.Ratio{ratio(0, 1), ratio(5, 1), ratio(10, 1), ratio(50, 3)})
	want(t, "Marks: error", e, api.OK)
	m, e = hang.Marks(rope(section(1, 1, 1)), 1)
	want(t, "Marks of one mesh", m, []api.Ratio{ratio(0, 1), ratio(2, 1)})
	want(t, "Marks: error", e, api.OK)
	m, e = hang.Marks(slices.Repeat(rope(section(300, 1, 3)), 32), 100)
	want(t, "Marks: error", e, api.OK)
	want(t, "how many marks", len(m), 9601)
	want(t, "a mark in the middle", m[4801], ratio(960200, 3))
	want(t, "the last mark", m[9600], ratio(640000, 1))
}

// TestRopeLimits has ropes and marks whose numbers are too large, in any one place.
func TestRopeLimits(t *testing.T) {
	primes := []int{29, 27, 23, 19, 17, 13, 11, 7}
	whole := fine(1, primes...)
	for _, den := range primes {
		whole = append(whole, section(den-1, 1, den))
	}
	for _, row := range []struct {
		what string
		l    []hang.Section
		bar  int
		errs [2]api.Errno
	}{
		{"both numbers", fine(1, primes...), 1, [2]api.Errno{api.ErrLarge, api.ErrLarge}},
		{"only the denominator", fine(1, 29, 27, 25, 23, 19, 17, 16), 1, [2]api.Errno{api.ErrLarge, api.ErrLarge}},
		{"only the numerator", append(slices.Repeat(rope(section(300, 28, 29)), 31), section(1, 26, 27)), 100, [2]api.Errno{api.ErrLarge, api.ErrLarge}},
		{"only marks on the way", whole, 1, [2]api.Errno{api.OK, api.ErrLarge}},
		{"nothing, with large sums", append(slices.Repeat(rope(section(300, 28, 29)), 31), section(1, 18, 19)), 100, [2]api.Errno{api.OK, api.OK}},
		{"the least common multiple", fine(1, 29, 27, 25, 23, 19, 17, 16, 13, 11, 7), 1, [2]api.Errno{api.ErrLarge, api.ErrLarge}},
		{"the greatest sums", slices.Repeat(append(fine(300, 29, 27, 25, 23, 19, 17, 16, 13, 11, 7), slices.Repeat(rope(section(300, 29, 30)), 6)...), 2), 100, [2]api.Errno{api.ErrLarge, api.ErrLarge}},
	} {
		want(t, "errors: "+row.what, wantRope(t, row.l, row.bar), row.errs)
	}
}

func TestRopeByDefinition(t *testing.T) {
	d := &dice{19}
	count := map[[2]api.Errno]int{}
	for range 600 {
		count[wantRope(t, d.rope(4+d.below(28), 5+d.below(26)), 1+d.below(100))]++
	}
	if count[[2]api.Errno{}] < 100 || count[[2]api.Errno{api.ErrLarge, api.ErrLarge}] < 100 {
		t.Errorf("so many errors: %v", count)
	}
}

func TestTies(t *testing.T) {
	for _, row := range []struct {
		meshes, ties int
		l            []int
	}{
		{10, 4, []int{2, 3, 2, 3}},
		{10, 3, []int{3, 3, 4}},
		{10, 1, []int{10}},
		{1, 1, []int{1}},
		{5, 5, []int{1, 1, 1, 1, 1}},
		{7, 5, []int{1, 1, 2, 1, 2}},
		{300, 1, []int{300}},
		{300, 300, slices.Repeat([]int{1}, 300)},
		{300, 150, slices.Repeat([]int{2}, 150)},
	} {
		l, e := hang.Ties(row.meshes, row.ties)
		want(t, "Ties", l, row.l)
		want(t, "Ties: error", e, api.OK)
	}
	for _, meshes := range extremes() {
		for _, ties := range append(extremes(), meshes, meshes-1) {
			if wanted := firstOf(inRange(meshes, 1, 300), inRange(ties, 1, meshes)); wanted != api.OK {
				l, e := hang.Ties(meshes, ties)
				wantOnly(t, "Ties", l, e, wanted)
			}
		}
	}
	_, e := hang.Ties(10, 11)
	want(t, "more ties than meshes: error", e, api.ErrRange)
}

// TestTiesByDefinition finds the numbers that are rounded down by counting.
func TestTiesByDefinition(t *testing.T) {
	for meshes := 1; meshes <= 300; meshes += 1 + meshes/20 {
		for ties := 1; ties <= meshes; ties++ {
			var wanted []int
			before := 0
			for i := range ties {
				upTo := before
				for (upTo+1)*ties <= (i+1)*meshes {
					upTo++
				}
				wanted = append(wanted, upTo-before)
				before = upTo
			}
			l, e := hang.Ties(meshes, ties)
			want(t, "Ties", l, wanted)
			want(t, "Ties: error", e, api.OK)
		}
	}
}
