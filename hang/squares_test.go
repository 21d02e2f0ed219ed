package hang_test

import (
	"testing"

	"codend/api"
	"codend/hang"
)

func TestCompare(t *testing.T) {
	most, least := square(4000000000000, 1), square(1, 810000)
	for _, row := range []struct {
		a, b hang.Square
		n    int
	}{
		{square(1, 3), square(2, 5), -1},
		{square(2, 5), square(1, 3), 1},
		{square(2, 5), square(2, 5), 0},
		{square(0, 1), square(0, 1), 0},
		{square(0, 1), least, -1},
		{least, square(1, 809999), -1},
		{most, most, 0},
		{most, least, 1},
		{least, most, -1},
		{square(3999999999999, 1), most, -1},
		{square(3999999999997, 810000), square(3999999999998, 809999), -1},
		{square(3999999999998, 809999), square(3999999999997, 810000), 1},
		{square(3999999999997, 810000), most, -1},
		{square(809999, 810000), square(809998, 809999), 1},
		{square(809999, 810000), square(1, 1), -1},
		{square(5, 1), square(9, 2), 1},
	} {
		n, e := hang.Compare(row.a, row.b)
		want(t, "Compare", n, row.n)
		want(t, "Compare: error", e, api.OK)
	}
	for _, a := range judgedSquares() {
		for _, b := range judgedSquares() {
			n, e := hang.Compare(a.x, b.x)
			wantOnly(t, "Compare", n, e, firstOf(a.e, b.e))
			if e == api.OK {
				want(t, "Compare", n, ofSquare(a.x).Cmp(ofSquare(b.x)))
			}
		}
	}
}

// TestCompareNeighbours has squares that are so near that floats do not tell them apart: whole numbers less a part.
func TestCompareNeighbours(t *testing.T) {
	d := &dice{17}
	for range 3000 {
		den, whole := 810000-d.below(1000), 4938271-d.below(1000)
		a, b := square(whole*den-1, den), square(whole*(den-1)-1, den-1)
		for _, row := range []struct {
			a, b hang.Square
			n    int
		}{{a, b, 1}, {b, a, -1}, {a, a, 0}, {b, b, 0}} {
			n, e := hang.Compare(row.a, row.b)
			want(t, "Compare", n, row.n)
			want(t, "Compare: error", e, api.OK)
		}
	}
}

func TestRoot(t *testing.T) {
	for _, row := range []struct {
		s     hang.Square
		roots [3]api.Ratio
	}{
		{square(750000, 1), [3]api.Ratio{ratio(866, 1), ratio(866, 1), ratio(43301, 50)}},
		{square(0, 1), [3]api.Ratio{ratio(0, 1), ratio(0, 1), ratio(0, 1)}},
		{square(1, 1), [3]api.Ratio{ratio(1, 1), ratio(1, 1), ratio(1, 1)}},
		{square(2, 1), [3]api.Ratio{ratio(1, 1), ratio(7, 5), ratio(141, 100)}},
		{square(3, 1), [3]api.Ratio{ratio(1, 1), ratio(17, 10), ratio(173, 100)}},
		{square(4, 1), [3]api.Ratio{ratio(2, 1), ratio(2, 1), ratio(2, 1)}},
		{square(1, 2), [3]api.Ratio{ratio(0, 1), ratio(7, 10), ratio(7, 10)}},
		{square(16, 25), [3]api.Ratio{ratio(0, 1), ratio(4, 5), ratio(4, 5)}},
		{square(1, 9), [3]api.Ratio{ratio(0, 1), ratio(3, 10), ratio(33, 100)}},
		{square(1, 100), [3]api.Ratio{ratio(0, 1), ratio(1, 10), ratio(1, 10)}},
		{square(1, 101), [3]api.Ratio{ratio(0, 1), ratio(0, 1), ratio(9, 100)}},
		{square(1, 10000), [3]api.Ratio{ratio(0, 1), ratio(0, 1), ratio(1, 100)}},
		{square(1, 10001), [3]api.Ratio{ratio(0, 1), ratio(0, 1), ratio(0, 1)}},
		{square(809999, 810000), [3]api.Ratio{ratio(0, 1), ratio(9, 10), ratio(99, 100)}},
		{square(4000000000000, 1), [3]api.Ratio{ratio(2000000, 1), ratio(2000000, 1), ratio(2000000, 1)}},
		{square(3999999999999, 1), [3]api.Ratio{ratio(1999999, 1), ratio(19999999, 10), ratio(199999999, 100)}},
	} {
		for decimals, wanted := range row.roots {
			r, e := hang.Root(row.s, decimals)
			want(t, "Root", r, wanted)
			want(t, "Root: error", e, api.OK)
		}
	}
	for _, s := range judgedSquares() {
		for _, decimals := range extremes() {
			r, e := hang.Root(s.x, decimals)
			wantOnly(t, "Root", r, e, firstOf(s.e, inRange(decimals, 0, 2)))
		}
	}
}

// TestFullest compares the fullness of all ratios.
func TestFullest(t *testing.T) {
	fixed := map[int]api.Ratio{1: ratio(1, 1), 2: ratio(1, 2), 3: ratio(2, 3), 4: ratio(2, 3), 5: ratio(2, 3), 6: ratio(2, 3), 7: ratio(5, 7), 9: ratio(5, 7), 10: ratio(7, 10), 16: ratio(7, 10), 17: ratio(12, 17), 30: ratio(12, 17)}
	for _, parts := range extremes() {
		if parts < 1 || parts > 30 {
			r, e := hang.Fullest(parts)
			wantOnly(t, "Fullest", r, e, api.ErrRange)
		}
	}
	for parts := 1; parts <= 30; parts++ {
		wanted, top := api.Ratio{}, exact(-1, 1)
		for _, r := range allRatios(parts) {
			wide := product(ofRatio(r), ofRatio(r))
			full := product(exact(4, 1), wide, rest(wide))
			if c := full.Cmp(top); c > 0 || c == 0 && ofRatio(r).Cmp(ofRatio(wanted)) < 0 {
				wanted, top = r, full
			}
		}
		r, e := hang.Fullest(parts)
		want(t, "Fullest", r, wanted)
		want(t, "Fullest: error", e, api.OK)
		if known, ok := fixed[parts]; ok {
			want(t, "Fullest", r, known)
		}
	}
}
