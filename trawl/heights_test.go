package trawl_test

import (
	"slices"
	"testing"

	"codend/api"
	"codend/trawl"
)

// risen has panels with the rises of their sides.
func risen(rises ...[]int) trawl.Trawl {
	var t trawl.Trawl
	for i, l := range rises {
		p := panel("p" + string(rune('a'+i)))
		for _, rise := range l {
			p.Sides = append(p.Sides, side(10, rise))
		}
		t.Panels = append(t.Panels, p)
	}
	return t
}

func with(t trawl.Trawl, seams ...trawl.Seam) trawl.Trawl {
	t.Seams = append(t.Seams, seams...)
	return t
}

func TestHeights(t *testing.T) {
	for _, row := range []struct {
		x trawl.Trawl
		l [][]int
		e api.Errno
	}{
		{tube(false), [][]int{{0, 0, 5, 5}, {0, 0, 5, 5}}, api.OK},
		{tube(true), nil, api.ErrConflict},
		{risen([]int{1, 2, -3}), [][]int{{0, 1, 3}}, api.OK},
		{risen([]int{-100000, -100000, 100000, 100000}), [][]int{{0, -100000, -200000, -100000}}, api.OK},
		{risen([]int{1, 2, -4}), nil, api.ErrConflict},
		{risen([]int{0, 0, 0}, []int{1, 2, -4}), nil, api.ErrConflict},
		{risen([]int{1, 2, -3}, []int{7, -7, 0}), [][]int{{0, 1, 3}, {0, 7, 0}}, api.OK},
		{with(risen([]int{1, 2, -3}, []int{-4, 5, -1}), seam(0, 0, 1, 2)), [][]int{{0, 1, 3}, {0, -4, 1}}, api.OK},
		{with(risen([]int{1, 2, -3}, []int{5, -4, -1}), seam(0, 1, 1, 0)), nil, api.ErrConflict},
		{with(risen([]int{1, 2, -3}, []int{-2, 8, -6}), seam(0, 1, 1, 0)), [][]int{{0, 1, 3}, {3, 1, 9}}, api.OK},
		{with(risen([]int{1, 2, -3}, []int{2, 8, -10}), twisted(0, 1, 1, 0)), [][]int{{0, 1, 3}, {1, 3, 11}}, api.OK},
		{with(risen([]int{1, 2, -3}, []int{2, 8, -10}), seam(0, 1, 1, 0)), nil, api.ErrConflict},
		{with(risen([]int{1, 2, -3}, []int{0, 0, 0}, []int{2, 8, -10}), twisted(2, 0, 0, 1)), [][]int{{0, 1, 3}, {0, 0, 0}, {1, 3, 11}}, api.OK},
		{with(risen([]int{6, -6, 1, -1}), seam(0, 0, 0, 1)), [][]int{{0, 6, 0, 1}}, api.OK},
		{with(risen([]int{6, -6, 1, -1}), twisted(0, 0, 0, 1)), nil, api.ErrConflict},
		{with(risen([]int{0, 0, 1, -1}), twisted(0, 0, 0, 1)), [][]int{{0, 0, 0, 1}}, api.OK},
	} {
		l, e := trawl.Heights(row.x)
		want(t, "Heights", l, row.l)
		want(t, "Heights: error", e, row.e)
		way, e := trawl.Clash(row.x)
		if row.e == api.OK {
			wantOnly(t, "Clash", way, e, api.ErrNone)
			continue
		}
		want(t, "Clash: error", e, api.OK)
		want(t, "CheckClash of Clash", trawl.CheckClash(row.x, way), api.OK)
	}
}

func TestBetween(t *testing.T) {
	two := with(risen([]int{1, 2, -3}, []int{2, 8, -10}, []int{3, 4, -7}), twisted(0, 1, 1, 0))
	torn := with(risen([]int{1, 2, -3}, []int{0, 0, 0}, []int{1, 1, 1}), seam(0, 0, 1, 0))
	for _, row := range []struct {
		x        trawl.Trawl
		from, to trawl.End
		n        int
		e        api.Errno
	}{
		{tube(false), end(0, 1), end(1, 3), 5, api.OK},
		{tube(false), end(1, 3), end(0, 1), -5, api.OK},
		{tube(false), end(1, 3), end(1, 3), 0, api.OK},
		{two, end(0, 0), end(1, 2), 11, api.OK},
		{two, end(1, 2), end(0, 1), -10, api.OK},
		{two, end(2, 1), end(2, 2), 4, api.OK},
		{two, end(0, 0), end(2, 0), 0, api.ErrApart},
		{two, end(2, 0), end(1, 0), 0, api.ErrApart},
		{torn, end(0, 0), end(2, 0), 0, api.ErrApart},
		{torn, end(0, 0), end(0, 0), 0, api.ErrConflict},
		{risen([]int{1, 2, -3}, []int{1, 1, 1}), end(0, 0), end(0, 1), 0, api.ErrConflict},
		{two, end(0, 0), end(3, 0), 0, api.ErrUnknown},
		{two, end(0, 3), end(2, 0), 0, api.ErrUnknown},
		{torn, end(0, 3), end(0, 0), 0, api.ErrUnknown},
	} {
		n, e := trawl.Between(row.x, row.from, row.to)
		want(t, "Between", n, row.n)
		want(t, "Between: error", e, row.e)
	}
	for _, n := range extremes() {
		if n < 0 || n > 3 {
			for _, e := range []trawl.End{end(n, 0), end(0, n), end(n, n)} {
				above, err := trawl.Between(tube(true), e, end(1, 0))
				wantOnly(t, "Between", above, err, api.ErrUnknown)
				above, err = trawl.Between(tube(true), end(1, 0), e)
				wantOnly(t, "Between", above, err, api.ErrUnknown)
			}
		}
	}
}

func TestCheckClash(t *testing.T) {
	spiral := risen([]int{1, 0, 0, 0}, []int{0, 0, 0})
	cone := with(risen([]int{7, -7, 2}), seam(0, 0, 0, 1))
	for _, row := range []struct {
		x trawl.Trawl
		l []trawl.Step
		e api.Errno
	}{
		{tube(true), steps(ahead(1, 0), back(0, 2), back(0, 1)), api.OK},
		{tube(true), steps(back(0, 2), back(0, 1), ahead(1, 0)), api.OK},
		{tube(true), steps(ahead(0, 1), ahead(0, 2), back(1, 0)), api.OK},
		{tube(true), steps(ahead(1, 0), back(0, 2), ahead(0, 1)), api.ErrProof},
		{tube(true), steps(ahead(1, 0), ahead(0, 2), back(0, 1)), api.ErrProof},
		{tube(true), steps(ahead(1, 0), back(0, 2)), api.ErrProof},
		{tube(true), steps(ahead(0, 1)), api.ErrProof},
		{tube(true), steps(ahead(0, 1), back(0, 1)), api.ErrProof},
		{tube(true), steps(ahead(0, 0), ahead(0, 1), ahead(0, 2), ahead(0, 3)), api.ErrProof},
		{tube(true), nil, api.ErrProof},
		{tube(false), nil, api.ErrProof},
		{cone, steps(ahead(0, 2)), api.OK},
		{cone, steps(back(0, 2)), api.OK},
		{cone, steps(ahead(0, 0), ahead(0, 1)), api.ErrProof},
		{cone, steps(ahead(0, 0), back(0, 0)), api.ErrProof},
		{cone, steps(back(0, 1), ahead(0, 1), ahead(0, 2)), api.OK},
		{spiral, steps(ahead(0, 0), ahead(0, 1), ahead(0, 2), ahead(0, 3)), api.OK},
		{spiral, steps(back(0, 3), back(0, 2), back(0, 1), back(0, 0)), api.OK},
		{spiral, steps(ahead(0, 0), ahead(0, 1), ahead(0, 3), ahead(0, 2)), api.ErrProof},
		{spiral, steps(ahead(0, 0), ahead(1, 1), ahead(1, 2), ahead(1, 0)), api.ErrProof},
		{spiral, steps(ahead(1, 0), ahead(1, 1), ahead(1, 2)), api.ErrProof},
		{spiral, steps(ahead(0, 0), ahead(1, 3)), api.ErrUnknown},
		{spiral, steps(ahead(0, 0), ahead(0, 1), ahead(0, 2), ahead(0, 3), back(2, 0)), api.ErrUnknown},
		{spiral, slices.Repeat(steps(ahead(0, 0), ahead(0, 1), ahead(0, 2), ahead(0, 3)), 64), api.OK},
		{spiral, append(slices.Repeat(steps(ahead(0, 0), ahead(0, 1), ahead(0, 2), ahead(0, 3)), 64), ahead(0, 0)), api.ErrMany},
		{spiral, slices.Repeat(steps(ahead(9, 9)), 257), api.ErrMany},
		{spiral, slices.Repeat(steps(ahead(9, 9)), 256), api.ErrUnknown},
	} {
		want(t, "CheckClash", trawl.CheckClash(row.x, row.l), row.e)
	}
	for _, n := range extremes() {
		if n < 0 || n > 3 {
			for _, e := range []trawl.End{end(n, 0), end(0, n), end(n, n)} {
				want(t, "CheckClash", trawl.CheckClash(tube(true), steps(ahead(0, 0), trawl.Step{End: e})), api.ErrUnknown)
			}
		}
	}
}

// provesClash follows a way along sides from corner to corner.
func provesClash(x trawl.Trawl, l []trawl.Step) bool {
	points, sum := pointsOf(x), 0
	at := func(e trawl.End) int { return points[e.Panel][e.Side] }
	var from, to []int
	for _, s := range l {
		a, b, rise := at(s.End), at(endOf(x, s.End)), x.Panels[s.End.Panel].Sides[s.End.Side].Rise
		if s.Back {
			a, b, rise = b, a, -rise
		}
		from, to, sum = append(from, a), append(to, b), sum+rise
	}
	return sum != 0 && slices.Equal(from[1:], to[:len(to)-1]) && from[0] == to[len(to)-1]
}

// TestHeightsByDefinition goes around all panels, and has short ways along sides of all sorts.
func TestHeightsByDefinition(t *testing.T) {
	proofs, level := 0, 0
	trawls(13, 1500, 6, func(d *dice, x trawl.Trawl) {
		wanted := heightsOf(x)
		heights, e := trawl.Heights(x)
		want(t, "Heights", heights, wanted)
		way, none := trawl.Clash(x)
		if wanted == nil {
			want(t, "Heights: error", e, api.ErrConflict)
			want(t, "Clash: error", none, api.OK)
			want(t, "CheckClash of Clash", trawl.CheckClash(x, way), api.OK)
			want(t, "whether Clash proves it", provesClash(x, way), true)
		} else {
			level++
			want(t, "Heights: error", e, api.OK)
			wantOnly(t, "Clash", way, none, api.ErrNone)
		}
		all := sidesOf(x)
		for range 20 {
			l := steps(trawl.Step{End: all[d.below(len(all))], Back: d.flip()})
			for range d.below(4) {
				l = append(l, trawl.Step{End: all[d.below(len(all))], Back: d.flip()})
			}
			err := api.ErrProof
			if provesClash(x, l) {
				err = api.OK
				proofs++
			}
			want(t, "CheckClash", trawl.CheckClash(x, l), err)
		}
	})
	if proofs < 100 || level < 500 {
		t.Errorf("only %d ways prove anything, and only %d trawls have heights", proofs, level)
	}
}

// TestBetweenByDefinition takes the difference of the heights of all corners.
func TestBetweenByDefinition(t *testing.T) {
	trawls(17, 100, 3, func(_ *dice, x trawl.Trawl) {
		heights, pieces := heightsOf(x), piecesOf(x)
		for _, from := range sidesOf(x) {
			for _, to := range sidesOf(x) {
				n, e := trawl.Between(x, from, to)
				switch {
				case pieces[from.Panel] != pieces[to.Panel]:
					wantOnly(t, "Between", n, e, api.ErrApart)
				case heights == nil:
					wantOnly(t, "Between", n, e, api.ErrConflict)
				default:
					want(t, "Between", n, heights[to.Panel][to.Side]-heights[from.Panel][from.Side])
					want(t, "Between: error", e, api.OK)
				}
			}
		}
	})
}
