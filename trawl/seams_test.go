package trawl_test

import (
	"slices"
	"testing"

	"codend/api"
	"codend/trawl"
)

func TestFree(t *testing.T) {
	for _, row := range []struct {
		x trawl.Trawl
		l []trawl.End
	}{
		{tube(false), []trawl.End{end(0, 0), end(0, 2), end(1, 0), end(1, 2)}},
		{sewn(polygons(3)), []trawl.End{end(0, 0), end(0, 1), end(0, 2)}},
		{sewn(polygons(4), seam(0, 3, 0, 1)), []trawl.End{end(0, 0), end(0, 2)}},
		{sewn(polygons(3, 3), seam(1, 2, 0, 1)), []trawl.End{end(0, 0), end(0, 2), end(1, 0), end(1, 1)}},
		{full(), nil},
	} {
		l, e := trawl.Free(row.x)
		want(t, "Free", l, row.l)
		want(t, "Free: error", e, api.OK)
	}
}

func TestMate(t *testing.T) {
	for _, row := range []struct {
		x     trawl.Trawl
		e     trawl.End
		mate  trawl.End
		twist bool
		err   api.Errno
	}{
		{tube(true), end(0, 1), end(1, 3), false, api.OK},
		{tube(true), end(1, 3), end(0, 1), false, api.OK},
		{tube(true), end(0, 3), end(1, 1), true, api.OK},
		{tube(true), end(1, 1), end(0, 3), true, api.OK},
		{tube(true), end(0, 0), trawl.End{}, false, api.ErrNone},
		{sewn(polygons(4), twisted(0, 3, 0, 1)), end(0, 1), end(0, 3), true, api.OK},
		{sewn(polygons(4), twisted(0, 3, 0, 1)), end(0, 3), end(0, 1), true, api.OK},
		{sewn(polygons(4), twisted(0, 3, 0, 1)), end(0, 2), trawl.End{}, false, api.ErrNone},
		{sewn(polygons(3, 4)), end(0, 3), trawl.End{}, false, api.ErrUnknown},
		{sewn(polygons(3, 4)), end(1, 3), trawl.End{}, false, api.ErrNone},
	} {
		mate, twist, e := trawl.Mate(row.x, row.e)
		want(t, "Mate", mate, row.mate)
		want(t, "Mate: twisted", twist, row.twist)
		want(t, "Mate: error", e, row.err)
	}
	for _, n := range extremes() {
		if n < 0 || n > 3 {
			for _, e := range []trawl.End{end(n, 0), end(0, n), end(n, n)} {
				mate, twist, err := trawl.Mate(tube(true), e)
				wantOnly(t, "Mate", pair[trawl.End, bool]{mate, twist}, err, api.ErrUnknown)
			}
		}
	}
}

// TestMatesByDefinition looks for the seam of each side.
func TestMatesByDefinition(t *testing.T) {
	trawls(3, 300, 6, func(_ *dice, x trawl.Trawl) {
		free, _ := trawl.Free(x)
		want(t, "Free", free, freeOf(x))
		for _, e := range sidesOf(x) {
			s, found := seamOf(x, e)
			mate, twist, err := trawl.Mate(x, e)
			if !found {
				wantOnly(t, "Mate", pair[trawl.End, bool]{mate, twist}, err, api.ErrNone)
				continue
			}
			want(t, "Mate", mate, s.B)
			want(t, "Mate: twisted", twist, s.Twisted)
			want(t, "Mate: error", err, api.OK)
		}
	})
}

func TestSew(t *testing.T) {
	for _, s := range judgedSeams() {
		got, e := trawl.Sew(joinable(), s.x)
		wantOnly(t, "Sew", got, e, s.e)
		if s.e == api.OK {
			wanted := joinable()
			wanted.Seams = append(wanted.Seams, s.x)
			wantTrawl(t, "Sew", got, wanted)
		}
		got, e = trawl.Sew(full(), s.x)
		wantOnly(t, "Sew to MaxSeams seams", got, e, api.ErrMany)
	}
	last := full().Seams[63]
	got, e := trawl.Sew(sewn(full().Panels, full().Seams[:63]...), last)
	want(t, "Sew of the last seam: error", e, api.OK)
	wantTrawl(t, "Sew of the last seam", got, full())
}

func TestUnsew(t *testing.T) {
	for i := range 64 {
		wanted := full()
		wanted.Seams = slices.Delete(wanted.Seams, i, i+1)
		got, e := trawl.Unsew(full(), i)
		want(t, "Unsew: error", e, api.OK)
		wantTrawl(t, "Unsew", got, wanted)
	}
	for _, n := range extremes() {
		if n < 0 || n > 1 {
			got, e := trawl.Unsew(tube(true), n)
			wantOnly(t, "Unsew", got, e, api.ErrUnknown)
		}
	}
	got, e := trawl.Unsew(sewn(polygons(3)), 0)
	wantOnly(t, "Unsew without seams", got, e, api.ErrUnknown)
	got, e = trawl.Unsew(sewn(polygons(3), seam(0, 0, 0, 1)), 0)
	want(t, "Unsew of the only seam: error", e, api.OK)
	wantTrawl(t, "Unsew of the only seam", got, sewn(polygons(3)))
}

func TestFlip(t *testing.T) {
	p := panel("p", side(1, 10), side(2, -20), side(3, 30), side(4, 100000), side(5, 0))
	q := panel("q", side(1, 1), side(2, 2), side(3, -100000))
	x := sewn([]trawl.Panel{p, q}, seam(0, 0, 1, 1), twisted(1, 2, 0, 4), seam(0, 1, 0, 2))
	turned := panel("p", side(5, 0), side(4, -100000), side(3, -30), side(2, 20), side(1, -10))
	got, e := trawl.Flip(x, 0)
	want(t, "Flip: error", e, api.OK)
	wantTrawl(t, "Flip", got, sewn([]trawl.Panel{turned, q}, twisted(0, 4, 1, 1), seam(1, 2, 0, 0), seam(0, 3, 0, 2)))
	turned = panel("q", side(3, 100000), side(2, -2), side(1, -1))
	got, e = trawl.Flip(x, 1)
	want(t, "Flip: error", e, api.OK)
	wantTrawl(t, "Flip", got, sewn([]trawl.Panel{p, turned}, twisted(0, 0, 1, 1), seam(1, 0, 0, 4), seam(0, 1, 0, 2)))
	x = sewn(polygons(6, 3), twisted(0, 1, 0, 3))
	got, e = trawl.Flip(x, 0)
	want(t, "Flip of a panel sewn to itself: error", e, api.OK)
	wantTrawl(t, "Flip of a panel sewn to itself", got, sewn(polygons(6, 3), twisted(0, 4, 0, 2)))
	got, e = trawl.Flip(x, 1)
	want(t, "Flip of a panel without seams: error", e, api.OK)
	wantTrawl(t, "Flip of a panel without seams", got, x)
	for _, n := range extremes() {
		if n < 0 || n > 1 {
			got, e := trawl.Flip(x, n)
			wantOnly(t, "Flip", got, e, api.ErrUnknown)
		}
	}
}
