package trawl_test

import (
	"slices"
	"testing"

	"codend/api"
	"codend/trawl"
)

func way(panel int, seams ...int) trawl.Way {
	return trawl.Way{Panel: panel, Seams: seams}
}

func TestSigns(t *testing.T) {
	for _, row := range []struct {
		x trawl.Trawl
		l []int
		e api.Errno
	}{
		{tube(false), []int{1, 1}, api.OK},
		{tube(true), nil, api.ErrConflict},
		{sewn(polygons(3)), []int{1}, api.OK},
		{sewn(polygons(3), seam(0, 0, 0, 1)), []int{1}, api.OK},
		{sewn(polygons(3), twisted(0, 0, 0, 1)), nil, api.ErrConflict},
		{sewn(polygons(3, 3), twisted(0, 0, 1, 1)), []int{1, -1}, api.OK},
		{sewn(polygons(3, 3), twisted(1, 0, 0, 1)), []int{1, -1}, api.OK},
		{sewn(polygons(3, 3), twisted(1, 0, 0, 1), twisted(0, 2, 1, 2)), []int{1, -1}, api.OK},
		{sewn(polygons(3, 3, 3), seam(0, 0, 1, 0), twisted(1, 1, 2, 0)), []int{1, 1, -1}, api.OK},
		{sewn(polygons(3, 3, 3), twisted(0, 0, 1, 0), twisted(1, 1, 2, 0)), []int{1, -1, 1}, api.OK},
		{sewn(polygons(3, 3, 3), twisted(0, 0, 1, 0), twisted(1, 1, 2, 0), twisted(2, 1, 0, 1)), nil, api.ErrConflict},
		{sewn(polygons(3, 3, 3), twisted(0, 0, 1, 0), twisted(1, 1, 2, 0), seam(2, 1, 0, 1)), []int{1, -1, 1}, api.OK},
		{sewn(polygons(3, 3, 3), twisted(2, 0, 1, 0)), []int{1, 1, -1}, api.OK},
		{sewn(polygons(3, 3, 3, 3), twisted(2, 0, 0, 0), twisted(3, 0, 1, 0)), []int{1, 1, -1, -1}, api.OK},
		{sewn(polygons(3, 3), twisted(1, 0, 1, 1)), nil, api.ErrConflict},
	} {
		l, e := trawl.Signs(row.x)
		want(t, "Signs", l, row.l)
		want(t, "Signs: error", e, row.e)
		w, e := trawl.Twist(row.x)
		if row.e == api.OK {
			wantOnly(t, "Twist", w, e, api.ErrNone)
			continue
		}
		want(t, "Twist: error", e, api.OK)
		want(t, "CheckTwist of Twist", trawl.CheckTwist(row.x, w), api.OK)
	}
}

func TestCheckTwist(t *testing.T) {
	strip := sewn(polygons(4, 3), seam(0, 0, 1, 0), twisted(0, 1, 0, 3), seam(1, 1, 1, 2))
	line := sewn(polygons(3, 3, 3), twisted(0, 0, 1, 0), seam(1, 1, 2, 0))
	for _, row := range []struct {
		x trawl.Trawl
		w trawl.Way
		e api.Errno
	}{
		{tube(true), way(0, 0, 1), api.OK},
		{tube(true), way(0, 1, 0), api.OK},
		{tube(true), way(1, 0, 1), api.OK},
		{tube(true), way(1, 1, 0), api.OK},
		{tube(true), way(0, 0, 0, 0, 1), api.OK},
		{tube(true), way(0, 1, 1, 1, 0), api.OK},
		{tube(true), way(0, 0, 1, 0, 1, 0, 1), api.OK},
		{tube(true), way(0), api.ErrProof},
		{tube(true), way(0, 1), api.ErrProof},
		{tube(true), way(0, 0), api.ErrProof},
		{tube(true), way(0, 0, 0), api.ErrProof},
		{tube(true), way(0, 1, 1), api.ErrProof},
		{tube(true), way(0, 0, 1, 0), api.ErrProof},
		{tube(true), way(0, 0, 1, 0, 1), api.ErrProof},
		{tube(false), way(0, 0, 1), api.ErrProof},
		{strip, way(0, 1), api.OK},
		{strip, way(1, 0, 1, 0), api.OK},
		{strip, way(1, 2, 0, 1, 0, 2), api.OK},
		{strip, way(1, 1), api.ErrProof},
		{strip, way(1, 0, 1), api.ErrProof},
		{strip, way(0, 1, 1), api.ErrProof},
		{strip, way(0, 1, 2), api.ErrProof},
		{strip, way(0, 2, 1), api.ErrProof},
		{line, way(0, 0), api.ErrProof},
		{line, way(0, 1), api.ErrProof},
		{line, way(2, 0), api.ErrProof},
		{line, way(2, 1, 0, 1), api.ErrProof},
		{tube(true), way(2, 0, 1), api.ErrUnknown},
		{tube(true), way(-1), api.ErrUnknown},
		{tube(true), way(0, 0, 2), api.ErrUnknown},
		{tube(true), way(0, 0, 1, -1), api.ErrUnknown},
		{strip, way(0, 2, 1, 3), api.ErrUnknown},
		{sewn(polygons(3)), way(0, 0), api.ErrUnknown},
		{strip, way(0, slices.Repeat([]int{1}, 255)...), api.OK},
		{strip, way(0, slices.Repeat([]int{1}, 256)...), api.ErrProof},
		{strip, way(1, append(slices.Repeat([]int{2}, 253), 0, 1, 0)...), api.OK},
		{strip, way(0, slices.Repeat([]int{1}, 257)...), api.ErrMany},
		{strip, way(0, slices.Repeat([]int{-1}, 257)...), api.ErrMany},
		{strip, way(-1, slices.Repeat([]int{1}, 257)...), api.ErrMany},
		{strip, way(-1, slices.Repeat([]int{-1}, 256)...), api.ErrUnknown},
	} {
		want(t, "CheckTwist", trawl.CheckTwist(row.x, row.w), row.e)
	}
	for _, n := range extremes() {
		if n < 0 || n > 1 {
			want(t, "CheckTwist of a panel", trawl.CheckTwist(tube(true), way(n, 0, 1)), api.ErrUnknown)
			want(t, "CheckTwist of a seam", trawl.CheckTwist(tube(true), way(0, 0, n)), api.ErrUnknown)
		}
	}
}

// provesTwist follows a way round to all panels at which it may be.
func provesTwist(x trawl.Trawl, w trawl.Way) bool {
	at, odd := map[int]bool{w.Panel: true}, false
	for _, i := range w.Seams {
		next := map[int]bool{}
		s := x.Seams[i]
		if at[s.A.Panel] {
			next[s.B.Panel] = true
		}
		if at[s.B.Panel] {
			next[s.A.Panel] = true
		}
		at, odd = next, odd != s.Twisted
	}
	return at[w.Panel] && odd
}

// TestSignsByDefinition tries all signs, and short ways round of all sorts.
func TestSignsByDefinition(t *testing.T) {
	proofs := 0
	trawls(11, 1500, 6, func(d *dice, x trawl.Trawl) {
		wanted := signsOf(x)
		signs, e := trawl.Signs(x)
		want(t, "Signs", signs, wanted)
		w, none := trawl.Twist(x)
		if wanted == nil {
			want(t, "Signs: error", e, api.ErrConflict)
			want(t, "Twist: error", none, api.OK)
			want(t, "CheckTwist of Twist", trawl.CheckTwist(x, w), api.OK)
			want(t, "whether Twist proves it", provesTwist(x, w), true)
		} else {
			want(t, "Signs: error", e, api.OK)
			wantOnly(t, "Twist", w, none, api.ErrNone)
		}
		for range 20 {
			try := way(d.below(len(x.Panels)))
			for range d.below(5) {
				if len(x.Seams) > 0 {
					try.Seams = append(try.Seams, d.below(len(x.Seams)))
				}
			}
			err := api.ErrProof
			if provesTwist(x, try) {
				err = api.OK
				proofs++
			}
			want(t, "CheckTwist", trawl.CheckTwist(x, try), err)
		}
	})
	if proofs < 100 {
		t.Errorf("only %d ways prove anything", proofs)
	}
}
