package taper_test

import (
	"math"
	"strings"
	"testing"

	"codend/api"
	"codend/netting"
	"codend/taper"
)

// edge is what is known of an edge: its knots, bars and meshes.
type edge struct {
	knots  []api.Knot
	bars   []api.Bar
	meshes [][2]int
}

// follow goes along an edge letter by letter.
func follow(at api.Knot, w string, times int, out bool) edge {
	side := -1
	if out {
		side = 1
	}
	l := edge{knots: []api.Knot{at}}
	for _, letter := range strings.Repeat(w, times) {
		switch letter {
		case 'N':
			l.meshes = append(l.meshes, [2]int{at.X, at.Y + 1})
			at = knot(at.X, at.Y+2)
		case 'B':
			l.bars = append(l.bars, api.Bar{X: at.X, Y: at.Y, Side: side})
			at = knot(at.X+side, at.Y+1)
		case 'T':
			l.meshes = append(l.meshes, [2]int{at.X + side, at.Y})
			at = knot(at.X+2*side, at.Y)
		}
		l.knots = append(l.knots, at)
	}
	return l
}

// wantEdge holds all three functions against an edge, or against an error and no edge.
func wantEdge(t *testing.T, at api.Knot, w string, times int, out bool, l edge, wanted api.Errno) {
	t.Helper()
	knots, e := taper.Walk(at, w, times, out)
	want(t, "Walk "+w, knots, l.knots)
	want(t, "Walk: error", e, wanted)
	bars, e := taper.Bars(at, w, times, out)
	want(t, "Bars "+w, bars, l.bars)
	want(t, "Bars: error", e, wanted)
	meshes, e := taper.Meshes(at, w, times, out)
	want(t, "Meshes "+w, meshes, l.meshes)
	want(t, "Meshes: error", e, wanted)
}

func TestEdges(t *testing.T) {
	wantEdge(t, knot(0, 0), "NBB", 1, true, edge{
		knots:  []api.Knot{knot(0, 0), knot(0, 2), knot(1, 3), knot(2, 4)},
		bars:   []api.Bar{{X: 0, Y: 2, Side: 1}, {X: 1, Y: 3, Side: 1}},
		meshes: [][2]int{{0, 1}},
	}, api.OK)
	wantEdge(t, knot(0, 0), "NBB", 1, false, edge{
		knots:  []api.Knot{knot(0, 0), knot(0, 2), knot(-1, 3), knot(-2, 4)},
		bars:   []api.Bar{{X: 0, Y: 2, Side: -1}, {X: -1, Y: 3, Side: -1}},
		meshes: [][2]int{{0, 1}},
	}, api.OK)
	wantEdge(t, knot(-3, 5), "TB", 2, true, edge{
		knots:  []api.Knot{knot(-3, 5), knot(-1, 5), knot(0, 6), knot(2, 6), knot(3, 7)},
		bars:   []api.Bar{{X: -1, Y: 5, Side: 1}, {X: 2, Y: 6, Side: 1}},
		meshes: [][2]int{{-2, 5}, {1, 6}},
	}, api.OK)
	wantEdge(t, knot(4, -2), "TN", 2, false, edge{
		knots:  []api.Knot{knot(4, -2), knot(2, -2), knot(2, 0), knot(0, 0), knot(0, 2)},
		meshes: [][2]int{{3, -2}, {2, -1}, {1, 0}, {0, 1}},
	}, api.OK)
	wantEdge(t, knot(1, 1), "B", 3, false, edge{
		knots: []api.Knot{knot(1, 1), knot(0, 2), knot(-1, 3), knot(-2, 4)},
		bars:  []api.Bar{{X: 1, Y: 1, Side: -1}, {X: 0, Y: 2, Side: -1}, {X: -1, Y: 3, Side: -1}},
	}, api.OK)
	for _, w := range someWords() {
		for _, at := range []api.Knot{knot(0, 0), knot(7, -13), knot(-1000, 400)} {
			for _, times := range []int{1, 2, 4, 256 / len(w)} {
				wantEdge(t, at, w, times, true, follow(at, w, times, true), api.OK)
				wantEdge(t, at, w, times, false, follow(at, w, times, false), api.OK)
			}
		}
	}
}

func TestLongEdges(t *testing.T) {
	for _, row := range []struct {
		w     string
		times int
		e     api.Errno
	}{
		{"B", 256, api.OK}, {"NB", 128, api.OK}, {"NB", 129, api.ErrLong}, {"NB", 256, api.ErrLong}, {"NBT", 85, api.OK}, {"NBT", 86, api.ErrLong}, {strings.Repeat("T", 64), 4, api.OK}, {strings.Repeat("T", 64), 5, api.ErrLong}, {strings.Repeat("T", 64), 256, api.ErrLong},
		{"B", 0, api.ErrRange}, {"B", -1, api.ErrRange}, {"B", 257, api.ErrRange}, {"NB", 0, api.ErrRange}, {"NB", 257, api.ErrRange}, {"NB", math.MaxInt, api.ErrRange}, {"NB", math.MinInt, api.ErrRange}, {"NB", 1 << 62, api.ErrRange},
	} {
		for _, out := range []bool{true, false} {
			l := edge{}
			if row.e == api.OK {
				l = follow(knot(0, 0), row.w, row.times, out)
			}
			wantEdge(t, knot(0, 0), row.w, row.times, out, l, row.e)
			// A knot that is too near to the border is the last error.
			if row.e != api.OK {
				wantEdge(t, knot(99999, 99999), row.w, row.times, out, l, row.e)
				wantEdge(t, knot(-100000, 100000), row.w, row.times, out, l, row.e)
			}
		}
	}
}

func TestEdgesAtTheBorder(t *testing.T) {
	const most = 100000
	for _, row := range []struct {
		at    api.Knot
		w     string
		times int
		out   bool
		e     api.Errno
	}{
		{knot(most, 0), "T", 1, true, api.ErrOutside}, {knot(most, 0), "B", 1, true, api.ErrOutside}, {knot(most, 0), "N", 1, true, api.OK}, {knot(most, 0), "T", 1, false, api.OK},
		{knot(-most, 0), "T", 1, false, api.ErrOutside}, {knot(-most, 0), "B", 1, false, api.ErrOutside}, {knot(-most, 0), "N", 1, false, api.OK}, {knot(-most, 0), "T", 1, true, api.OK},
		{knot(most-1, 1), "B", 1, true, api.OK}, {knot(most-1, 1), "T", 1, true, api.ErrOutside}, {knot(most-1, 1), "B", 2, true, api.ErrOutside}, {knot(1-most, 1), "B", 1, false, api.OK}, {knot(1-most, 1), "T", 1, false, api.ErrOutside},
		{knot(most-2, 0), "T", 1, true, api.OK}, {knot(most-2, 0), "BT", 1, true, api.ErrOutside}, {knot(most-2, 0), "TB", 1, true, api.ErrOutside}, {knot(most-2, 0), "TN", 1, true, api.OK}, {knot(most-256, 0), "B", 256, true, api.OK}, {knot(most-254, 0), "B", 255, true, api.ErrOutside},
		{knot(0, most), "N", 1, true, api.ErrOutside}, {knot(0, most), "B", 1, true, api.ErrOutside}, {knot(0, most), "B", 1, false, api.ErrOutside}, {knot(0, most), "T", 1, true, api.OK}, {knot(0, most), "T", 256, false, api.OK},
		{knot(1, most-1), "B", 1, false, api.OK}, {knot(1, most-1), "N", 1, true, api.ErrOutside}, {knot(0, most-2), "N", 1, true, api.OK}, {knot(0, most-2), "NB", 1, true, api.ErrOutside}, {knot(0, most-2), "B", 3, true, api.ErrOutside},
		{knot(0, -most), "N", 1, true, api.OK}, {knot(-most, -most), "B", 256, true, api.OK}, {knot(most, -most), "B", 256, false, api.OK}, {knot(most, most), "T", 1, false, api.OK}, {knot(most, most), "T", 1, true, api.ErrOutside},
	} {
		l := edge{}
		if row.e == api.OK {
			l = follow(row.at, row.w, row.times, row.out)
		}
		wantEdge(t, row.at, row.w, row.times, row.out, l, row.e)
	}
}

func TestEdgeErrors(t *testing.T) {
	for _, row := range []struct {
		at api.Knot
		e  api.Errno
	}{
		{knot(1, 0), api.ErrLattice}, {knot(0, -1), api.ErrLattice}, {knot(100001, 0), api.ErrRange}, {knot(0, 100001), api.ErrRange}, {knot(100002, 0), api.ErrRange}, {knot(0, -100002), api.ErrRange}, {knot(-100001, 1), api.ErrRange}, {knot(math.MinInt, math.MaxInt), api.ErrRange},
	} {
		for _, w := range []string{"N", "", "X", strings.Repeat("B", 64)} {
			for _, times := range []int{1, 0, 5, 257} {
				wantEdge(t, row.at, w, times, true, edge{}, row.e)
				wantEdge(t, row.at, w, times, false, edge{}, row.e)
			}
		}
	}
	for _, bad := range badWords() {
		for _, times := range []int{1, 0, 256, 257} {
			wantEdge(t, knot(100000, 100000), bad.w, times, true, edge{}, bad.e)
			wantEdge(t, knot(0, 0), bad.w, times, false, edge{}, bad.e)
		}
	}
}

// TestBarsOfEdgesAreNets holds bars and meshes of edges against chapter 1.
func TestBarsOfEdgesAreNets(t *testing.T) {
	for _, w := range someWords() {
		for _, out := range []bool{true, false} {
			bars, _ := taper.Bars(knot(2, 4), w, 2, out)
			want(t, "CheckNet of bars", netting.CheckNet(bars), api.OK)
			meshes, _ := taper.Meshes(knot(2, 4), w, 2, out)
			want(t, "letters", len(bars)+len(meshes), 2*len(w))
			for _, m := range meshes {
				want(t, "odd sum of a mesh", (m[0]+m[1])%2 != 0, true)
			}
		}
	}
}
