package trawl_test

import (
	"fmt"
	"slices"
	"testing"

	"codend/api"
	"codend/trawl"
)

// TestEitherThereAreSignsOrAWayRound and likewise heights or a way along sides.
func TestEitherThereAreSignsOrAWayRound(t *testing.T) {
	count := map[string]int{}
	trawls(23, 600, 16, func(_ *dice, x trawl.Trawl) {
		signs, e := trawl.Signs(x)
		w, none := trawl.Twist(x)
		switch {
		case e == api.OK && none == api.ErrNone:
			count["signs"]++
			want(t, "whether they are signs", areSigns(x, signs), true)
		case e == api.ErrConflict && none == api.OK:
			count["twists"]++
			want(t, "CheckTwist", trawl.CheckTwist(x, w), api.OK)
			want(t, "whether it is a way round", provesTwist(x, w), true)
		default:
			t.Errorf("signs with the error %d, and a way round with the error %d", e, none)
		}
		heights, e := trawl.Heights(x)
		l, none := trawl.Clash(x)
		switch {
		case e == api.OK && none == api.ErrNone:
			count["heights"]++
			want(t, "whether they are heights", areHeights(x, heights), true)
		case e == api.ErrConflict && none == api.OK:
			count["clashes"]++
			want(t, "CheckClash", trawl.CheckClash(x, l), api.OK)
			want(t, "whether it is a way along sides", provesClash(x, l), true)
		default:
			t.Errorf("heights with the error %d, and a way along sides with the error %d", e, none)
		}
	})
	if count["signs"] < 100 || count["twists"] < 100 || count["heights"] < 100 || count["clashes"] < 100 {
		t.Errorf("too few of a sort: %v", count)
	}
}

// TestHeightsAreTheSameByEveryWay walks along sides at random, and takes another corner of the same point here and there.
func TestHeightsAreTheSameByEveryWay(t *testing.T) {
	d := &dice{29}
	for range 100 {
		x := d.level(d.wild(16))
		heights, e := trawl.Heights(x)
		want(t, "Heights: error", e, api.OK)
		points := pointsOf(x)
		all := sidesOf(x)
		start := all[d.below(len(all))]
		at, sum := start, 0
		for range 200 {
			same := slices.DeleteFunc(slices.Clone(all), func(e trawl.End) bool { return points[e.Panel][e.Side] != points[at.Panel][at.Side] })
			at = same[d.below(len(same))]
			sum += x.Panels[at.Panel].Sides[at.Side].Rise
			at = endOf(x, at)
			want(t, "the height by a way", heights[at.Panel][at.Side]-heights[start.Panel][start.Side], sum)
			above, e := trawl.Between(x, start, at)
			want(t, "Between", above, sum)
			want(t, "Between: error", e, api.OK)
		}
	}
}

func TestEachFreeSideIsInOneOpening(t *testing.T) {
	trawls(31, 600, 16, func(_ *dice, x trawl.Trawl) {
		openings, _ := trawl.Openings(x)
		all := slices.Concat(openings...)
		slices.SortFunc(all, func(a, b trawl.End) int { return (a.Panel-b.Panel)*100 + a.Side - b.Side })
		free, _ := trawl.Free(x)
		want(t, "the sides of all openings", all, free)
	})
}

func TestHandlesAreNeverBelowZero(t *testing.T) {
	handles := 0
	trawls(37, 600, 16, func(_ *dice, x trawl.Trawl) {
		kinds, _ := trawl.Kinds(x)
		counts, _ := trawl.Count(x)
		euler, openings := 0, 0
		for _, k := range kinds {
			if k.Handles < 0 {
				t.Errorf("%d handles", k.Handles)
			}
			if k.Twosided {
				euler -= k.Handles
			}
			handles += k.Handles
			euler += 2 - k.Handles - k.Openings
			openings += k.Openings
		}
		want(t, "Euler's number by kinds", counts.Euler, euler)
		want(t, "the openings of all kinds", counts.Openings, openings)
		want(t, "the number of kinds", counts.Pieces, len(kinds))
	})
	if handles < 500 {
		t.Errorf("only %d handles", handles)
	}
}

func TestASeamMoreOrLess(t *testing.T) {
	changes := map[int]int{}
	trawls(41, 400, 10, func(_ *dice, x trawl.Trawl) {
		after, _ := trawl.Count(x)
		for i, s := range x.Seams {
			less, e := trawl.Unsew(x, i)
			want(t, "Unsew: error", e, api.OK)
			before, _ := trawl.Count(less)
			change := after.Euler - before.Euler
			changes[change]++
			if change < -1 || change > 1 {
				t.Errorf("a seam changes Euler's number from %d to %d", before.Euler, after.Euler)
			}
			again, e := trawl.Sew(less, s)
			want(t, "Sew: error", e, api.OK)
			wanted := sewn(x.Panels, append(slices.Delete(slices.Clone(x.Seams), i, i+1), s)...)
			wantTrawl(t, "Sew after Unsew", again, wanted)
			same, _ := trawl.Count(again)
			want(t, "Count after Unsew and Sew", same, after)
		}
	})
	if changes[-1] == 0 || changes[0] == 0 || changes[1] == 0 {
		t.Errorf("too few seams of a sort: %v", changes)
	}
}

func TestFlippedPanelsChangeLittle(t *testing.T) {
	trawls(43, 200, 10, func(_ *dice, x trawl.Trawl) {
		counts, _ := trawl.Count(x)
		kinds, _ := trawl.Kinds(x)
		pieces, _ := trawl.Pieces(x)
		signs, noSigns := trawl.Signs(x)
		heights, noHeights := trawl.Heights(x)
		for p := range x.Panels {
			flipped, e := trawl.Flip(x, p)
			want(t, "Flip: error", e, api.OK)
			want(t, "CheckTrawl", trawl.CheckTrawl(flipped), api.OK)
			again, _ := trawl.Flip(flipped, p)
			wantTrawl(t, "Flip twice", again, x)
			sameCounts, _ := trawl.Count(flipped)
			want(t, "Count", sameCounts, counts)
			sameKinds, _ := trawl.Kinds(flipped)
			want(t, "Kinds", sameKinds, kinds)
			samePieces, _ := trawl.Pieces(flipped)
			want(t, "Pieces", samePieces, pieces)
			other, e := trawl.Signs(flipped)
			want(t, "Signs: error", e, noSigns)
			if e == api.OK {
				want(t, "Signs", other, turnedSigns(signs, pieces, p))
			}
			level, e := trawl.Heights(flipped)
			want(t, "Heights: error", e, noHeights)
			if e == api.OK {
				// The corner 0 stays where it is, and the other ones come in the opposite order.
				slices.Reverse(level[p][1:])
				want(t, "Heights", level, heights)
			}
		}
	})
}

// turnedSigns returns the signs after a panel is flipped: it has the other sign, or, if it is the first one of its piece, all others there have.
func turnedSigns(signs, pieces []int, p int) []int {
	l := slices.Clone(signs)
	isFirst := slices.Index(pieces, pieces[p]) == p
	for i := range l {
		if pieces[i] == pieces[p] && (i == p) != isFirst {
			l[i] = -l[i]
		}
	}
	return l
}

// TestNothingPanics calls everything with extreme numbers, and with trawls that are not well-formed.
func TestNothingPanics(t *testing.T) {
	all := []trawl.Trawl{{}, tube(false), tube(true), full(), sewn(nil, seam(0, 0, 0, 0)), sewn(make([]trawl.Panel, 2), seam(0, 0, 1, 0)), sewn([]trawl.Panel{panel("a", make([]trawl.Side, 1000)...)})}
	for _, l := range judgedTrawls() {
		all = append(all, l.x)
	}
	for _, x := range all {
		trawl.CheckTrawl(x)
		trawl.Free(x)
		trawl.Corners(x)
		trawl.Pieces(x)
		trawl.Count(x)
		trawl.Signs(x)
		trawl.Twist(x)
		trawl.Openings(x)
		trawl.Mouth(x)
		trawl.Kinds(x)
		trawl.Heights(x)
		trawl.Clash(x)
		for _, n := range extremes() {
			trawl.Unsew(x, n)
			trawl.Flip(x, n)
			trawl.CheckTwist(x, trawl.Way{Panel: n, Seams: []int{n}})
			trawl.CheckTwist(x, trawl.Way{Seams: []int{0, n, 0}})
			for _, e := range []trawl.End{end(n, n), end(0, n), end(n, 0)} {
				trawl.Mate(x, e)
				trawl.Between(x, e, end(0, 0))
				trawl.Between(x, end(0, 0), e)
				trawl.CheckClash(x, steps(trawl.Step{End: e, Back: true}))
				trawl.Sew(x, trawl.Seam{A: e, B: end(0, 0)})
				trawl.Sew(x, trawl.Seam{A: end(0, 0), B: e})
			}
		}
	}
	for _, a := range extremes() {
		for _, b := range extremes() {
			trawl.CheckTrawl(sewn([]trawl.Panel{panel("a", side(a, b), side(b, a), side(1, 1)), polygon("b", 3)}, seam(0, 0, 0, 1), seam(1, 0, 0, 2)))
			trawl.Sum(loads(load("a", a, b)))
			trawl.Floats(loads(load("a", -1000000, 10000)), a, b)
			trawl.Floats(loads(load("a", a, b)), b, a)
		}
	}
}

// roomy returns a copy of a list with one more element behind it in the same memory.
func roomy[T any](l []T, more T) []T {
	return append(slices.Clone(l), more)[:len(l)]
}

// TestArgumentsAreNotChanged holds the arguments, and what lies behind their lists, against what they were.
func TestArgumentsAreNotChanged(t *testing.T) {
	x := tube(true)
	x.Seams = roomy(x.Seams, seam(9, 9, 9, 9))
	for p := range x.Panels {
		x.Panels[p].Sides = roomy(x.Panels[p].Sides, side(7, 7))
	}
	x.Panels = roomy(x.Panels, polygon("x", 3))
	w := trawl.Way{Seams: roomy([]int{0, 1}, 7)}
	l := roomy(steps(ahead(1, 0), back(0, 2), back(0, 1)), ahead(7, 7))
	pulls := roomy(loads(load("a", 300, -2), load("b", -500, 4)), load("x", 7, 7))
	all := func() string {
		return fmt.Sprint(x.Panels[:3], x.Panels[0].Sides[:5], x.Panels[1].Sides[:5], x.Seams[:3], w.Seams[:3], l[:4], pulls[:3])
	}
	before := all()
	sewn, _ := trawl.Sew(x, seam(0, 0, 0, 2))
	less, _ := trawl.Unsew(x, 0)
	flipped, _ := trawl.Flip(x, 1)
	want(t, "CheckTwist", trawl.CheckTwist(x, w), api.OK)
	want(t, "CheckClash", trawl.CheckClash(x, l), api.OK)
	trawl.Kinds(x)
	trawl.Mouth(x)
	trawl.Floats(pulls, 100, 13)
	want(t, "the arguments", all(), before)
	for _, y := range []trawl.Trawl{sewn, less, flipped} {
		for _, p := range y.Panels {
			clear(p.Sides[:cap(p.Sides)])
		}
		clear(y.Panels[:cap(y.Panels)])
		clear(y.Seams[:cap(y.Seams)])
	}
	want(t, "the arguments after the results are changed", all(), before)
}

// TestResultsShareNoMemory changes rows of results, and looks at the others.
func TestResultsShareNoMemory(t *testing.T) {
	x := tube(false)
	corners, _ := trawl.Corners(x)
	heights, _ := trawl.Heights(x)
	openings, _ := trawl.Openings(x)
	for _, rows := range [][][]int{corners, heights} {
		other := fmt.Sprint(rows[1])
		clear(rows[0][:cap(rows[0])])
		want(t, "the second row", fmt.Sprint(rows[1]), other)
	}
	other := fmt.Sprint(openings[1])
	clear(openings[0][:cap(openings[0])])
	want(t, "the second opening", fmt.Sprint(openings[1]), other)
	again, _ := trawl.Corners(x)
	want(t, "Corners again", again, [][]int{{0, 1, 2, 3}, {1, 0, 3, 2}})
}
