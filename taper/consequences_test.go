package taper_test

import (
	"strconv"
	"strings"
	"testing"

	"codend/api"
	"codend/taper"
)

func TestPrintedWordsAreParsed(t *testing.T) {
	for _, w := range someWords() {
		s, _ := taper.Print(w)
		parsed, index, e := taper.Parse(s)
		want(t, "Parse of what is printed", parsed, w)
		want(t, "Parse of what is printed: index and error", []int{index, int(e)}, []int{0, 0})
	}
}

func TestPowersOfRootsAreTheWords(t *testing.T) {
	for _, w := range someWords() {
		root, n, _ := taper.Root(w)
		power, e := taper.Power(root, n)
		want(t, "Power of the root", power, w)
		want(t, "Power of the root: error", e, api.OK)
		again, once, _ := taper.Root(root)
		want(t, "Root of the root", again, root)
		want(t, "Root of the root: exponent", once, 1)
	}
}

func TestRotationsHaveTheSameLeast(t *testing.T) {
	for _, w := range someWords() {
		least, _ := taper.Least(w)
		for n := range len(w) {
			rotated, _ := taper.Rotate(w, n)
			got, _ := taper.Least(rotated)
			want(t, "Least of a rotation", got, least)
		}
	}
}

func TestSpreadsAreBalanced(t *testing.T) {
	for m := range 65 {
		for n := range 65 - m {
			w, e := taper.Spread("B", m, "N", n)
			if e != api.OK {
				continue
			}
			want(t, "bars of a spread", strings.Count(w, "B"), m)
			want(t, "letters of a spread", len(w), m+n)
			for _, turn := range []int{0, 1, len(w) / 2, len(w) - 1} {
				rotated, _ := taper.Rotate(w, turn)
				balanced, _ := taper.Balanced(rotated)
				want(t, "Balanced "+rotated, balanced, true)
			}
		}
	}
}

func TestExactWordsHaveTheRate(t *testing.T) {
	for _, r := range someRatios() {
		w, e := taper.Exact(r)
		if e != api.OK {
			continue
		}
		rate, _ := taper.Rate(w)
		want(t, "Rate of the exact word", rate, r)
		nearest, _ := taper.Nearest(r, len(w))
		want(t, "Nearest of as many letters", nearest, w)
		share, _ := taper.Share(r)
		want(t, "bars and letters of the exact word", []int{strings.Count(w, "B"), len(w)}, []int{share.Num, share.Den})
	}
}

// TestNoShorterWordHasTheRate looks through all words of the letters for a ratio.
func TestNoShorterWordHasTheRate(t *testing.T) {
	words := shortWords(9)
	for _, r := range []api.Ratio{ratio(0, 1), ratio(1, 2), ratio(2, 5), ratio(1, 3), ratio(3, 7), ratio(1, 1), ratio(5, 2), ratio(4, 1), ratio(7, 2), ratio(1, 17), ratio(17, 1)} {
		shortest := ""
		for _, w := range words {
			if strings.Trim(w, "B"+otherLetter(r)) != "" {
				continue
			}
			if rate, e := taper.Rate(w); e == api.OK && rate == r {
				shortest = w
				break
			}
		}
		w, _ := taper.Exact(r)
		want(t, "length of Exact "+strconv.Itoa(r.Num)+"/"+strconv.Itoa(r.Den), len(w), len(shortest))
	}
}

// TestNoWordIsNearer looks through all words of the letters for a ratio.
func TestNoWordIsNearer(t *testing.T) {
	gap := func(w string, r api.Ratio) (int, int) {
		v, _ := taper.Vector(w)
		d := v[0]*r.Den - r.Num*v[1]
		return max(d, -d), v[1]
	}
	const letters = 8
	words := shortWords(letters)
	for _, r := range someRatios() {
		nearest, _ := taper.Nearest(r, letters)
		least, rows := gap(nearest, r)
		for _, w := range words {
			if strings.Trim(w, "B"+otherLetter(r)) != "" {
				continue
			}
			if d, n := gap(w, r); n > 0 && d*rows < least*n {
				t.Errorf("Nearest %v: got %s, but %s is nearer", r, nearest, w)
			}
		}
	}
}

func TestNeighboursProve(t *testing.T) {
	for _, r := range someRatios() {
		for letters := 1; letters <= 64; letters++ {
			l, _ := taper.Neighbours(r, letters)
			want(t, "CheckNeighbours", taper.CheckNeighbours(r, letters, l), api.OK)
			if l[0].Letters+l[1].Letters <= 64 && l[0] != l[1] {
				want(t, "CheckNeighbours for more letters", taper.CheckNeighbours(r, l[0].Letters+l[1].Letters, l), api.ErrProof)
			}
			w, _ := taper.Nearest(r, letters)
			p := part(strings.Count(w, "B"), len(w))
			want(t, "the nearest word is of a neighbour", p == l[0] || p == l[1], true)
		}
	}
}

func TestEdgesEndWhereTheirVectorLeads(t *testing.T) {
	at := knot(12, -6)
	for _, w := range someWords() {
		for _, times := range []int{1, 3, 4} {
			v, _ := taper.Vector(w)
			there, _ := taper.Walk(at, w, times, true)
			end := there[len(there)-1]
			want(t, "end of an edge", end, knot(at.X+times*v[0], at.Y+times*v[1]))
			back, _ := taper.Walk(end, w, times, false)
			want(t, "end of the edge inwards", back[len(back)-1], knot(at.X, at.Y+2*times*v[1]))
		}
	}
}

func TestRatesOfPowersAndRotations(t *testing.T) {
	for _, w := range shortWords(5) {
		if strings.Trim(w, "T") == "" {
			continue
		}
		power, _ := taper.Power(w, 5)
		rotated, _ := taper.Rotate(power, 7)
		order, e := taper.Compare(rotated, w)
		want(t, "Compare with a rotated power", []int{order, int(e)}, []int{0, 0})
	}
}

func TestResultsShareNoMemory(t *testing.T) {
	at, w := knot(0, 0), "NBTB"
	for range 2 {
		knots, _ := taper.Walk(at, w, 2, true)
		bars, _ := taper.Bars(at, w, 2, true)
		meshes, _ := taper.Meshes(at, w, 2, true)
		l := follow(at, w, 2, true)
		want(t, "Walk again", knots, l.knots)
		want(t, "Bars again", bars, l.bars)
		want(t, "Meshes again", meshes, l.meshes)
		clear(knots)
		clear(bars)
		clear(meshes)
	}
}

// TestNothingPanics calls all functions with numbers and strings of any form.
func TestNothingPanics(t *testing.T) {
	for _, x := range extremes() {
		for _, y := range extremes() {
			r := ratio(x, y)
			taper.Share(r)
			taper.Exact(r)
			taper.Spread("N", x, "B", y)
			taper.Mix("NB", x, "BT", y)
			for _, n := range extremes() {
				taper.Neighbours(r, n)
				taper.Nearest(r, n)
				taper.CheckNeighbours(ratio(2, 5), 4, [2]taper.Part{part(x, n), part(y, n)})
				taper.CheckNeighbours(ratio(2, 5), 4, [2]taper.Part{part(n, x), part(n, y)})
				taper.CheckNeighbours(r, n, [2]taper.Part{part(x, y), part(y, x)})
				callEdges(knot(x, y), "NBT", n)
			}
		}
	}
	for _, bad := range badWords() {
		for _, n := range extremes() {
			taper.Power(bad.w, n)
			taper.Rotate(bad.w, n)
			taper.Spread(bad.w, n, bad.w, n)
			taper.Mix(bad.w, n, bad.w, n)
			callEdges(knot(0, 0), bad.w, n)
		}
		taper.Parse(bad.w)
	}
}

func callEdges(at api.Knot, w string, times int) {
	for _, out := range []bool{true, false} {
		taper.Walk(at, w, times, out)
		taper.Bars(at, w, times, out)
		taper.Meshes(at, w, times, out)
	}
}

func TestNoTextPanics(t *testing.T) {
	const s = "1N20B3T"
	for i := range s {
		for c := range 256 {
			changed := s[:i] + string([]byte{byte(c)}) + s[i+1:]
			w, index, e := taper.Parse(changed)
			if e == api.OK {
				want(t, "CheckWord of what was parsed", taper.CheckWord(w), api.OK)
			} else if index < 0 || index >= len(changed) || w != "" {
				t.Errorf("Parse %q: got %s, %d", changed, w, index)
			}
		}
	}
}
