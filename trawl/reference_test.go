package trawl_test

import (
	"slices"
	"strconv"

	"codend/trawl"
)

// Here the terms of the chapter are followed word for word, to compare the program with them.

// dice are numbers without an order, the same ones in each run.
type dice struct{ x uint32 }

func (d *dice) below(n int) int {
	d.x = d.x*1664525 + 1013904223
	return int(d.x>>8) % n
}

func (d *dice) flip() bool {
	return d.below(2) == 1
}

// trawl returns up to so many panels with seams whose twists a function says.
func (d *dice) trawl(panels int, twist func(p, q int) bool) trawl.Trawl {
	var t trawl.Trawl
	for i := range 1 + d.below(panels) {
		var l []trawl.Side
		for range 3 + d.below(6) {
			l = append(l, side(10+d.below(20), d.below(7)-3))
		}
		t.Panels = append(t.Panels, panel("p"+strconv.Itoa(i), l...))
	}
	loose := sidesOf(t)
	for range d.below(len(loose)/2 + 1) {
		i := d.below(len(loose))
		a := loose[i]
		loose = slices.Delete(loose, i, i+1)
		j := d.below(len(loose))
		b := loose[j]
		m, n := t.Panels[a.Panel].Sides[a.Side].Meshes, t.Panels[b.Panel].Sides[b.Side].Meshes
		if m <= 2*n && n <= 2*m {
			loose = slices.Delete(loose, j, j+1)
			t.Seams = append(t.Seams, trawl.Seam{A: a, B: b, Twisted: twist(a.Panel, b.Panel)})
		}
	}
	return t
}

// wild has twists here and there.
func (d *dice) wild(panels int) trawl.Trawl {
	return d.trawl(panels, func(int, int) bool { return d.below(3) == 0 })
}

// signed has the twists of some signs.
func (d *dice) signed(panels int) trawl.Trawl {
	key := d.below(1 << 16)
	return d.trawl(panels, func(p, q int) bool { return key>>p&1 != key>>q&1 })
}

// level gives a trawl the rises of some heights of its points.
func (d *dice) level(t trawl.Trawl) trawl.Trawl {
	points := pointsOf(t)
	var heights []int
	for range countIn(points) {
		heights = append(heights, d.below(50001))
	}
	for _, a := range sidesOf(t) {
		b := endOf(t, a)
		t.Panels[a.Panel].Sides[a.Side].Rise = heights[points[b.Panel][b.Side]] - heights[points[a.Panel][a.Side]]
	}
	return t
}

// trawls visits trawls of all sorts: with signs or without, and with heights or without.
func trawls(key uint32, count, panels int, visit func(d *dice, t trawl.Trawl)) {
	d := &dice{key}
	for i := range count {
		t := d.wild(panels)
		if i%2 == 0 {
			t = d.signed(panels)
		}
		if i%4 < 2 {
			t = d.level(t)
		}
		visit(d, t)
	}
}

func sidesOf(t trawl.Trawl) []trawl.End {
	var l []trawl.End
	for p := range t.Panels {
		for i := range t.Panels[p].Sides {
			l = append(l, end(p, i))
		}
	}
	return l
}

// endOf returns the corner at the end of a side.
func endOf(t trawl.Trawl, e trawl.End) trawl.End {
	if e.Side == len(t.Panels[e.Panel].Sides)-1 {
		return end(e.Panel, 0)
	}
	return end(e.Panel, e.Side+1)
}

// joinedCorners returns the corners that a seam joins.
func joinedCorners(t trawl.Trawl, s trawl.Seam) [2][2]trawl.End {
	if s.Twisted {
		return [2][2]trawl.End{{s.A, s.B}, {endOf(t, s.A), endOf(t, s.B)}}
	}
	return [2][2]trawl.End{{s.A, endOf(t, s.B)}, {endOf(t, s.A), s.B}}
}

// pointsOf gives joined corners the lesser one of their numbers until nothing changes, and then counts the numbers off.
func pointsOf(t trawl.Trawl) [][]int {
	number := map[trawl.End]int{}
	for i, e := range sidesOf(t) {
		number[e] = i
	}
	for changed := true; changed; {
		changed = false
		for _, s := range t.Seams {
			for _, pair := range joinedCorners(t, s) {
				if a, b := number[pair[0]], number[pair[1]]; a != b {
					number[pair[0]], number[pair[1]], changed = min(a, b), min(a, b), true
				}
			}
		}
	}
	var seen []int
	rows := make([][]int, len(t.Panels))
	for _, e := range sidesOf(t) {
		if !slices.Contains(seen, number[e]) {
			seen = append(seen, number[e])
		}
		rows[e.Panel] = append(rows[e.Panel], slices.Index(seen, number[e]))
	}
	return rows
}

// countIn returns how many numbers from 0 on are in rows.
func countIn(rows [][]int) int {
	return slices.Max(slices.Concat(rows...)) + 1
}

// piecesOf goes from each panel that is in no piece to all others that seams join.
func piecesOf(t trawl.Trawl) []int {
	pieces := slices.Repeat([]int{-1}, len(t.Panels))
	var enter func(p, piece int)
	enter = func(p, piece int) {
		if pieces[p] >= 0 {
			return
		}
		pieces[p] = piece
		for _, s := range t.Seams {
			if s.A.Panel == p {
				enter(s.B.Panel, piece)
			}
			if s.B.Panel == p {
				enter(s.A.Panel, piece)
			}
		}
	}
	for p := range t.Panels {
		enter(p, slices.Max(pieces)+1)
	}
	return pieces
}

// seamOf returns the seam of a side, from this side on.
func seamOf(t trawl.Trawl, e trawl.End) (trawl.Seam, bool) {
	for _, s := range t.Seams {
		if s.B == e {
			s.A, s.B = s.B, s.A
		}
		if s.A == e {
			return s, true
		}
	}
	return trawl.Seam{}, false
}

func freeOf(t trawl.Trawl) []trawl.End {
	return slices.DeleteFunc(sidesOf(t), func(e trawl.End) bool {
		_, found := seamOf(t, e)
		return found
	})
}

// otherAt returns the other side of the same panel at a corner.
func otherAt(t trawl.Trawl, e, corner trawl.End) trawl.End {
	for i := range t.Panels[e.Panel].Sides {
		o := end(e.Panel, i)
		if o != e && (o == corner || endOf(t, o) == corner) {
			return o
		}
	}
	panic("a corner with one side")
}

// walkOn returns the free side to which a walk along a side to a corner comes next, and the corner to which it then leads.
func walkOn(t trawl.Trawl, e, corner trawl.End) (trawl.End, trawl.End) {
	for {
		e = otherAt(t, e, corner)
		s, found := seamOf(t, e)
		if !found && e == corner {
			return e, endOf(t, e)
		}
		if !found {
			return e, e
		}
		for _, pair := range joinedCorners(t, s) {
			if pair[0] == corner {
				e, corner = s.B, pair[1]
				break
			}
		}
	}
}

// openingsOf walks from each free side, and keeps the walks from their least sides.
func openingsOf(t trawl.Trawl) [][]trawl.End {
	var all [][]trawl.End
	for _, start := range freeOf(t) {
		l := []trawl.End{start}
		for e, corner := walkOn(t, start, endOf(t, start)); e != start; e, corner = walkOn(t, e, corner) {
			l = append(l, e)
		}
		least := slices.MinFunc(l, func(a, b trawl.End) int { return (a.Panel-b.Panel)*100 + a.Side - b.Side })
		if least == start {
			all = append(all, l)
		}
	}
	return all
}

// areSigns reports whether signs are such as the chapter says.
func areSigns(t trawl.Trawl, signs []int) bool {
	pieces := piecesOf(t)
	for p, sign := range signs {
		if sign != 1 && sign != -1 || slices.Index(pieces, pieces[p]) == p && sign != 1 {
			return false
		}
	}
	for _, s := range t.Seams {
		if (signs[s.A.Panel] != signs[s.B.Panel]) != s.Twisted {
			return false
		}
	}
	return len(signs) == len(t.Panels)
}

// signsOf tries all signs.
func signsOf(t trawl.Trawl) []int {
	for key := range 1 << len(t.Panels) {
		var signs []int
		for p := range t.Panels {
			signs = append(signs, 1-2*(key>>p&1))
		}
		if areSigns(t, signs) {
			return signs
		}
	}
	return nil
}

// areHeights reports whether heights are such as the chapter says.
func areHeights(t trawl.Trawl, heights [][]int) bool {
	at := func(e trawl.End) int { return heights[e.Panel][e.Side] }
	for _, e := range sidesOf(t) {
		if at(endOf(t, e))-at(e) != t.Panels[e.Panel].Sides[e.Side].Rise {
			return false
		}
	}
	for _, s := range t.Seams {
		for _, pair := range joinedCorners(t, s) {
			if at(pair[0]) != at(pair[1]) {
				return false
			}
		}
	}
	pieces := piecesOf(t)
	for p := range t.Panels {
		if slices.Index(pieces, pieces[p]) == p && heights[p][0] != 0 {
			return false
		}
	}
	return true
}

// heightsOf goes around the panels, and takes those that seams join to the height of a joined corner.
func heightsOf(t trawl.Trawl) [][]int {
	heights := make([][]int, len(t.Panels))
	var enter func(p, corner, height int)
	enter = func(p, corner, height int) {
		if heights[p] != nil {
			return
		}
		row := make([]int, len(t.Panels[p].Sides))
		row[corner] = height
		for e := endOf(t, end(p, corner)); e.Side != corner; e = endOf(t, e) {
			before := (e.Side + len(row) - 1) % len(row)
			row[e.Side] = row[before] + t.Panels[p].Sides[before].Rise
		}
		heights[p] = row
		for _, s := range t.Seams {
			pair := joinedCorners(t, s)[0]
			if pair[0].Panel == p {
				enter(pair[1].Panel, pair[1].Side, row[pair[0].Side])
			}
			if pair[1].Panel == p {
				enter(pair[0].Panel, pair[0].Side, row[pair[1].Side])
			}
		}
	}
	for p := range t.Panels {
		enter(p, 0, 0)
	}
	if !areHeights(t, heights) {
		return nil
	}
	return heights
}
