package braid_test

import (
	"cmp"
	"slices"

	"codend/api"
	"codend/braid"
)

// walked follows a course from knot to knot.
func walked(c braid.Course) []api.Knot {
	at, up := c.At, c.Up
	l := []api.Knot{at}
	for range c.Bars {
		if c.Right {
			at.X++
		} else {
			at.X--
		}
		if up {
			at.Y++
		} else {
			at.Y--
		}
		up = !up
		l = append(l, at)
	}
	return l
}

func lastOf(c braid.Course) api.Knot {
	w := walked(c)
	return w[len(w)-1]
}

// barsOf returns the bars of courses as they are made.
func barsOf(l ...braid.Course) []api.Bar {
	var made []api.Bar
	for _, c := range l {
		w := walked(c)
		for i := range c.Bars {
			low, high := w[i], w[i+1]
			if low.Y > high.Y {
				low, high = high, low
			}
			made = append(made, bar(low.X, low.Y, high.X-low.X))
		}
	}
	return made
}

func inOrder(l []api.Bar) []api.Bar {
	l = slices.Clone(l)
	slices.SortFunc(l, func(a, b api.Bar) int {
		return cmp.Or(a.Y-b.Y, a.X-b.X, a.Side-b.Side)
	})
	return l
}

// knotsOf returns the ends of bars, by Y, then by X.
func knotsOf(net []api.Bar) []api.Knot {
	var l []api.Knot
	for _, b := range net {
		l = append(l, knot(b.X, b.Y), knot(b.X+b.Side, b.Y+1))
	}
	slices.SortFunc(l, func(a, b api.Knot) int { return cmp.Or(a.Y-b.Y, a.X-b.X) })
	return slices.Compact(l)
}

// beginnings returns the courses with which a piece of twine begins.
func beginnings(l []braid.Course) []int {
	var at []int
	for i := range l {
		if i == 0 || lastOf(l[i-1]) != l[i].At {
			at = append(at, i)
		}
	}
	return at
}

// errorOf examines the courses of a list that is not too long, one by one, each bar against each one before; the courses have no errors of their own.
func errorOf(l []braid.Course) api.Errno {
	lowest := func(c braid.Course) int { return min(walked(c)[0].Y, walked(c)[1].Y) }
	var made []api.Bar
	for i, c := range l {
		own := barsOf(c)
		switch {
		case i > 0 && lowest(c) < lowest(l[i-1]):
			return api.ErrOrder
		case slices.ContainsFunc(own, func(b api.Bar) bool { return slices.Contains(made, b) }):
			return api.ErrTwice
		}
		made = append(made, own...)
		if len(made) > 4096 {
			return api.ErrLarge
		}
	}
	return api.OK
}

// rowsOf counts the columns that the bars between two rows of knots lead through, and reports whether a net with bars hangs together.
func rowsOf(net []api.Bar) ([]braid.Row, bool) {
	columns := map[int]map[int]bool{}
	for _, b := range net {
		if columns[b.Y] == nil {
			columns[b.Y] = map[int]bool{}
		}
		columns[b.Y][min(b.X, b.X+b.Side)] = true
	}
	var l []braid.Row
	for y := net[0].Y; y <= net[len(net)-1].Y; y++ {
		var all []int
		for x := range columns[y] {
			all = append(all, x)
		}
		slices.Sort(all)
		if len(all) == 0 || all[len(all)-1]-all[0] != len(all)-1 {
			return nil, false
		}
		l = append(l, row(y, all[0], all[len(all)-1]+1))
	}
	return l, true
}

// following returns the course that makes the bars of a row of a net, found among all that begin at its ends.
func following(net []api.Bar, r braid.Row, right bool) braid.Course {
	var own []api.Bar
	for _, b := range net {
		if b.Y == r.Y {
			own = append(own, b)
		}
	}
	from := r.Last
	if right {
		from = r.First
	}
	for _, up := range []bool{true, false} {
		c := braid.Course{At: knot(from, r.Y+1), Right: right, Up: up, Bars: len(own)}
		if up {
			c.At.Y = r.Y
		}
		if slices.Equal(inOrder(barsOf(c)), own) {
			return c
		}
	}
	panic("no course follows a row")
}

// worked returns the courses of a net in directions that a function says: right or not for each row.
func worked(net []api.Bar, rows []braid.Row, right func(i int) bool) []braid.Course {
	var l []braid.Course
	for i, r := range rows {
		l = append(l, following(net, r, right(i)))
	}
	return l
}

// compiledOf tries all choices of directions, those to the right first.
func compiledOf(net []api.Bar) []braid.Course {
	rows, _ := rowsOf(net)
	var best []braid.Course
	for key := range 1 << len(rows) {
		l := worked(net, rows, func(i int) bool { return key>>(len(rows)-1-i)&1 == 0 })
		if best == nil || len(beginnings(l)) < len(beginnings(best)) {
			best = l
		}
	}
	return best
}

// A strand is a beginning of a program: how many pieces of twine it needs, and its directions, r or l for each row.
type strand struct {
	pieces int
	l      string
}

// compiledUpwards keeps, row by row, the best beginning for both directions of the last course; r is the better letter.
func compiledUpwards(net []api.Bar) []braid.Course {
	rows, _ := rowsOf(net)
	compare := func(a, b strand) int { return cmp.Or(a.pieces-b.pieces, -cmp.Compare(a.l, b.l)) }
	best := []strand{{1, "r"}, {1, "l"}}
	for i := 1; i < len(rows); i++ {
		var next []strand
		for _, way := range []string{"r", "l"} {
			c := following(net, rows[i], way == "r")
			var both []strand
			for _, s := range best {
				before := following(net, rows[i-1], s.l[i-1] == 'r')
				both = append(both, strand{s.pieces + len(beginnings(program(before, c))) - 1, s.l + way})
			}
			next = append(next, slices.MinFunc(both, compare))
		}
		best = next
	}
	s := slices.MinFunc(best, compare)
	return worked(net, rows, func(i int) bool { return s.l[i] == 'r' })
}

// endsOf follows the bars of each part of a net, and counts its odd knots.
func endsOf(net []api.Bar) int {
	at := map[api.Knot][]api.Knot{}
	for _, b := range net {
		low, high := knot(b.X, b.Y), knot(b.X+b.Side, b.Y+1)
		at[low] = append(at[low], high)
		at[high] = append(at[high], low)
	}
	sum := 0
	seen := map[api.Knot]bool{}
	for _, k := range knotsOf(net) {
		if seen[k] {
			continue
		}
		odd := 0
		seen[k] = true
		for open := []api.Knot{k}; len(open) > 0; open = open[1:] {
			odd += len(at[open[0]]) % 2
			for _, other := range at[open[0]] {
				if !seen[other] {
					seen[other] = true
					open = append(open, other)
				}
			}
		}
		sum += max(odd/2, 1)
	}
	return sum
}

type dice struct{ x uint32 }

func (d *dice) below(n int) int {
	d.x = d.x*1664525 + 1013904223
	return int(d.x>>8) % n
}

func (d *dice) flip() bool {
	return d.below(2) == 1
}

// course returns a course of up to so many bars near a place, or, often, one that goes on from a knot.
func (d *dice) course(from api.Knot, n int) braid.Course {
	at := from
	if d.below(3) == 0 {
		at = knot(d.below(9)-4, from.Y+d.below(3))
		at.X += (at.X + at.Y) & 1
	}
	return braid.Course{At: at, Right: d.flip(), Up: d.below(4) > 0, Bars: 1 + d.below(n)}
}

// program returns a program of up to so many courses of up to so many bars.
func (d *dice) program(courses, n int) []braid.Course {
	from := knot(d.below(5)*2-4, d.below(5)*2-4)
	var l []braid.Course
	for range d.below(courses + 1) {
		c := d.course(from, n)
		if more := append(slices.Clip(l), c); errorOf(more) == api.OK {
			l, from = more, lastOf(c)
		}
	}
	return l
}

// net returns one with up to so many rows of up to so many bars, which mostly begin or end where the row before does.
func (d *dice) net(rows, n int) []api.Bar {
	y := d.below(7) - 3
	first := d.below(7) - 3
	last := first + 1 + d.below(n)
	var l []api.Bar
	for i := range 1 + d.below(rows) {
		if i > 0 {
			first += []int{0, 0, 0, 1, -1, d.below(5) - 2}[d.below(6)]
			last += []int{0, 0, 0, 1, -1, d.below(5) - 2}[d.below(6)]
		}
		last = min(max(last, first+1), first+n)
		for x := first; x < last; x++ {
			if (x+y+i)%2 == 0 {
				l = append(l, bar(x, y+i, 1))
			} else {
				l = append(l, bar(x+1, y+i, -1))
			}
		}
	}
	return l
}

// programs calls a function with random programs of several sizes.
func programs(seed uint32, count int, try func(d *dice, l []braid.Course)) {
	d := &dice{seed}
	for i := range count {
		try(d, d.program(1+i%12, 1+i%7))
	}
}

// nets calls a function with random nets that hang together in rows.
func nets(seed uint32, count, rows int, try func(d *dice, net []api.Bar)) {
	d := &dice{seed}
	for i := range count {
		try(d, d.net(1+i%rows, 1+i%9))
	}
}
