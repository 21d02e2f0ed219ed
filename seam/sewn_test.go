package seam_test

import (
	"slices"
	"testing"

	"codend/api"
	"codend/seam"
)

func TestSew(t *testing.T) {
	one := []api.Bar{bar(0, 0, 1)}
	for _, row := range []struct {
		s    sewing
		sewn seam.Sewn
	}{
		{exampleSewing(), seam.Sewn{
			Classes: classes(class(place(0, 0, 0)), class(place(0, 1, 1), place(1, 1, 1)), class(place(1, 0, 0))),
			Bars:    [][2]int{{0, 1}, {1, 2}}}},
		{sewing{[][]api.Bar{one, one}, []seam.Join{joined(place(1, 1, 1), place(0, 1, 1)), joined(place(1, 0, 0), place(0, 0, 0))}}, seam.Sewn{
			Classes: classes(class(place(0, 0, 0), place(1, 0, 0)), class(place(0, 1, 1), place(1, 1, 1))),
			Bars:    [][2]int{{0, 1}, {0, 1}}}}, // two bars between two classes
		{sewing{[][]api.Bar{one}, []seam.Join{joined(place(0, 1, 1), place(0, 0, 0))}}, seam.Sewn{
			Classes: classes(class(place(0, 0, 0), place(0, 1, 1))),
			Bars:    [][2]int{{0, 0}}}}, // a bar from a class to itself
		{sewing{[][]api.Bar{nil, list(bar(2, 0, -1), bar(0, 4, 1))}, []seam.Join{joined(place(1, 1, 5), place(1, 2, 0))}}, seam.Sewn{
			Classes: classes(class(place(1, 2, 0), place(1, 1, 5)), class(place(1, 1, 1)), class(place(1, 0, 4))),
			Bars:    [][2]int{{0, 1}, {0, 2}}}}, // the upper end of a bar has the lesser class
		{sewing{[][]api.Bar{one, one, one}, []seam.Join{joined(place(2, 0, 0), place(1, 0, 0)), joined(place(0, 0, 0), place(2, 0, 0))}}, seam.Sewn{
			Classes: classes(class(place(0, 0, 0), place(1, 0, 0), place(2, 0, 0)), class(place(0, 1, 1)), class(place(1, 1, 1)), class(place(2, 1, 1))),
			Bars:    [][2]int{{0, 1}, {0, 2}, {0, 3}}}},
		{sewing{}, seam.Sewn{}},
		{sewing{nets: make([][]api.Bar, 16)}, seam.Sewn{}},
	} {
		sewn, e := seam.Sew(row.s.nets, row.s.joins)
		wantSewn(t, sewn, row.sewn)
		want(t, "Sew: error", e, api.OK)
	}
	for _, bad := range badSewings() {
		sewn, e := seam.Sew(bad.s.nets, bad.s.joins)
		want(t, "Sew", sewn, seam.Sewn{})
		want(t, "Sew: error", e, bad.e)
	}
}

func wantSewn(t *testing.T, got, wanted seam.Sewn) {
	t.Helper()
	want(t, "Sew: classes", got.Classes, wanted.Classes)
	want(t, "Sew: bars", got.Bars, wanted.Bars)
}

// sewnOf gives equal numbers to places that are tied together, until nothing changes.
func sewnOf(s sewing) seam.Sewn {
	all := knotsOf(s.nets)
	number := map[seam.Place]int{}
	for i, p := range all {
		number[p] = i
	}
	for changed := true; changed; {
		changed = false
		for _, j := range s.joins {
			least := min(number[j.A], number[j.B])
			changed = changed || number[j.A] != number[j.B]
			number[j.A], number[j.B] = least, least
		}
	}
	var sewn seam.Sewn
	index := map[int]int{}
	for _, p := range all {
		if _, found := index[number[p]]; !found {
			index[number[p]] = len(sewn.Classes)
			sewn.Classes = append(sewn.Classes, nil)
		}
		at := index[number[p]]
		sewn.Classes[at] = append(sewn.Classes[at], p)
	}
	for i, net := range s.nets {
		for _, b := range net {
			from, to := index[number[place(i, b.X, b.Y)]], index[number[place(i, b.X+b.Side, b.Y+1)]]
			sewn.Bars = append(sewn.Bars, [2]int{min(from, to), max(from, to)})
		}
	}
	return sewn
}

func TestSewByDefinition(t *testing.T) {
	for _, s := range someSewings() {
		sewn, e := seam.Sew(s.nets, s.joins)
		wantSewn(t, sewn, sewnOf(s))
		want(t, "Sew: error", e, api.OK)
	}
}

func TestSewUpToTheLimits(t *testing.T) {
	full, one := sheet(0, 0, 8, 256), list(bar(0, 0, 1))
	tied := []seam.Join{joined(place(0, 0, 0), place(1, 0, 0)), joined(place(0, 1, 1), place(1, 1, 1))}
	for _, row := range []struct {
		s             sewing
		classes, bars int
		e             api.Errno
	}{
		{sewing{[][]api.Bar{apart(4096)}, nil}, 8192, 4096, api.OK},
		{sewing{[][]api.Bar{apart(4096), one}, nil}, 0, 0, api.ErrMany},
		{sewing{[][]api.Bar{apart(4096), one}, tied[:1]}, 0, 0, api.ErrMany}, // one class too many
		{sewing{[][]api.Bar{apart(4096), one}, tied}, 8192, 4097, api.OK},
		{sewing{[][]api.Bar{full, full}, nil}, 2 * (129*9 + 128*8), 8192, api.OK},
		{sewing{[][]api.Bar{full, full, one}, nil}, 0, 0, api.ErrMany}, // one bar too many
		{sewing{slices.Repeat([][]api.Bar{apart(4096)}, 16), nil}, 0, 0, api.ErrMany},
		{sewing{slices.Repeat([][]api.Bar{apart(4096)}, 16), []seam.Join{{}}}, 0, 0, api.ErrTwice},
	} {
		sewn, e := seam.Sew(row.s.nets, row.s.joins)
		want(t, "Sew: numbers", []int{len(sewn.Classes), len(sewn.Bars)}, []int{row.classes, row.bars})
		want(t, "Sew: error", e, row.e)
		if row.e != api.OK {
			continue
		}
		degrees, e := seam.Degrees(sewn)
		want(t, "Degrees: sum", sumOf(degrees), 2*row.bars)
		want(t, "Degrees: error", e, api.OK)
	}
}

// someSewns returns what is sewn of many forms, also such that no pieces have it.
func someSewns() []seam.Sewn {
	l := []seam.Sewn{
		{},
		{Classes: singles(3)}, // without bars
		{Classes: singles(16), Bars: [][2]int{{0, 15}, {3, 3}, {3, 3}, {0, 15}, {7, 8}, {8, 9}, {7, 9}}},
		{Classes: classes(class(place(5, 9, 9), place(5, 0, 0)), class(place(0, 0, 0))), Bars: [][2]int{{1, 1}, {0, 1}}}, // places and classes in no order
		{Classes: singles(8192), Bars: slices.Repeat([][2]int{{0, 8191}}, 8192)},
		{Classes: classes(class(place(15, 100000, -100000), place(15, -100000, 100000)))},
	}
	d := &dice{7}
	for i := range 60 {
		s := seam.Sewn{Classes: singles(1 + i%20)}
		for range d.below(25) {
			from, to := d.below(len(s.Classes)), d.below(len(s.Classes))
			s.Bars = append(s.Bars, [2]int{min(from, to), max(from, to)})
		}
		l = append(l, s)
	}
	for _, s := range someSewings()[:60] {
		l = append(l, sewnOf(s))
	}
	return l
}

func TestClassOf(t *testing.T) {
	for _, s := range someSewns() {
		for i, c := range s.Classes {
			if len(s.Classes) > 100 && i > 0 && i < len(s.Classes)-1 {
				continue
			}
			for _, p := range c {
				at, e := seam.ClassOf(s, p)
				want(t, "ClassOf", at, i)
				want(t, "ClassOf: error", e, api.OK)
			}
		}
		at, e := seam.ClassOf(s, place(15, 99999, -99999))
		want(t, "ClassOf no class", at, 0)
		want(t, "ClassOf no class: error", e, api.ErrNone)
	}
}

func TestClassOfErrors(t *testing.T) {
	s := seam.Sewn{Classes: classes(class(place(1, 0, 0)), class(place(1, 2, 0), place(2, 0, 0))), Bars: [][2]int{{0, 1}}}
	type row struct {
		p seam.Place
		e api.Errno
	}
	rows := []row{
		{place(0, 0, 0), api.ErrNone},
		{place(1, 0, 2), api.ErrNone},
		{place(2, 2, 0), api.ErrNone},
		{place(1, 1, 0), api.ErrLattice},
		{place(16, 1, 0), api.ErrRange},
		{place(1, 100001, 0), api.ErrRange},
		{place(1, 1, 100000), api.ErrLattice},
	}
	for _, n := range extremes() {
		if n < 0 || n > 15 {
			rows = append(rows, row{place(n, 0, 0), api.ErrRange}, row{place(n, 1, 0), api.ErrRange})
		}
		if n < -api.MaxPlace || n > api.MaxPlace {
			rows = append(rows, row{place(1, n, 0), api.ErrRange}, row{place(1, 1, n), api.ErrRange})
		}
	}
	for _, r := range rows {
		at, e := seam.ClassOf(s, r.p)
		want(t, "ClassOf", at, 0)
		want(t, "ClassOf: error", e, r.e)
	}
	for _, bad := range badSewns() {
		for _, p := range []seam.Place{place(0, 0, 0), place(99, 0, 0), place(0, 1, 0), place(9, 2, 0)} {
			at, e := seam.ClassOf(bad.s, p)
			want(t, "ClassOf", at, 0)
			want(t, "ClassOf: error", e, bad.e)
		}
	}
}

// degreesOf counts the ends of bars of each class.
func degreesOf(s seam.Sewn) []int {
	var degrees []int
	for i := range s.Classes {
		degree := 0
		for _, b := range s.Bars {
			for _, end := range b {
				if end == i {
					degree++
				}
			}
		}
		degrees = append(degrees, degree)
	}
	return degrees
}

func TestDegrees(t *testing.T) {
	s := seam.Sewn{Classes: singles(4), Bars: [][2]int{{0, 1}, {1, 1}, {0, 1}, {1, 2}}}
	degrees, e := seam.Degrees(s)
	want(t, "Degrees", degrees, []int{2, 5, 1, 0})
	want(t, "Degrees: error", e, api.OK)
	for _, s := range someSewns() {
		degrees, e := seam.Degrees(s)
		if len(s.Classes) < 1000 {
			want(t, "Degrees", degrees, degreesOf(s))
		}
		want(t, "Degrees: sum", sumOf(degrees), 2*len(s.Bars))
		want(t, "Degrees: error", e, api.OK)
	}
	for _, bad := range badSewns() {
		degrees, e := seam.Degrees(bad.s)
		want(t, "Degrees", degrees, []int(nil))
		want(t, "Degrees: error", e, bad.e)
	}
}

// partsOf counts the classes that bars lead to no lesser class.
func partsOf(s seam.Sewn) int {
	least := make([]int, len(s.Classes))
	for i := range least {
		least[i] = i
	}
	for changed := true; changed; {
		changed = false
		for _, b := range s.Bars {
			n := min(least[b[0]], least[b[1]])
			changed = changed || least[b[0]] != least[b[1]]
			least[b[0]], least[b[1]] = n, n
		}
	}
	parts := 0
	for i, n := range least {
		if i == n {
			parts++
		}
	}
	return parts
}

func TestCounts(t *testing.T) {
	ring := sewnOf(sewing{[][]api.Bar{list(bar(0, 0, 1)), list(bar(0, 0, 1))}, []seam.Join{joined(place(0, 0, 0), place(1, 0, 0)), joined(place(0, 1, 1), place(1, 1, 1))}})
	for _, row := range []struct {
		s seam.Sewn
		c seam.Count
	}{
		{seam.Sewn{}, seam.Count{}},
		{sewnOf(exampleSewing()), seam.Count{Classes: 3, Bars: 2, Parts: 1}},
		{ring, seam.Count{Classes: 2, Bars: 2, Parts: 1, Cycles: 1}},
		{seam.Sewn{Classes: singles(3)}, seam.Count{Classes: 3, Parts: 3}},
		{seam.Sewn{Classes: singles(2), Bars: [][2]int{{1, 1}, {1, 1}}}, seam.Count{Classes: 2, Bars: 2, Parts: 2, Cycles: 2}},
		{seam.Sewn{Classes: singles(4), Bars: [][2]int{{0, 3}, {2, 3}, {0, 2}}}, seam.Count{Classes: 4, Bars: 3, Parts: 2, Cycles: 1}},
		{seam.Sewn{Classes: singles(8192), Bars: slices.Repeat([][2]int{{0, 8191}}, 8192)}, seam.Count{Classes: 8192, Bars: 8192, Parts: 8191, Cycles: 8191}},
	} {
		c, e := seam.Counts(row.s)
		want(t, "Counts", c, row.c)
		want(t, "Counts: error", e, api.OK)
	}
	for _, s := range someSewns() {
		c, e := seam.Counts(s)
		parts := partsOf(s)
		want(t, "Counts", c, seam.Count{Classes: len(s.Classes), Bars: len(s.Bars), Parts: parts, Cycles: len(s.Bars) - len(s.Classes) + parts})
		want(t, "Counts: error", e, api.OK)
	}
	for _, bad := range badSewns() {
		c, e := seam.Counts(bad.s)
		want(t, "Counts", c, seam.Count{})
		want(t, "Counts: error", e, bad.e)
	}
}
