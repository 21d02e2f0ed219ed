package seam_test

import (
	"slices"
	"testing"

	"codend/api"
	"codend/seam"
)

func TestSeam(t *testing.T) {
	for _, row := range []struct {
		one   int
		a     []api.Knot
		two   int
		b     []api.Knot
		joins []seam.Join
		e     api.Errno
	}{
		{0, edge(knot(0, 0)), 2, edge(knot(0, 0), knot(1, 1)), []seam.Join{joined(place(0, 0, 0), place(2, 0, 0)), joined(place(0, 0, 0), place(2, 1, 1))}, api.OK},
		{15, edge(knot(0, 0), knot(2, 0), knot(3, 1)), 0, edge(knot(5, 5), knot(5, 3)),
			[]seam.Join{joined(place(15, 0, 0), place(0, 5, 5)), joined(place(15, 2, 0), place(0, 5, 5)), joined(place(15, 3, 1), place(0, 5, 3))}, api.OK},
		{3, edge(knot(0, 0), knot(1, 1)), 3, edge(knot(1, 1), knot(2, 2)), []seam.Join{joined(place(3, 0, 0), place(3, 1, 1)), joined(place(3, 1, 1), place(3, 2, 2))}, api.OK},
		{3, zigzag(0, 0, 5), 3, zigzag(0, 0, 5), nil, api.ErrTwice},
		{3, edge(knot(0, 0), knot(1, 1), knot(2, 2)), 3, edge(knot(2, 0), knot(1, 1), knot(0, 2)), nil, api.ErrTwice}, // in the middle alone
		{3, edge(knot(0, 0), knot(1, 1), knot(2, 2)), 3, edge(knot(4, 4), knot(3, 3), knot(2, 2)), nil, api.ErrTwice}, // at the end alone
		{-1, nil, -1, nil, nil, api.ErrRange},
		{0, nil, -1, nil, nil, api.ErrEmpty},
		{0, edge(knot(0, 0)), 16, nil, nil, api.ErrRange},
		{0, edge(knot(0, 0)), 15, nil, nil, api.ErrEmpty},
		{0, edge(knot(0, 0), knot(0, 0)), 0, edge(knot(0, 0)), nil, api.ErrTwice},
		{0, edge(knot(0, 0)), 0, edge(knot(0, 0), knot(4, 0)), nil, api.ErrOpen}, // before the join of 0, 0 with itself
	} {
		joins, e := seam.Seam(row.one, row.a, row.two, row.b)
		want(t, "Seam", joins, row.joins)
		want(t, "Seam: error", e, row.e)
	}
	a := edge(knot(0, 0), knot(1, 1), knot(2, 2))
	_, e := seam.Seam(3, a, 4, a)
	want(t, "Seam of the same knots of two pieces: error", e, api.OK)
}

func TestSeamByDefinition(t *testing.T) {
	for _, x := range someNumbers() {
		a, b := zigzag(0, 0, x.m), zigzag(-6, 2, x.n)
		joins, e := seam.Seam(1, a, 1, b)
		want(t, "Seam: error", e, api.OK)
		pairs, _ := seam.Joins(x.m, x.n)
		var wanted []seam.Join
		for _, pair := range pairs {
			wanted = append(wanted, joined(seam.Place{Piece: 1, Knot: a[pair[0]]}, seam.Place{Piece: 1, Knot: b[pair[1]]}))
		}
		want(t, "Seam", joins, wanted)
	}
}

func TestSeamOfBadEdges(t *testing.T) {
	good := zigzag(0, 0, 3)
	type row struct {
		one int
		a   []api.Knot
		two int
		b   []api.Knot
		e   api.Errno
	}
	var rows []row
	for _, bad := range badEdges() {
		rows = append(rows, row{0, bad.l, 1, good, bad.e}, row{0, good, 1, bad.l, bad.e}, row{15, bad.l, 16, nil, bad.e}, row{16, bad.l, 0, good, api.ErrRange}, row{0, good, -1, bad.l, api.ErrRange})
	}
	for _, n := range extremes() {
		if n < 0 || n > 15 {
			rows = append(rows, row{n, good, 1, good, api.ErrRange}, row{1, good, n, good, api.ErrRange}, row{n, good, n, good, api.ErrRange})
		} else {
			rows = append(rows, row{n, good, n, good, api.ErrTwice})
		}
	}
	for _, r := range rows {
		joins, e := seam.Seam(r.one, r.a, r.two, r.b)
		want(t, "Seam", joins, []seam.Join(nil))
		want(t, "Seam: error", e, r.e)
	}
}

func TestCheckPieces(t *testing.T) {
	for _, nets := range [][][]api.Bar{nil, {nil}, make([][]api.Bar, 16), {sheet(0, 0, 2, 2), sheet(0, 0, 2, 2)}, slices.Repeat([][]api.Bar{apart(4096)}, 16)} {
		want(t, "CheckPieces", seam.CheckPieces(nets), api.OK)
	}
	for _, bad := range badPieceLists() {
		want(t, "CheckPieces", seam.CheckPieces(bad.nets), bad.e)
	}
}

func TestCheckSeams(t *testing.T) {
	for _, s := range someSewings() {
		want(t, "CheckSeams", seam.CheckSeams(s.nets, s.joins), api.OK)
	}
	nets := [][]api.Bar{sheet(0, 0, 2, 2), list(bar(0, 0, 1))}
	for _, joins := range [][]seam.Join{
		nil,
		{joined(place(0, 0, 0), place(1, 0, 0)), joined(place(0, 0, 0), place(1, 0, 0)), joined(place(1, 0, 0), place(0, 0, 0))}, // the same join several times
		{joined(place(0, 0, 0), place(0, 4, 2)), joined(place(1, 0, 0), place(1, 1, 1))},                                         // within a piece
		slices.Repeat([]seam.Join{joined(place(1, 1, 1), place(0, 4, 0))}, 1024),
	} {
		want(t, "CheckSeams", seam.CheckSeams(nets, joins), api.OK)
	}
	for _, bad := range badSewings() {
		want(t, "CheckSeams", seam.CheckSeams(bad.s.nets, bad.s.joins), bad.e)
	}
}

func TestLoose(t *testing.T) {
	s := exampleSewing()
	loose, e := seam.Loose(s.nets, s.joins)
	want(t, "Loose", loose, class(place(0, 0, 0), place(1, 0, 0)))
	want(t, "Loose: error", e, api.OK)
	loose, _ = seam.Loose(s.nets, nil)
	want(t, "Loose without joins", loose, class(place(0, 0, 0), place(0, 1, 1), place(1, 0, 0), place(1, 1, 1)))
	nets := [][]api.Bar{list(bar(4, 0, -1), bar(0, 2, -1)), nil, list(bar(0, 0, -1), bar(0, 0, 1))}
	loose, _ = seam.Loose(nets, []seam.Join{joined(place(2, 0, 0), place(0, 3, 1)), joined(place(0, 3, 1), place(0, -1, 3))})
	want(t, "Loose", loose, class(place(0, 4, 0), place(0, 0, 2), place(2, -1, 1), place(2, 1, 1)))
	for _, s := range someSewings() {
		loose, e := seam.Loose(s.nets, s.joins)
		want(t, "Loose", loose, looseOf(s))
		want(t, "Loose: error", e, api.OK)
	}
	for _, bad := range badSewings() {
		loose, e := seam.Loose(bad.s.nets, bad.s.joins)
		want(t, "Loose", loose, []seam.Place(nil))
		want(t, "Loose: error", e, bad.e)
	}
}

// looseOf looks for each knot in all joins.
func looseOf(s sewing) []seam.Place {
	return slices.DeleteFunc(knotsOf(s.nets), func(p seam.Place) bool {
		return slices.ContainsFunc(s.joins, func(j seam.Join) bool { return j.A == p || j.B == p })
	})
}

// TestLooseOfTheLargestPieces has more loose knots than what is sewn may have classes.
func TestLooseOfTheLargestPieces(t *testing.T) {
	loose, e := seam.Loose(slices.Repeat([][]api.Bar{apart(4096)}, 16), nil)
	want(t, "Loose: number", len(loose), 16*8192)
	want(t, "Loose: error", e, api.OK)
}

func TestCommon(t *testing.T) {
	nets := [][]api.Bar{sheet(0, 0, 2, 2), list(bar(3, 1, 1), bar(4, 2, -1)), nil, list(bar(10, 0, 1), bar(1, 1, -1))}
	for _, row := range []struct {
		one, two int
		joins    []seam.Join
		e        api.Errno
	}{
		{0, 1, []seam.Join{joined(place(0, 3, 1), place(1, 3, 1)), joined(place(0, 4, 2), place(1, 4, 2))}, api.OK},
		{1, 0, []seam.Join{joined(place(1, 3, 1), place(0, 3, 1)), joined(place(1, 4, 2), place(0, 4, 2))}, api.OK},
		{0, 3, []seam.Join{joined(place(0, 1, 1), place(3, 1, 1)), joined(place(0, 0, 2), place(3, 0, 2))}, api.OK},
		{1, 3, nil, api.OK},
		{0, 2, nil, api.OK},
		{2, 0, nil, api.OK},
		{0, 0, nil, api.ErrTwice},
		{3, 3, nil, api.ErrTwice},
		{0, 4, nil, api.ErrUnknown},
		{4, 0, nil, api.ErrUnknown},
		{4, 4, nil, api.ErrUnknown},
		{-1, -1, nil, api.ErrUnknown},
	} {
		joins, e := seam.Common(nets, row.one, row.two)
		want(t, "Common", joins, row.joins)
		want(t, "Common: error", e, row.e)
	}
	for _, n := range extremes() {
		if n < 0 || n > 3 {
			for _, pair := range []numbers{{0, n}, {n, 0}, {n, n}} {
				joins, e := seam.Common(nets, pair.m, pair.n)
				want(t, "Common", joins, []seam.Join(nil))
				want(t, "Common: error", e, api.ErrUnknown)
			}
		}
	}
	_, e := seam.Common(nil, 0, 0)
	want(t, "Common of no pieces: error", e, api.ErrUnknown)
	for _, bad := range badPieceLists() {
		for _, two := range []int{0, 1, 99} {
			joins, e := seam.Common(bad.nets, 0, two)
			want(t, "Common", joins, []seam.Join(nil))
			want(t, "Common: error", e, bad.e)
		}
	}
}

func TestCommonByDefinition(t *testing.T) {
	for _, s := range someSewings() {
		all := knotsOf(s.nets)
		for one := range s.nets {
			for two := range s.nets {
				if one == two {
					continue
				}
				var wanted []seam.Join
				for _, p := range all {
					if other := (seam.Place{Piece: two, Knot: p.Knot}); p.Piece == one && slices.Contains(all, other) {
						wanted = append(wanted, joined(p, other))
					}
				}
				joins, e := seam.Common(s.nets, one, two)
				want(t, "Common", joins, wanted)
				want(t, "Common: error", e, api.OK)
			}
		}
	}
}

// TestCommonOfTheLargestPieces has more joins than pieces may be sewn by.
func TestCommonOfTheLargestPieces(t *testing.T) {
	joins, e := seam.Common([][]api.Bar{apart(4096), apart(4096)}, 1, 0)
	want(t, "Common: number", len(joins), 8192)
	want(t, "Common: error", e, api.OK)
}
