package seam_test

import (
	"math"
	"reflect"
	"slices"
	"testing"

	"codend/api"
	"codend/netting"
	"codend/seam"
)

// want reports a result that is not the expected one; empty lists are equal.
func want(t *testing.T, what string, got, wanted any) {
	t.Helper()
	g, w := reflect.ValueOf(got), reflect.ValueOf(wanted)
	if g.Kind() == reflect.Slice && g.Type() == w.Type() && g.Len() == 0 && w.Len() == 0 {
		return
	}
	if !reflect.DeepEqual(got, wanted) {
		t.Errorf("%s: got %v, want %v", what, got, wanted)
	}
}

func knot(x, y int) api.Knot {
	return api.Knot{X: x, Y: y}
}

func bar(x, y, side int) api.Bar {
	return api.Bar{X: x, Y: y, Side: side}
}

func list(bars ...api.Bar) []api.Bar {
	return bars
}

func edge(knots ...api.Knot) []api.Knot {
	return knots
}

func place(piece, x, y int) seam.Place {
	return seam.Place{Piece: piece, Knot: knot(x, y)}
}

func joined(a, b seam.Place) seam.Join {
	return seam.Join{A: a, B: b}
}

// zigzag returns an edge that goes up from a knot with so many meshes.
func zigzag(x, y, meshes int) []api.Knot {
	var l []api.Knot
	for i := range meshes {
		l = append(l, knot(x+i%2, y+i))
	}
	return l
}

// sheet returns a sheet that is known to be there.
func sheet(x, y, columns, rows int) []api.Bar {
	l, e := netting.Sheet(knot(x, y), columns, rows)
	if e != api.OK {
		panic("no such sheet")
	}
	return l
}

// apart returns a net of so many bars without a common knot.
func apart(bars int) []api.Bar {
	var l []api.Bar
	for i := range bars {
		l = append(l, bar(2*i, 0, 1))
	}
	return l
}

// dice are numbers without an order, the same ones in each run.
type dice struct{ x uint32 }

func (d *dice) below(n int) int {
	d.x = d.x*1664525 + 1013904223
	return int(d.x>>8) % n
}

// net returns a small sheet that lacks some of its bars.
func (d *dice) net() []api.Bar {
	var l []api.Bar
	keep := 30 + d.below(71)
	for _, b := range sheet(2*d.below(3)-2, 2*d.below(3)-2, 1+d.below(3), 1+d.below(4)) {
		if d.below(100) < keep {
			l = append(l, b)
		}
	}
	return l
}

// sewing is pieces and their joins.
type sewing struct {
	nets  [][]api.Bar
	joins []seam.Join
}

// someSewings returns pieces with joins of many forms: along chains, in rings, several times, within one piece.
func someSewings() []sewing {
	d := &dice{1}
	l := []sewing{{}, {nets: [][]api.Bar{nil, nil}}, exampleSewing()}
	for i := range 300 {
		var s sewing
		for range 1 + d.below(4) {
			s.nets = append(s.nets, d.net())
		}
		all := knotsOf(s.nets)
		for range d.below(3 * (1 + i%12)) {
			if len(all) < 2 {
				break
			}
			at := d.below(len(all))
			s.joins = append(s.joins, joined(all[at], all[(at+1+d.below(len(all)-1))%len(all)]))
		}
		l = append(l, s)
	}
	return l
}

// exampleSewing is the first one of example 5.
func exampleSewing() sewing {
	return sewing{[][]api.Bar{list(bar(0, 0, 1)), list(bar(0, 0, 1))}, []seam.Join{joined(place(0, 1, 1), place(1, 1, 1))}}
}

// knotsOf returns the places of all ends of bars, by pieces, then by Y, then by X.
func knotsOf(nets [][]api.Bar) []seam.Place {
	var l []seam.Place
	for i, net := range nets {
		for _, b := range net {
			for _, p := range []seam.Place{place(i, b.X, b.Y), place(i, b.X+b.Side, b.Y+1)} {
				if !slices.Contains(l, p) {
					l = append(l, p)
				}
			}
		}
	}
	slices.SortFunc(l, comparePlaces)
	return l
}

func comparePlaces(a, b seam.Place) int {
	x, y := []int{a.Piece, a.Knot.Y, a.Knot.X}, []int{b.Piece, b.Knot.Y, b.Knot.X}
	return slices.Compare(x, y)
}

type badEdge struct {
	l []api.Knot
	e api.Errno
}

// badEdges returns lists that are no edges; where one has several errors, the first one in the chapter's order is its error.
func badEdges() []badEdge {
	l := []badEdge{
		{nil, api.ErrEmpty},
		{edge(), api.ErrEmpty},
		{zigzag(0, 0, 257), api.ErrMany},
		{make([]api.Knot, 257), api.ErrMany},
		{append(edge(knot(1, 0)), zigzag(0, 0, 256)...), api.ErrMany},
		{edge(knot(1, 0)), api.ErrLattice},
		{edge(knot(0, 0), knot(1, 0)), api.ErrLattice},
		{edge(knot(0, 0), knot(0, 3), knot(5, 5)), api.ErrLattice},
		{edge(knot(-99999, 100000)), api.ErrLattice},
		{edge(knot(100001, 1)), api.ErrRange},
		{edge(knot(1, -100001)), api.ErrRange},
		{edge(knot(100001, 0)), api.ErrRange},
		{edge(knot(100000, 100000), knot(100001, 100001)), api.ErrRange},
		{edge(knot(-100000, 0), knot(-100002, 0)), api.ErrRange},
		{edge(knot(0, 0), knot(0, 0)), api.ErrTwice},
		{edge(knot(0, 0), knot(1, 1), knot(0, 0)), api.ErrTwice},
		{edge(knot(0, 0), knot(2, 0), knot(1, 1), knot(1, -1), knot(2, 0)), api.ErrTwice},
		{edge(knot(0, 0), knot(1, 1), knot(2, 2), knot(0, 0)), api.ErrTwice}, // no step, either
		{append(zigzag(0, 0, 255), knot(0, 0)), api.ErrTwice},
		{edge(knot(0, 0), knot(2, 2)), api.ErrOpen},
		{edge(knot(0, 0), knot(1, 1), knot(5, 5), knot(1, 1), knot(0, 1)), api.ErrOpen}, // others behind it
		{append(zigzag(0, 0, 255), knot(10, 0)), api.ErrOpen},
	}
	for _, n := range extremes() {
		if n < -api.MaxPlace || n > api.MaxPlace {
			l = append(l, badEdge{edge(knot(n, 0)), api.ErrRange}, badEdge{edge(knot(0, n)), api.ErrRange}, badEdge{edge(knot(n, n)), api.ErrRange}, badEdge{edge(knot(0, 0), knot(n, n), knot(0, 0)), api.ErrRange})
		}
	}
	return l
}

type numbers struct {
	m, n int
}

// badNumbers returns numbers that are none of meshes.
func badNumbers() []numbers {
	var l []numbers
	for _, n := range extremes() {
		if n < 1 || n > 256 {
			l = append(l, numbers{n, 1}, numbers{1, n}, numbers{256, n}, numbers{n, 256}, numbers{n, n})
		}
	}
	return l
}

// pairing is pairs for numbers of meshes, and their error.
type pairing struct {
	m, n int
	l    [][2]int
	e    api.Errno
}

// badJoins returns pairs that do not join edges.
func badJoins() []pairing {
	rows := []pairing{
		{3, 5, nil, api.ErrShape},
		{1, 1, nil, api.ErrShape},
		{3, 5, [][2]int{{0, 0}, {0, 1}, {1, 2}, {2, 4}}, api.ErrShape},
		{3, 5, [][2]int{{0, 0}, {0, 1}, {0, 2}, {1, 3}, {2, 4}, {2, 4}}, api.ErrShape},
		{2, 1, [][2]int{{9, 9}}, api.ErrShape},
		{1, 2, [][2]int{{0, 0}, {0, 2}}, api.ErrRange},
		{1, 2, [][2]int{{0, 0}, {1, 1}}, api.ErrRange},
		{2, 2, [][2]int{{-1, 0}, {1, 1}}, api.ErrRange},
		{2, 2, [][2]int{{0, -1}, {1, 1}}, api.ErrRange},
		{2, 2, [][2]int{{0, 2}, {1, 1}}, api.ErrRange}, // not 0, 0, either
		{2, 1, [][2]int{{0, 0}, {2, 0}}, api.ErrRange},
		{2, 2, [][2]int{{1, 1}, {2, 2}}, api.ErrOrder}, // the pair behind it is out of range
		{1, 2, [][2]int{{0, 1}, {0, 1}}, api.ErrOrder},
		{2, 1, [][2]int{{1, 0}, {1, 0}}, api.ErrOrder},
		{2, 2, [][2]int{{0, 0}, {0, 1}}, api.ErrOrder},
		{2, 2, [][2]int{{0, 0}, {1, 0}}, api.ErrOrder},
		{2, 2, [][2]int{{0, 0}, {0, 0}}, api.ErrOrder},
		{1, 3, [][2]int{{0, 0}, {0, 2}, {0, 2}}, api.ErrOrder},
		{1, 3, [][2]int{{0, 0}, {0, 0}, {0, 2}}, api.ErrOrder},
		{3, 4, [][2]int{{0, 0}, {2, 1}, {2, 2}, {2, 3}}, api.ErrOrder},
		{4, 3, [][2]int{{0, 0}, {1, 2}, {2, 2}, {3, 2}}, api.ErrOrder},
		{3, 4, [][2]int{{0, 0}, {1, 1}, {0, 2}, {2, 3}}, api.ErrOrder},
		{4, 3, [][2]int{{0, 0}, {1, 1}, {2, 0}, {3, 2}}, api.ErrOrder},
		{3, 4, [][2]int{{0, 0}, {0, 1}, {1, 2}, {1, 3}}, api.ErrOpen},
		{4, 3, [][2]int{{0, 0}, {1, 0}, {2, 0}, {3, 0}}, api.ErrOpen},
		{256, 255, reachedOnly(256, 254), api.ErrOpen},
	}
	for _, x := range badNumbers() {
		rows = append(rows, pairing{x.m, x.n, nil, api.ErrRange}, pairing{x.m, x.n, [][2]int{{0, 0}}, api.ErrRange})
	}
	for _, n := range extremes() {
		if n < 0 || n > 1 {
			rows = append(rows, pairing{2, 2, [][2]int{{0, 0}, {n, 1}}, api.ErrRange}, pairing{2, 2, [][2]int{{0, 0}, {1, n}}, api.ErrRange}, pairing{2, 2, [][2]int{{0, n}, {0, n}}, api.ErrRange})
		}
	}
	return rows
}

// reachedOnly returns pairs along a first edge of m meshes that do not go beyond the first n of a second one.
func reachedOnly(m, n int) [][2]int {
	var l [][2]int
	for i := range m {
		l = append(l, [2]int{i, min(i, n-1)})
	}
	return l
}

type badNet struct {
	l []api.Bar
	e api.Errno
}

// badNets returns lists that are no nets.
func badNets() []badNet {
	return []badNet{
		{make([]api.Bar, api.MaxBars+1), api.ErrMany},
		{list(bar(0, 0, 1), bar(100001, 1, 1)), api.ErrRange},
		{list(bar(100000, 0, 1)), api.ErrRange},
		{list(bar(0, 0, 1), bar(1, 0, 1)), api.ErrLattice},
		{list(bar(0, 0, 1), bar(2, 0, 0)), api.ErrKind},
		{list(bar(2, 0, 1), bar(0, 0, 1)), api.ErrOrder},
		{list(bar(2, 0, 1), bar(2, 0, 1)), api.ErrOrder},
	}
}

type badPieces struct {
	nets [][]api.Bar
	e    api.Errno
}

// badPieceLists returns lists of nets that are no pieces.
func badPieceLists() []badPieces {
	bad := list(bar(0, 0, 0))
	rows := []badPieces{
		{make([][]api.Bar, 17), api.ErrMany},
		{append([][]api.Bar{bad}, make([][]api.Bar, 16)...), api.ErrMany},
		{[][]api.Bar{list(bar(0, 0, 1)), list(bar(1, 0, 1)), bad}, api.ErrLattice},
		{append(make([][]api.Bar, 15), bad), api.ErrKind},
	}
	for _, b := range badNets() {
		rows = append(rows, badPieces{[][]api.Bar{b.l}, b.e}, badPieces{[][]api.Bar{sheet(0, 0, 2, 2), nil, b.l, bad}, b.e})
	}
	return rows
}

type badSewing struct {
	s sewing
	e api.Errno
}

// badSewings returns joins that are none of their pieces.
func badSewings() []badSewing {
	nets := [][]api.Bar{sheet(0, 0, 2, 2), nil, list(bar(10, 0, 1))}
	good := joined(place(0, 0, 0), place(2, 10, 0))
	var rows []badSewing
	add := func(e api.Errno, joins ...seam.Join) {
		rows = append(rows, badSewing{sewing{nets, joins}, e}, badSewing{sewing{nets, append([]seam.Join{good, good}, joins...)}, e})
	}
	for _, n := range extremes() {
		if n < 0 || n > 2 {
			add(api.ErrUnknown, joined(place(n, 0, 0), place(0, 0, 0)))
			add(api.ErrUnknown, joined(place(0, 0, 0), place(n, 0, 0)))
			add(api.ErrUnknown, joined(place(n, 1, 0), place(0, 1, 0)))
			add(api.ErrUnknown, joined(place(n, 0, 0), place(n, 0, 0)))
			add(api.ErrNone, joined(place(0, n, n), place(0, 0, 0)))
		}
		if n < 0 || n > 4 {
			add(api.ErrNone, joined(place(0, 0, 0), place(0, n, 0)))
			add(api.ErrNone, joined(place(0, 0, n), place(0, 0, 0)))
		}
	}
	add(api.ErrNone, joined(place(0, 1, 0), place(0, 0, 0)))   // no place of the lattice
	add(api.ErrNone, joined(place(0, 2, 1), place(0, 0, 0)))   // the centre of a mesh
	add(api.ErrNone, joined(place(0, 0, 0), place(1, 0, 0)))   // a piece without bars
	add(api.ErrNone, joined(place(0, 0, 0), place(2, 0, 0)))   // a knot of another piece
	add(api.ErrNone, joined(place(0, 0, 0), place(2, 11, 0)))  // above it there is one
	add(api.ErrNone, joined(place(0, 6, 0), place(9, 0, 0)))   // A before B
	add(api.ErrNone, joined(place(0, 0, 0), place(0, 99, 99))) // twice nothing
	add(api.ErrNone, joined(place(0, 99, 99), place(0, 99, 99)))
	add(api.ErrTwice, joined(place(0, 2, 0), place(0, 2, 0)))
	add(api.ErrTwice, joined(place(2, 11, 1), place(2, 11, 1)))
	add(api.ErrTwice, joined(place(0, 2, 0), place(0, 2, 0)), joined(place(9, 0, 0), place(0, 0, 0)))
	add(api.ErrUnknown, joined(place(9, 0, 0), place(0, 0, 0)), joined(place(0, 2, 0), place(0, 2, 0)))
	add(api.ErrMany, make([]seam.Join, 1025)...)
	rows = append(rows, badSewing{sewing{nets, slices.Repeat([]seam.Join{good}, 1025)}, api.ErrMany})
	for _, bad := range badPieceLists() {
		rows = append(rows, badSewing{sewing{bad.nets, nil}, bad.e}, badSewing{sewing{bad.nets, []seam.Join{{}}}, bad.e}, badSewing{sewing{bad.nets, make([]seam.Join, 1025)}, bad.e})
	}
	return rows
}

type badSewn struct {
	s seam.Sewn
	e api.Errno
}

func classes(l ...[]seam.Place) [][]seam.Place {
	return l
}

func class(l ...seam.Place) []seam.Place {
	return l
}

// singles returns so many classes of one place each.
func singles(n int) [][]seam.Place {
	var l [][]seam.Place
	for i := range n {
		l = append(l, class(place(i%16, 2*i, 0)))
	}
	return l
}

// badSewns returns what cannot be what is sewn.
func badSewns() []badSewn {
	two := singles(2)
	rows := []badSewn{
		{seam.Sewn{Classes: singles(8193)}, api.ErrMany},
		{seam.Sewn{Classes: make([][]seam.Place, 8193)}, api.ErrMany},
		{seam.Sewn{Classes: classes(nil), Bars: make([][2]int, 8193)}, api.ErrMany},
		{seam.Sewn{Classes: two, Bars: make([][2]int, 8193)}, api.ErrMany},
		{seam.Sewn{Classes: classes(nil)}, api.ErrEmpty},
		{seam.Sewn{Classes: classes(two[0], nil, class(place(16, 0, 0)))}, api.ErrEmpty},
		{seam.Sewn{Classes: classes(two[0], nil), Bars: [][2]int{{5, 4}}}, api.ErrEmpty},
		{seam.Sewn{Classes: classes(class(place(16, 0, 0)), nil)}, api.ErrRange},
		{seam.Sewn{Classes: classes(class(place(0, 0, 0), place(16, 1, 0)))}, api.ErrRange},
		{seam.Sewn{Classes: classes(class(place(0, 0, 100001), place(0, 1, 0)))}, api.ErrRange},
		{seam.Sewn{Classes: classes(class(place(0, 0, 0)), class(place(0, 2, 0), place(0, 1, 0)))}, api.ErrLattice},
		{seam.Sewn{Classes: classes(class(place(0, 1, 0), place(0, 1, 0)))}, api.ErrLattice},
		{seam.Sewn{Classes: classes(class(place(0, 0, 0), place(0, 0, 0)))}, api.ErrTwice},
		{seam.Sewn{Classes: classes(class(place(3, 5, 5)), class(place(3, 7, 5)), class(place(2, 5, 5), place(3, 5, 5)))}, api.ErrTwice},
		{seam.Sewn{Classes: classes(class(place(3, 5, 5), place(0, 0, 0), place(3, 5, 5), place(0, 1, 0))), Bars: [][2]int{{9, 9}}}, api.ErrTwice},
		{seam.Sewn{Bars: [][2]int{{0, 0}}}, api.ErrRange},
		{seam.Sewn{Classes: two, Bars: [][2]int{{0, 1}, {2, 1}, {1, 0}}}, api.ErrRange}, // and in a wrong order
		{seam.Sewn{Classes: two, Bars: [][2]int{{0, 0}, {0, 1}, {1, 0}, {0, 2}}}, api.ErrOrder},
	}
	for _, n := range extremes() {
		if n < 0 || n > 15 {
			rows = append(rows, badSewn{seam.Sewn{Classes: classes(class(place(n, 0, 0)))}, api.ErrRange})
		}
		if n < 0 || n > 1 {
			rows = append(rows, badSewn{seam.Sewn{Classes: two, Bars: [][2]int{{n, 1}}}, api.ErrRange}, badSewn{seam.Sewn{Classes: two, Bars: [][2]int{{0, n}}}, api.ErrRange})
		}
		if n < -api.MaxPlace || n > api.MaxPlace {
			rows = append(rows, badSewn{seam.Sewn{Classes: classes(class(place(0, n, 0)))}, api.ErrRange}, badSewn{seam.Sewn{Classes: classes(class(place(0, 0, n)))}, api.ErrRange})
		}
	}
	return rows
}

// extremes are numbers at and beyond all limits.
func extremes() []int {
	return []int{math.MinInt, math.MinInt + 1, -1 << 32, -200001, -200000, -100001, -100000, -257, -256, -2, -1, 0, 1, 2, 3, 4, 15, 16, 17, 255, 256, 257, 1024, 8192, 100000, 100001, 200000, 200001, api.MaxNumber, 1 << 31, 1 << 32, 1<<32 + 1, 1 << 62, math.MaxInt - 1, math.MaxInt}
}
