package bale_test

import (
	"slices"
	"testing"

	"codend/api"
	"codend/bale"
	"codend/panel"
)

func TestBest(t *testing.T) {
	tower := named("tower", 1, edges(in("NN", 64)), edges(in("NN", 64)))
	hookDown, _ := panel.Turn(hook("a"))
	for _, row := range []struct {
		what string
		b    bale.Bale
		l    []panel.Panel
		plan []bale.Place
		n    int
	}{
		{"no pieces", sized(1, 1), nil, nil, 0},
		{"one piece", sized(2, 9), list(wing()), places(up(0, 0)), 3},
		{"the examples", sized(2, 9), examples(), places(up(0, 0), up(1, 6)), 6},
		{"a bale that is just long enough", sized(2, 6), examples(), places(up(0, 0), up(1, 6)), 6},
		{"a piece that is better turned", sized(2, 9), list(wedge("a"), wedge("b")), places(up(0, 0), down(1, 4)), 8},
		{"a piece that is better turned, in a bale that is just long enough", sized(2, 8), list(wedge("a"), wedge("b")), places(up(0, 0), down(1, 4)), 8},
		{"the first piece turned", sized(2, 9), list(hookDown, box("b", 1, 1)), places(down(0, 0), up(1, 10)), 8},
		{"the second piece first", sized(4, 99), list(box("b", 1, 1), flag("a")), places(up(1, 0), up(0, 2)), 6},
		{"equal lengths", sized(9, 99), list(box("a", 1, 1), box("b", 2, 1), box("c", 1, 2)), places(up(0, 0), up(1, 2), up(2, 6)), 4},
		{"the highest piece", sized(256, 2000), list(tower), places(up(0, 0)), 1},
		{"five pieces", sized(2, 99), manyPieces(5), places(up(0, 0), up(1, 6), up(2, 12), up(3, 18), up(4, 24)), 15},
	} {
		plan, n, e := bale.Best(row.b, row.l)
		want(t, "Best of "+row.what, plan, row.plan)
		want(t, "Best of "+row.what+": length", n, row.n)
		want(t, "Best: error", e, api.OK)
	}
	for _, row := range []struct {
		what string
		b    bale.Bale
		l    []panel.Panel
		e    api.Errno
	}{
		{"six pieces", sized(2, 2000), manyPieces(6), api.ErrLimit},
		{"six pieces that do not fit", sized(1, 1), manyPieces(6), api.ErrLimit},
		{"sixteen pieces", sized(2, 2000), manyPieces(16), api.ErrLimit},
		{"seventeen pieces", sized(2, 2000), manyPieces(17), api.ErrMany},
		{"a short bale", sized(2, 5), examples(), api.ErrInfeasible},
		{"a low bale", sized(1, 2000), examples(), api.ErrInfeasible},
		{"one high piece among others", sized(255, 2000), list(wing(), tower, door()), api.ErrInfeasible},
		{"a piece that reaches too far without bars", sized(2, 3), list(eaves("a")), api.ErrInfeasible},
		{"five pieces in a short bale", sized(2, 14), manyPieces(5), api.ErrInfeasible},
	} {
		plan, n, e := bale.Best(row.b, row.l)
		want(t, "Best of "+row.what, plan, []bale.Place(nil))
		want(t, "Best of "+row.what+": length", n, 0)
		want(t, "Best of "+row.what+": error", e, row.e)
	}
}

// compareWays compares the indices and the ways of two plans, place by place.
func compareWays(a, b []bale.Place) int {
	return slices.CompareFunc(a, b, func(p, q bale.Place) int {
		switch {
		case p.Piece != q.Piece:
			return p.Piece - q.Piece
		case p.Turned == q.Turned:
			return 0
		case p.Turned:
			return 1
		}
		return -1
	})
}

// bestOf tries all orders.
func bestOf(b bale.Bale, l []panel.Panel) ([]bale.Place, int, api.Errno) {
	var best []bale.Place
	least := -1
	for _, order := range ordersOf(len(l)) {
		plan := laidOf(l, order)
		n := lengthOf(l, plan)
		if errorIn(b, l, plan) == api.OK && (least < 0 || n < least || n == least && compareWays(plan, best) < 0) {
			best, least = plan, n
		}
	}
	if least < 0 {
		return nil, 0, api.ErrInfeasible
	}
	return best, least, api.OK
}

func TestBestByDefinition(t *testing.T) {
	d := &dice{23}
	count := map[api.Errno]int{}
	for _, l := range append(lots(150, 3), list(d.piece("a"), d.piece("b"), d.piece("c"), d.piece("d")), list(d.piece("a"), d.piece("b"), d.piece("c"), d.piece("d"), d.piece("e"))) {
		b := sized(5+d.below(3), 10+d.below(50))
		best, length, wanted := bestOf(b, l)
		count[wanted]++
		plan, n, e := bale.Best(b, l)
		want(t, "Best", plan, best)
		want(t, "Best: length", n, length)
		want(t, "Best: error", e, wanted)
	}
	if count[api.OK] < 30 || count[api.ErrInfeasible] < 15 {
		t.Errorf("numbers of errors: %v", count)
	}
}

func TestBound(t *testing.T) {
	belly := named("belly", 2, edges(out("B", 1), in("B", 1)), edges(out("BB", 1)))
	for _, row := range []struct {
		b      bale.Bale
		l      []panel.Panel
		bounds bale.Bounds
	}{
		{sized(2, 9), nil, bale.Bounds{}},
		{sized(2, 9), examples(), bale.Bounds{Bars: 6, Widths: 3}}, // 22 / 4
		{sized(1, 1), examples(), bale.Bounds{Bars: 11, Widths: 3}},
		{sized(11, 1), examples(), bale.Bounds{Bars: 1, Widths: 3}},
		{sized(10, 1), examples(), bale.Bounds{Bars: 2, Widths: 3}},
		{sized(256, 1), examples(), bale.Bounds{Bars: 1, Widths: 3}},
		{sized(2, 9), list(belly), bale.Bounds{Bars: 4, Widths: 4}}, // 13 / 4, from -1 to 6
		{sized(2, 9), list(box("a", 1, 1), wing(), box("b", 2, 1)), bale.Bounds{Bars: 6, Widths: 3}},
		{sized(2, 9), list(eaves("a")), bale.Bounds{Bars: 1, Widths: 4}},
		{sized(256, 9), list(box("a", 128, 8)), bale.Bounds{Bars: 8, Widths: 128}},
	} {
		bounds, e := bale.Bound(row.b, row.l)
		want(t, "Bound", bounds, row.bounds)
		want(t, "Bound: error", e, api.OK)
	}
}

func TestBoundByDefinition(t *testing.T) {
	d := &dice{29}
	for _, l := range lots(300, 6) {
		b := sized(1+d.below(20), 1)
		bars := 0
		var wanted bale.Bounds
		for i, p := range l {
			bars += len(netAt(l, up(i, 0)))
			line := linesOf(p, d.below(2) == 1)
			for 2*wanted.Widths < line.greatest()-line.least() {
				wanted.Widths++
			}
		}
		for 2*b.Rows*wanted.Bars < bars {
			wanted.Bars++
		}
		bounds, e := bale.Bound(b, l)
		want(t, "Bound", bounds, wanted)
		want(t, "Bound: error", e, api.OK)
	}
}

func TestPack(t *testing.T) {
	long := named("long", 1, edges(in("N", 2)), edges(in("N", 1), out("T", 10), in("N", 1)))
	hookDown, _ := panel.Turn(hook("c"))
	for _, row := range []struct {
		what  string
		stock []bale.Bale
		l     []panel.Panel
		plans [][]bale.Place
		e     api.Errno
	}{
		{"nothing", nil, nil, nil, api.OK},
		{"no pieces", stockOf(2), nil, make([][]bale.Place, 2), api.OK},
		{"no bales", nil, examples(), nil, api.ErrInfeasible},
		{"one bale", stockOf(1), examples(), [][]bale.Place{{up(0, 0), up(1, 6)}}, api.OK},
		{"the first bale", stockOf(2), examples(), [][]bale.Place{{up(0, 0), up(1, 6)}, nil}, api.OK},
		{"short bales", []bale.Bale{{Name: "a", Rows: 1, Length: 9}, {Name: "b", Rows: 2, Length: 4}, {Name: "c", Rows: 2, Length: 4}}, examples(), [][]bale.Place{nil, {up(0, 0)}, {up(1, 0)}}, api.OK},
		{"a gap in the first bale", []bale.Bale{{Name: "a", Rows: 2, Length: 4}, {Name: "b", Rows: 2, Length: 9}}, list(wing(), door(), box("c", 1, 1)), [][]bale.Place{{up(0, 0), up(2, 6)}, {up(1, 0)}}, api.OK},
		{"a piece that fits nowhere", []bale.Bale{{Name: "a", Rows: 2, Length: 4}, {Name: "b", Rows: 1, Length: 9}}, examples(), nil, api.ErrInfeasible},
		{"a short bale", []bale.Bale{sized(2, 5)}, examples(), nil, api.ErrInfeasible},
		{"a piece that is better turned", stockOf(1), list(wedge("a"), wedge("b")), [][]bale.Place{{up(0, 0), down(1, 4)}}, api.OK},
		{"a piece that fits turned alone", []bale.Bale{sized(2, 8)}, list(wedge("a"), wedge("b")), [][]bale.Place{{up(0, 0), down(1, 4)}}, api.OK},
		{"equal lengths", []bale.Bale{sized(2, 9)}, list(hookDown), [][]bale.Place{{up(0, 0)}}, api.OK},
		// turned, the piece itself would end at 16 and not at 18, but the plan ends at 22 either way
		{"a piece below another one", []bale.Bale{sized(4, 99)}, list(long, hook("b")), [][]bale.Place{{up(0, 0), up(1, 2)}}, api.OK},
	} {
		plans, e := bale.Pack(row.stock, row.l)
		want(t, "Pack: error for "+row.what, e, row.e)
		want(t, "Pack: number of plans for "+row.what, len(plans), len(row.plans))
		for i, plan := range plans {
			want(t, "Pack for "+row.what, plan, row.plans[i])
		}
	}
	plans, e := bale.Pack(stockOf(17), examples())
	want(t, "Pack of 17 bales", plans, [][]bale.Place(nil))
	want(t, "Pack of 17 bales: error", e, api.ErrMany)
	_, e = bale.Pack([]bale.Bale{sized(2, 9), sized(2, 9)}, list(panel.Panel{}))
	want(t, "Pack of a bale twice: error", e, api.ErrTwice)
}

// packed puts the pieces into bales by the definition.
func packed(stock []bale.Bale, l []panel.Panel) ([][]bale.Place, api.Errno) {
	plans := make([][]bale.Place, len(stock))
	for piece := range l {
		at := -1
		for i, b := range stock {
			upright, turned := laidOf(l, append(slices.Clone(plans[i]), up(piece, 0))), laidOf(l, append(slices.Clone(plans[i]), down(piece, 0)))
			if lengthOf(l, turned) < lengthOf(l, upright) {
				upright = turned
			}
			if at < 0 && errorIn(b, l, upright) == api.OK {
				at, plans[i] = i, upright
			}
		}
		if at < 0 {
			return nil, api.ErrInfeasible
		}
	}
	return plans, api.OK
}

func TestPackByDefinition(t *testing.T) {
	d := &dice{31}
	count := map[api.Errno]int{}
	for _, l := range lots(300, 8) {
		stock := stockOf(1 + d.below(4))
		for i := range stock {
			stock[i].Rows, stock[i].Length = 4+d.below(4), 5+d.below(40)
		}
		wanted, err := packed(stock, l)
		count[err]++
		plans, e := bale.Pack(stock, l)
		want(t, "Pack: error", e, err)
		want(t, "Pack: number of plans", len(plans), len(wanted))
		for i, plan := range plans {
			want(t, "Pack", plan, wanted[i])
		}
	}
	if count[api.OK] < 50 || count[api.ErrInfeasible] < 50 {
		t.Errorf("numbers of errors: %v", count)
	}
}
